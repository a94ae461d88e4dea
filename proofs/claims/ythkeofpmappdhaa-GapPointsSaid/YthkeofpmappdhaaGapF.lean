/- What law 3 asks of package gap holds of this code. -/
import Derived.Test.YthkeofpmappdhaaGapC
import Derived.Test.YthkeofpmappdhaaGapU
import Derived.Test.YthkeofpmappdhaaGapD
namespace Go.Proofs.Ythkeofpmappdhaa
open Go.RowKit

theorem gapC : GapC where
  new a b w _ _ := gNew_any a b w
  right a b w := gRight_any a b w
  has a b x w := gHas_any a b x w
  within a b c d w := gWithin_any a b c d w
  width a b w ha hb := gWidth_any a b w ha hb
  mid a b w ha hb := gMid_any a b w ha hb
  shift a b x w ha hb hx := gShift_any a b x w ha hb hx
  grow a b x y w ha hb hx hy := gGrow_any a b x y w ha hb hx hy
  meet v gs w hv _ hn := gMeet_any v gs w hv hn
  hull v gs w hv hf hn := gHull_any v gs w hv hf hn
end Go.Proofs.Ythkeofpmappdhaa
