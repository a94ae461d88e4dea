/- Package code's reader, as the laws behind law 6 ask for it. -/
import Derived.Test.YteiilmnehdbdiaaGreatDoorCodZ
import Derived.Test.YteiilmnehdbdiaaGreatDoorCodJ
namespace Go.Proofs.YteiilmnehdbdiaaGreatDoor
open Go.RowKit

theorem rdC : RdC Rd6 where
  keep := Rd6.keep
  lt := Rd6.lt
  new v zs w hl _ hn := new6_any v zs w hl hn
  err w g L U bs e hr := (err6_any g L U bs e w hr).mono fun _ _ h => ⟨h.1, h.2 ▸ Below.refl _ _⟩
  left w g L U bs e hr := (left6_any g L U bs e w hr).mono fun _ _ h => ⟨h.1, h.2 ▸ Below.refl _ _⟩
end Go.Proofs.YteiilmnehdbdiaaGreatDoor
