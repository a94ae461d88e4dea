/- Products and quotients of whole numbers together. -/
import Derived.Test.YtmafkknnekkcdaaRefHm
import Derived.Test.YtmafkknnekkcdaaRefHd
namespace Go.Proofs.Ytmafkknnekkcdaa
open Go.RowKit

end Go.Proofs.Ytmafkknnekkcdaa
