/- What the laws behind law 6 ask of package code's reader: it is made, it keeps, it tells its error and how much is left. -/
import Derived.Test.YteiilmnehdbdiaaGreatDoorCodW
namespace Go.Proofs.YteiilmnehdbdiaaGreatDoor
open Go.RowKit

structure RdC (Rd : World → Nat → Nat → Nat → List Int → Int → Prop) : Prop where
  keep : ∀ {w w' : World} {g L U bs e}, Rd w g L U bs e → w.heap.size ≤ w'.heap.size → (∀ k, L ≤ k → k < U → w'.heap[k]? = w.heap[k]?) → Rd w' g L U bs e
  lt : ∀ {w : World} {g L U bs e}, Rd w g L U bs e → L ≤ U ∧ U ≤ w.heap.size
  new : ∀ v zs w, Lst w w.heap.size .u8 v zs → IsByte zs → zs.length ≤ 1000000 → Calls Tryz.prog 24 #[v] w fun e w' => ∃ g, e = .returned (ptrV g) ∧ Rd w' g w.heap.size w'.heap.size zs 0 ∧ Below w.heap.size w w'
  err : ∀ w g L U bs e, Rd w g L U bs e → Calls Tryz.prog 30 #[ptrV g] w fun e' w' => e' = .returned (.int .i64 e) ∧ Below w.heap.size w w'
  left : ∀ w g L U bs e, Rd w g L U bs e → Calls Tryz.prog 29 #[ptrV g] w fun e' w' => e' = .returned (.int .i64 bs.length) ∧ Below w.heap.size w w'
section
variable {Rd : World → Nat → Nat → Nat → List Int → Int → Prop} {w w' : World} {g L U L' U' : Nat} {bs : List Int} {e : Int}
theorem RdC.below (G : RdC Rd) (h : Rd w g L U bs e) (hb : Below w.heap.size w w') : Rd w' g L U bs e := G.keep h hb.size fun k _ hk => hb.block k (Nat.lt_of_lt_of_le hk (G.lt h).2)
theorem RdC.aside (G : RdC Rd) (h : Rd w g L U bs e) (hb : Aside L' U' w w') (hU : U ≤ L') : Rd w' g L U bs e := G.keep h hb.size fun k _ hk => hb.block k (Nat.lt_of_lt_of_le hk (G.lt h).2) (Or.inl (Nat.lt_of_lt_of_le hk hU))
end
end Go.Proofs.YteiilmnehdbdiaaGreatDoor
