/- The words of the document's state, as mathematics: which are put, one behind the other (layers 9 to 21). No dump is read here. -/
import Derived.Test.YtbklkpbcdijgoaaRefStM
namespace Go.Proofs.Ytbklkpbcdijgoaa
open Go.RowKit
/-- what kid number k of slot i puts -/
def kidW (i : Nat) (l : List Int) (k : Nat) : List (Int × Int) :=
  (if k = 0 then [(5 * (i : Int) + 2, l.getD k 0 + 1)] else [(5 * l.getD k 0 + 4, l.getD (k - 1) 0 + 1)]) ++ (if k + 1 < l.length then [(5 * l.getD k 0 + 3, l.getD (k + 1) 0 + 1)] else [])
/-- what slot i puts -/
def slotW (S : RSt) (i : Nat) : List (Int × Int) := [(5 * (i : Int), (S.cap i).word), (5 * (i : Int) + 1, S.par i + 1)] ++ (List.range (S.kids i).length).flatMap (kidW i (S.kids i))
theorem range_flat_succ {α : Type} (f : Nat → List α) (n : Nat) : (List.range (n + 1)).flatMap f = (List.range n).flatMap f ++ f n := by
  rw [List.range_succ, List.flatMap_append]
  simp
theorem applyW_step (f : Nat → List (Int × Int)) (n : Nat) (L : List Int) : applyW ((List.range (n + 1)).flatMap f) L = applyW (f n) (applyW ((List.range n).flatMap f) L) := by rw [range_flat_succ, applyW_append]
theorem applyW_slot (S : RSt) (i : Nat) (L : List Int) : applyW (slotW S i) L = applyW ((List.range (S.kids i).length).flatMap (kidW i (S.kids i))) (setL (setL L (5 * (i : Int)) (S.cap i).word) (5 * (i : Int) + 1) (S.par i + 1)) := rfl
end Go.Proofs.Ytbklkpbcdijgoaa
