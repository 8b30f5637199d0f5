/- Where all lies in the words, as mathematics (layer 9): a slot's word, an object's; what is used, a field, what is taken. No dump is read here. -/
import Derived.Test.YtlcefgfcihgocaaVm
namespace Go.Proofs.Ytlcefgfcihgocaa
open Go.RowKit
def belowB (n m : Int) : Bool := decide (0 ≤ n ∧ n < m)
def objB (i f : Int) : Bool := decide (0 ≤ i ∧ i < 32 ∧ 0 ≤ f ∧ f < 8)
theorem belowB_yes {n m : Int} : belowB n m = true ↔ 0 ≤ n ∧ n < m := by simp [belowB]
theorem belowB_no {n m : Int} : belowB n m = false ↔ n < 0 ∨ m ≤ n := by simp [belowB]; omega
theorem objB_yes {i f : Int} : objB i f = true ↔ 0 ≤ i ∧ i < 32 ∧ 0 ≤ f ∧ f < 8 := by simp [objB]
theorem objB_no {i f : Int} : objB i f = false ↔ (i < 0 ∨ 32 ≤ i) ∨ (f < 0 ∨ 8 ≤ f) := by simp [objB]; omega
/-- an object's -/
def objI (i f : Int) : Int := if objB i f = true then 480 + 8 * i + f else 0
theorem objI_yes {i f : Int} (h : objB i f = true) : objI i f = 480 + 8 * i + f := by simp [objI, h]
theorem objI_no {i f : Int} (h : objB i f = false) : objI i f = 0 := by simp [objI, h]
/-- a word as a field's number -/
def numI (w : Int) : Int := if 4611686018427387904 < w then 0 else w
theorem numI_rng {w : Int} (h : U64 w) : 0 ≤ numI w ∧ numI w ≤ 4611686018427387904 := by
  have := h.1
  unfold numI
  split <;> omega
def fieldP (o f : Int) : Vp Int := if objB o f = true then .rd (objI o f) fun w => .ret (numI w) else .ret 0
def refP (o f : Int) : Vp (Int × Bool) := (fieldP o f).bind fun n => .ret (if belowB (n - 1) 32 = true then (n - 1, true) else (0, false))
def putP (o f n : Int) : Vp Unit := if objB o f = true ∧ 0 ≤ n then .wr (objI o f) n (.ret ()) else .ret ()
section
variable {L : List Int} {o f n k : Int}
/-- a field's number, of plain words -/
def fieldL (L : List Int) (o f : Int) : Int := if objB o f = true then numI (atL L (480 + 8 * o + f)) else 0
def refL (L : List Int) (o f : Int) : Int × Bool := if belowB (fieldL L o f - 1) 32 = true then (fieldL L o f - 1, true) else (0, false)
def putL (L : List Int) (o f n : Int) : List Int := if objB o f = true ∧ 0 ≤ n then setL L (480 + 8 * o + f) n else L
theorem fieldP_plain : (fieldP o f).run machP L = (fieldL L o f, L) := by
  unfold fieldP fieldL
  split
  · next h => rw [Vp.run_rdP, Vp.run_ret, objI_yes h]
  · rfl
theorem refP_plain : (refP o f).run machP L = (refL L o f, L) := by
  unfold refP refL
  rw [Vp.run_bind_is fieldP_plain, Vp.run_ret]
theorem putP_plain : (putP o f n).run machP L = ((), putL L o f n) := by
  unfold putP putL
  split
  · next h => rw [Vp.run_wrP, Vp.run_ret, objI_yes h.1]
  · rfl
end
end Go.Proofs.Ytlcefgfcihgocaa
