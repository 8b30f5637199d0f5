/- Where all lies in the words, as mathematics (layer 9): a slot's word, an object's; what is used, a field, what is taken. No dump is read here. -/
import Derived.Test.YtbklkpbcdijgoaaVm
namespace Go.Proofs.Ytbklkpbcdijgoaa
open Go.RowKit
def belowB (n m : Int) : Bool := decide (0 ≤ n ∧ n < m)
def slotB (i f : Int) : Bool := decide (0 ≤ i ∧ i < 96 ∧ 0 ≤ f ∧ f < 5)
def objB (i f : Int) : Bool := decide (0 ≤ i ∧ i < 32 ∧ 0 ≤ f ∧ f < 8)
theorem belowB_yes {n m : Int} : belowB n m = true ↔ 0 ≤ n ∧ n < m := by simp [belowB]
theorem belowB_no {n m : Int} : belowB n m = false ↔ n < 0 ∨ m ≤ n := by simp [belowB]; omega
theorem slotB_yes {i f : Int} : slotB i f = true ↔ 0 ≤ i ∧ i < 96 ∧ 0 ≤ f ∧ f < 5 := by simp [slotB]
theorem slotB_no {i f : Int} : slotB i f = false ↔ (i < 0 ∨ 96 ≤ i) ∨ (f < 0 ∨ 5 ≤ f) := by simp [slotB]; omega
theorem objB_yes {i f : Int} : objB i f = true ↔ 0 ≤ i ∧ i < 32 ∧ 0 ≤ f ∧ f < 8 := by simp [objB]
theorem objB_no {i f : Int} : objB i f = false ↔ (i < 0 ∨ 32 ≤ i) ∨ (f < 0 ∨ 8 ≤ f) := by simp [objB]; omega
/-- a slot's word, 0 if there is none -/
def slotI (i f : Int) : Int := if slotB i f = true then 5 * i + f else 0
/-- an object's -/
def objI (i f : Int) : Int := if objB i f = true then 480 + 8 * i + f else 0
theorem slotI_yes {i f : Int} (h : slotB i f = true) : slotI i f = 5 * i + f := by simp [slotI, h]
theorem slotI_no {i f : Int} (h : slotB i f = false) : slotI i f = 0 := by simp [slotI, h]
theorem objI_yes {i f : Int} (h : objB i f = true) : objI i f = 480 + 8 * i + f := by simp [objI, h]
theorem objI_no {i f : Int} (h : objB i f = false) : objI i f = 0 := by simp [objI, h]
theorem objI_lt (i f : Int) : 0 ≤ objI i f ∧ objI i f < 738 := by
  cases h : objB i f with
  | false => rw [objI_no h]; omega
  | true => rw [objI_yes h]; have := objB_yes.1 h; omega
theorem slotI_lt (i f : Int) : 0 ≤ slotI i f ∧ slotI i f < 738 := by
  cases h : slotB i f with
  | false => rw [slotI_no h]; omega
  | true => rw [slotI_yes h]; have := slotB_yes.1 h; omega
/-- a word as a field's number -/
def numI (w : Int) : Int := if 4611686018427387904 < w then 0 else w
theorem numI_rng {w : Int} (h : U64 w) : 0 ≤ numI w ∧ numI w ≤ 4611686018427387904 := by
  have := h.1
  unfold numI
  split <;> omega
def fieldP (o f : Int) : Vp Int := if objB o f = true then .rd (objI o f) fun w => .ret (numI w) else .ret 0
def refP (o f : Int) : Vp (Int × Bool) := (fieldP o f).bind fun n => .ret (if belowB (n - 1) 32 = true then (n - 1, true) else (0, false))
def putP (o f n : Int) : Vp Unit := if objB o f = true ∧ 0 ≤ n then .wr (objI o f) n (.ret ()) else .ret ()
def isP (o k : Int) : Vp Bool := if objB o 0 = true ∧ 0 ≤ k then .rd (objI o 0) fun w => .ret (w == k) else .ret false
def usedP : Vp (Int × Int) := .rd 736 fun a => .rd 737 fun b => .ret (min a 96, min b 32)
def takeP (a b : Int) : Vp (Int × Int × Int) :=
  if a < 0 ∨ b < 0 then .ret (0, 0, 1) else usedP.bind fun u => if 96 - u.1 < a ∨ 32 - u.2 < b then .ret (0, 0, 7) else .wr 736 (u.1 + a) (.wr 737 (u.2 + b) (.ret (u.1, u.2, 0)))
section
variable {L : List Int} {o f n k : Int}
/-- a field's number, of plain words -/
def fieldL (L : List Int) (o f : Int) : Int := if objB o f = true then numI (atL L (480 + 8 * o + f)) else 0
def refL (L : List Int) (o f : Int) : Int × Bool := if belowB (fieldL L o f - 1) 32 = true then (fieldL L o f - 1, true) else (0, false)
def putL (L : List Int) (o f n : Int) : List Int := if objB o f = true ∧ 0 ≤ n then setL L (480 + 8 * o + f) n else L
def isL (L : List Int) (o k : Int) : Bool := objB o 0 && decide (0 ≤ k) && (atL L (480 + 8 * o) == k)
theorem fieldP_plain : (fieldP o f).run machP L = (fieldL L o f, L) := by
  unfold fieldP fieldL
  split
  · next h => rw [Vp.run_rdP, Vp.run_ret, objI_yes h]
  · rfl
theorem refP_plain : (refP o f).run machP L = (refL L o f, L) := by
  unfold refP refL
  rw [Vp.run_bind_is fieldP_plain, Vp.run_ret]
theorem putP_plain : (putP o f n).run machP L = ((), putL L o f n) := by
  unfold putP putL
  split
  · next h => rw [Vp.run_wrP, Vp.run_ret, objI_yes h.1]
  · rfl
theorem isP_plain : (isP o k).run machP L = (isL L o k, L) := by
  unfold isP isL
  by_cases h : objB o 0 = true ∧ 0 ≤ k
  · rw [if_pos h, Vp.run_rdP, Vp.run_ret, objI_yes h.1]
    simp [h]
  · rw [if_neg h, Vp.run_ret]
    congr 1
    cases h1 : objB o 0 <;> simp [h1] at h ⊢
    omega
def usedL (L : List Int) : Int × Int := (min (atL L 736) 96, min (atL L 737) 32)
theorem usedP_plain : usedP.run machP L = (usedL L, L) := rfl
/-- what a Take answers: the first slot, the first object, the error -/
def takeA (L : List Int) (a b : Int) : Int × Int × Int :=
  if a < 0 ∨ b < 0 then (0, 0, 1) else if 96 - (usedL L).1 < a ∨ 32 - (usedL L).2 < b then (0, 0, 7) else ((usedL L).1, (usedL L).2, 0)
def takeL (L : List Int) (a b : Int) : List Int :=
  if a < 0 ∨ b < 0 then L else if 96 - (usedL L).1 < a ∨ 32 - (usedL L).2 < b then L else setL (setL L 736 ((usedL L).1 + a)) 737 ((usedL L).2 + b)
theorem takeP_plain {a b : Int} : (takeP a b).run machP L = (takeA L a b, takeL L a b) := by
  unfold takeP takeA takeL
  split
  · rfl
  · rw [Vp.run_bind_is usedP_plain]
    split
    · rfl
    · rfl
end
end Go.Proofs.Ytbklkpbcdijgoaa
