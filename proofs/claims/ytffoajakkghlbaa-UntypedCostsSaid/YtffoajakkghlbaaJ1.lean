/- A function of a view as mathematics: what it reads and writes, one behind the other (layers 9 and up). No dump is read here. -/
import Derived.Test.YtffoajakkghlbaaViewM
namespace Go.Proofs.Ytffoajakkghlbaa
open Go.RowKit
/-- what is read and written of a view, as mathematics -/
structure Mach (σ : Type) where
  rd : σ → Int → Int × σ
  wr : σ → Int → Int → σ
/-- plain words -/
def machP : Mach (List Int) := ⟨fun L i => (atL L i, L), setL⟩
/-- a function that reads, writes, and tells something -/
inductive Vp (α : Type) : Type where
  | ret (a : α)
  | rd (i : Int) (k : Int → Vp α)
  | wr (i v : Int) (k : Vp α)
namespace Vp
variable {σ α β : Type}
def run (M : Mach σ) : Vp α → σ → α × σ
  | ret a, s => (a, s)
  | rd i k, s => (k (M.rd s i).1).run M (M.rd s i).2
  | wr i v k, s => k.run M (M.wr s i v)
def bind : Vp α → (α → Vp β) → Vp β
  | ret a, f => f a
  | rd i k, f => rd i fun x => (k x).bind f
  | wr i v k, f => wr i v (k.bind f)
section
variable {M : Mach σ} {s : σ}
theorem run_ret (a : α) : (ret a).run M s = (a, s) := rfl
theorem run_rd (i : Int) (k : Int → Vp α) : (rd i k).run M s = (k (M.rd s i).1).run M (M.rd s i).2 := rfl
theorem run_wr (i v : Int) (k : Vp α) : (wr i v k).run M s = k.run M (M.wr s i v) := rfl
theorem run_bind (p : Vp α) (f : α → Vp β) : (p.bind f).run M s = (f (p.run M s).1).run M (p.run M s).2 := by
  induction p generalizing s with
  | ret a => rfl
  | rd i k ih => exact ih _
  | wr i v k ih => exact ih
theorem run_bind_is {p : Vp α} {f : α → Vp β} {a : α} {s1 : σ} (h : p.run M s = (a, s1)) : (p.bind f).run M s = (f a).run M s1 := by rw [run_bind, h]
theorem run_yes {c : Prop} [Decidable c] {p q : Vp α} (h : c) : (if c then p else q).run M s = p.run M s := by rw [if_pos h]
theorem run_no {c : Prop} [Decidable c] {p q : Vp α} (h : ¬ c) : (if c then p else q).run M s = q.run M s := by rw [if_neg h]
end
theorem run_rdP {L : List Int} (i : Int) (k : Int → Vp α) : (rd i k).run machP L = (k (atL L i)).run machP L := rfl
theorem run_wrP {L : List Int} (i v : Int) (k : Vp α) : (wr i v k).run machP L = k.run machP (setL L i v) := rfl
end Vp
/-- is it a word -/
def U64 (x : Int) : Prop := 0 ≤ x ∧ x ≤ 18446744073709551615
/-- are they words -/
def Us (L : List Int) : Prop := ∀ x, x ∈ L → U64 x
theorem Us.atL {L : List Int} (h : Us L) (i : Int) : U64 (atL L i) := by
  rcases atL_cases L i with ⟨k, x, rfl, hx, hv, -⟩ | ⟨-, hv, -⟩
  · rw [hv]; exact h x (List.mem_of_getElem? hx)
  · rw [hv]; exact ⟨by omega, by omega⟩
theorem Us.set {L : List Int} (h : Us L) (i : Int) {v : Int} (hv : U64 v) : Us (setL L i v) := fun x hx => by
  unfold setL at hx
  split at hx
  · rcases List.mem_or_eq_of_mem_set hx with h1 | h1
    · exact h x h1
    · subst h1; exact hv
  · exact h x hx
end Go.Proofs.Ytffoajakkghlbaa
/- Where all lies in the words, as mathematics (layer 9): a slot's word, an object's; what is used, a field, what is taken. No dump is read here. -/
namespace Go.Proofs.Ytffoajakkghlbaa
open Go.RowKit
def belowB (n m : Int) : Bool := decide (0 ≤ n ∧ n < m)
def slotB (i f : Int) : Bool := decide (0 ≤ i ∧ i < 96 ∧ 0 ≤ f ∧ f < 5)
def objB (i f : Int) : Bool := decide (0 ≤ i ∧ i < 32 ∧ 0 ≤ f ∧ f < 8)
theorem belowB_yes {n m : Int} : belowB n m = true ↔ 0 ≤ n ∧ n < m := by simp [belowB]
theorem belowB_no {n m : Int} : belowB n m = false ↔ n < 0 ∨ m ≤ n := by simp [belowB]; omega
theorem slotB_yes {i f : Int} : slotB i f = true ↔ 0 ≤ i ∧ i < 96 ∧ 0 ≤ f ∧ f < 5 := by simp [slotB]
theorem slotB_no {i f : Int} : slotB i f = false ↔ (i < 0 ∨ 96 ≤ i) ∨ (f < 0 ∨ 5 ≤ f) := by simp [slotB]; omega
theorem objB_yes {i f : Int} : objB i f = true ↔ 0 ≤ i ∧ i < 32 ∧ 0 ≤ f ∧ f < 8 := by simp [objB]
theorem objB_no {i f : Int} : objB i f = false ↔ (i < 0 ∨ 32 ≤ i) ∨ (f < 0 ∨ 8 ≤ f) := by simp [objB]; omega
/-- a slot's word, 0 if there is none -/
def slotI (i f : Int) : Int := if slotB i f = true then 5 * i + f else 0
/-- an object's -/
def objI (i f : Int) : Int := if objB i f = true then 480 + 8 * i + f else 0
theorem slotI_yes {i f : Int} (h : slotB i f = true) : slotI i f = 5 * i + f := by simp [slotI, h]
theorem slotI_no {i f : Int} (h : slotB i f = false) : slotI i f = 0 := by simp [slotI, h]
theorem objI_yes {i f : Int} (h : objB i f = true) : objI i f = 480 + 8 * i + f := by simp [objI, h]
theorem objI_no {i f : Int} (h : objB i f = false) : objI i f = 0 := by simp [objI, h]
/-- a word as a field's number -/
def numI (w : Int) : Int := if 4611686018427387904 < w then 0 else w
theorem numI_rng {w : Int} (h : U64 w) : 0 ≤ numI w ∧ numI w ≤ 4611686018427387904 := by
  have := h.1
  unfold numI
  split <;> omega
def fieldP (o f : Int) : Vp Int := if objB o f = true then .rd (objI o f) fun w => .ret (numI w) else .ret 0
def putP (o f n : Int) : Vp Unit := if objB o f = true ∧ 0 ≤ n then .wr (objI o f) n (.ret ()) else .ret ()
def isP (o k : Int) : Vp Bool := if objB o 0 = true ∧ 0 ≤ k then .rd (objI o 0) fun w => .ret (w == k) else .ret false
def usedP : Vp (Int × Int) := .rd 736 fun a => .rd 737 fun b => .ret (min a 96, min b 32)
def takeP (a b : Int) : Vp (Int × Int × Int) :=
  if a < 0 ∨ b < 0 then .ret (0, 0, 1) else usedP.bind fun u => if 96 - u.1 < a ∨ 32 - u.2 < b then .ret (0, 0, 7) else .wr 736 (u.1 + a) (.wr 737 (u.2 + b) (.ret (u.1, u.2, 0)))
section
variable {L : List Int} {o f n k : Int}
/-- a field's number, of plain words -/
def fieldL (L : List Int) (o f : Int) : Int := if objB o f = true then numI (atL L (480 + 8 * o + f)) else 0
def putL (L : List Int) (o f n : Int) : List Int := if objB o f = true ∧ 0 ≤ n then setL L (480 + 8 * o + f) n else L
def isL (L : List Int) (o k : Int) : Bool := objB o 0 && decide (0 ≤ k) && (atL L (480 + 8 * o) == k)
theorem fieldP_plain : (fieldP o f).run machP L = (fieldL L o f, L) := by
  unfold fieldP fieldL
  split
  · next h => rw [Vp.run_rdP, Vp.run_ret, objI_yes h]
  · rfl
theorem putP_plain : (putP o f n).run machP L = ((), putL L o f n) := by
  unfold putP putL
  split
  · next h => rw [Vp.run_wrP, Vp.run_ret, objI_yes h.1]
  · rfl
theorem isP_plain : (isP o k).run machP L = (isL L o k, L) := by
  unfold isP isL
  by_cases h : objB o 0 = true ∧ 0 ≤ k
  · rw [if_pos h, Vp.run_rdP, Vp.run_ret, objI_yes h.1]
    simp [h]
  · rw [if_neg h, Vp.run_ret]
    congr 1
    cases h1 : objB o 0 <;> simp [h1] at h ⊢
    omega
def usedL (L : List Int) : Int × Int := (min (atL L 736) 96, min (atL L 737) 32)
theorem usedP_plain : usedP.run machP L = (usedL L, L) := rfl
/-- what a Take answers: the first slot, the first object, the error -/
def takeA (L : List Int) (a b : Int) : Int × Int × Int :=
  if a < 0 ∨ b < 0 then (0, 0, 1) else if 96 - (usedL L).1 < a ∨ 32 - (usedL L).2 < b then (0, 0, 7) else ((usedL L).1, (usedL L).2, 0)
def takeL (L : List Int) (a b : Int) : List Int :=
  if a < 0 ∨ b < 0 then L else if 96 - (usedL L).1 < a ∨ 32 - (usedL L).2 < b then L else setL (setL L 736 ((usedL L).1 + a)) 737 ((usedL L).2 + b)
theorem takeP_plain {a b : Int} : (takeP a b).run machP L = (takeA L a b, takeL L a b) := by
  unfold takeP takeA takeL
  split
  · rfl
  · rw [Vp.run_bind_is usedP_plain]
    split
    · rfl
    · rfl
end
end Go.Proofs.Ytffoajakkghlbaa
/- What package cdt does to any view, as mathematics (layer 10): what a slot's field tells, links, kids. No dump is read here. -/
namespace Go.Proofs.Ytffoajakkghlbaa
open Go.RowKit
/-- the slot that a word tells, -1: none -/
def toldI (w : Int) : Int := if 96 < w then -1 else w - 1
theorem toldI_rng {w : Int} (h : U64 w) : -1 ≤ toldI w ∧ toldI w ≤ 95 := by
  have := h.1
  unfold toldI
  split <;> omega
def toldP (i f : Int) : Vp Int := if slotB i f = true then .rd (slotI i f) fun w => .ret (toldI w) else .ret (-1)
def tellP (i f n : Int) : Vp Unit := if slotB i f = true then .wr (slotI i f) (n + 1) (.ret ()) else .ret ()
def standP (i a b c : Int) : Vp Unit := (tellP i 1 a).bind fun _ => (tellP i 3 b).bind fun _ => tellP i 4 c
def linkP (k p : Int) : Vp Int :=
  if slotB k 0 = false ∨ slotB p 0 = false then .ret 2 else if k = p then .ret 10 else (toldP k 1).bind fun x => if x ≠ -1 then .ret 10 else (toldP p 2).bind fun y =>
    (tellP y 4 k).bind fun _ => (tellP p 2 k).bind fun _ => (standP k p y (-1)).bind fun _ => .ret 0
end Go.Proofs.Ytffoajakkghlbaa
