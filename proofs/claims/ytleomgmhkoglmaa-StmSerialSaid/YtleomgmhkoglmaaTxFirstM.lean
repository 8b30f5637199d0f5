/- Which cell is lacked first, as mathematics (layer 6). No dump is read here. -/
import Derived.Test.YtleomgmhkoglmaaTxM
namespace Go.Proofs.Ytleomgmhkoglmaa
open Go.RowKit
/-- is cell x wanted, and not known -/
def wants (cells : Int) (R : Int → Option Cl) (x : Int) : Bool := inB cells x && (R x).isNone
/-- which one is lacked, behind x -/
def stepLk (cells : Int) (R : Int → Option Cl) (lk : Option Int) (x : Int) : Option Int := if wants cells R x && lk.isNone then some x else lk
theorem needD_lk (R : Int → Option Cl) (s : Dt) (i : Int) : (needD R s i).lk = if (R i).isNone && s.lk.isNone then some i else s.lk := by unfold needD; split <;> rfl
theorem rdD_lk (cells : Int) (R : Int → Option Cl) (s : Dt) (x : Int) : (rdD cells R s x).2.lk = stepLk cells R s.lk x := by
  unfold rdD stepLk wants
  cases h : inB cells x
  · simp
  · simp [needD_lk]
theorem wrD_lk (cells : Int) (R : Int → Option Cl) (s : Dt) (x v : Int) : (wrD cells R s x v).lk = stepLk cells R s.lk x := by
  unfold wrD stepLk wants
  cases h : inB cells x
  · simp
  · simp [needD_lk]
theorem rdD_out {cells : Int} {R : Int → Option Cl} {s : Dt} {x : Int} (h : inB cells x = false) : rdD cells R s x = (0, s) := by simp [rdD, h]
theorem stepLk_twice (cells : Int) (R : Int → Option Cl) (lk : Option Int) (x : Int) : stepLk cells R (stepLk cells R lk x) x = stepLk cells R lk x := by
  unfold stepLk
  by_cases h : (wants cells R x && lk.isNone) = true
  · simp [h]
  · simp [h]
/-- the first one of a list that is lacked -/
def firstOf (cells : Int) (R : Int → Option Cl) (L : List Int) : Option Int := L.find? (wants cells R)
theorem firstOf_snoc (cells : Int) (R : Int → Option Cl) (L : List Int) (x : Int) : firstOf cells R (L ++ [x]) = stepLk cells R (firstOf cells R L) x := by
  unfold firstOf stepLk
  rw [List.find?_append]
  cases h : List.find? (wants cells R) L with
  | some y => simp
  | none =>
    cases hw : wants cells R x <;> simp [hw]
theorem firstOf_take {cells : Int} {R : Int → Option Cl} {L : List Int} {k : Nat} {x : Int} (h : L[k]? = some x) : firstOf cells R (L.take (k + 1)) = stepLk cells R (firstOf cells R (L.take k)) x := by
  rw [List.take_add_one, h]
  exact firstOf_snoc _ _ _ _
theorem firstOf_in {cells : Int} {R : Int → Option Cl} {L : List Int} {y : Int} (h : firstOf cells R L = some y) : 0 ≤ y ∧ y < cells := by
  have h1 := List.find?_some h
  simp only [wants, Bool.and_eq_true] at h1
  exact inB_yes.1 h1.1
theorem stepLk_some (cells : Int) (R : Int → Option Cl) (y x : Int) : stepLk cells R (some y) x = some y := by simp [stepLk]
theorem stepLk_out {cells : Int} {R : Int → Option Cl} {x : Int} (lk : Option Int) (h : inB cells x = false) : stepLk cells R lk x = lk := by simp [stepLk, wants, h]
theorem stepLk_known {cells : Int} {R : Int → Option Cl} {x : Int} (lk : Option Int) (h : (R x).isSome = true) : stepLk cells R lk x = lk := by
  have h' : (R x).isNone = false := by cases hx : R x <;> simp_all
  simp [stepLk, wants, h']
theorem stepLk_new {cells : Int} {R : Int → Option Cl} {x : Int} (h : inB cells x = true) (h2 : R x = none) : stepLk cells R none x = some x := by simp [stepLk, wants, h, h2]
end Go.Proofs.Ytleomgmhkoglmaa
