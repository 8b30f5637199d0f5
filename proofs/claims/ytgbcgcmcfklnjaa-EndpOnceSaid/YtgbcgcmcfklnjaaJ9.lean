/- Delete, One of the document's state (layer 12), as mathematics. -/
import Derived.Test.YtgbcgcmcfklnjaaJ5
import Derived.Test.YtgbcgcmcfklnjaaJ8
namespace Go.Proofs.Ytgbcgcmcfklnjaa
open Go.RowKit
def rdelN (S : RSt) (i : Int) : Int := if slotOk i = false then 2 else if S.kids i ≠ [] then 9 else 0
end Go.Proofs.Ytgbcgcmcfklnjaa
/- The boot state with memory of any size (layer 13), as mathematics. -/
namespace Go.Proofs.Ytgbcgcmcfklnjaa
open Go.RowKit
theorem bootT_ob (t : Int) (i : Int) : ∀ k : Nat, (bootT t k).ob i = if 0 ≤ i ∧ i < k then thrO t else RObj.fresh 0 := by
  intro k
  induction k with
  | zero => rw [if_neg (by omega)]; rfl
  | succ k ih =>
    show setF (bootT t k).ob (k : Int) (thrO t) i = _
    by_cases e : i = k
    · rw [e, setF_self, if_pos (by omega)]
    · rw [setF_ne e, ih]
      by_cases h : 0 ≤ i ∧ i < k
      · rw [if_pos h, if_pos (by omega)]
      · rw [if_neg h, if_neg (by omega)]
theorem bootK_ob (t : Nat) (i : Int) : ∀ k : Nat, (bootK t k).ob i = if (t : Int) ≤ i ∧ i < (t : Int) + k then RObj.fresh (kindB (i - t).toNat) else (bootT t t).ob i := by
  intro k
  induction k with
  | zero => rw [if_neg (by omega)]; rfl
  | succ k ih =>
    have e1 : (bootK t (k + 1)).ob i = setF (bootK t k).ob ((t + k : Nat) : Int) (RObj.fresh (kindB k)) i := by
      rw [show bootK t (k + 1) = if 2 ≤ k then ((bootK t k).putO ((t + k : Nat) : Int) (RObj.fresh (kindB k))).putC ((6 + k : Nat) : Int) (fullC (kindB k) (t + k : Nat)) else (bootK t k).putO ((t + k : Nat) : Int) (RObj.fresh (kindB k)) from rfl]
      split <;> rfl
    rw [e1]
    by_cases e : i = ((t + k : Nat) : Int)
    · rw [e, setF_self, if_pos (by omega)]
      rw [show (((t + k : Nat) : Int) - (t : Int)).toNat = k by omega]
    · rw [setF_ne e, ih]
      by_cases h : (t : Int) ≤ i ∧ i < (t : Int) + k
      · rw [if_pos h, if_pos (by omega)]
      · rw [if_neg h, if_neg (by omega)]
theorem bootS_ob (t : Nat) (i : Int) : (bootS t).ob i = if i = ((t + 2 : Nat) : Int) then { (boot3 t).ob i with size := 200 } else (boot3 t).ob i := by
  show setF (boot3 t).ob ((t + 2 : Nat) : Int) _ i = _
  by_cases e : i = ((t + 2 : Nat) : Int)
  · rw [if_pos e, e, setF_self]
  · rw [if_neg e, setF_ne e]
theorem boot3_ob (t : Nat) {i : Int} (h0 : i ≠ ((t : Nat) : Int)) (h1 : i ≠ ((t + 1 : Nat) : Int)) : (boot3 t).ob i = (bootK t 8).ob i := by
  show setF (setF (setF (bootK t 8).ob ((t : Nat) : Int) _) ((t + 1 : Nat) : Int) _) ((t + 1 : Nat) : Int) _ i = _
  rw [setF_ne h1, setF_ne h1, setF_ne h0]
/-- what is no thread, and behind the two CNodes -/
theorem bootS_far (t : Nat) {i : Int} (h : (t : Int) + 3 ≤ i) : (bootS t).ob i = if i < (t : Int) + 8 then RObj.fresh (kindB (i - t).toNat) else RObj.fresh 0 := by
  rw [bootS_ob, if_neg (by omega), boot3_ob t (by omega) (by omega), bootK_ob]
  by_cases e : i < (t : Int) + 8
  · rw [if_pos (by omega), if_pos e]
  · rw [if_neg (by omega), if_neg e, bootT_ob, if_neg (by omega)]
theorem bootS_thr (t : Nat) {i : Int} (h0 : 0 ≤ i) (h : i < t) : (bootS t).ob i = thrO t := by
  rw [bootS_ob, if_neg (by omega), boot3_ob t (by omega) (by omega), bootK_ob, if_neg (by omega), bootT_ob, if_pos ⟨h0, h⟩]
end Go.Proofs.Ytgbcgcmcfklnjaa
