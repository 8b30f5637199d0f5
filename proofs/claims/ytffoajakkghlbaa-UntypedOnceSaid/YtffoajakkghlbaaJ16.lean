/- 738 words of one's own, as they are made (layers 9 and up). -/
import Derived.Test.YtffoajakkghlbaaJ5
import Derived.Test.YtffoajakkghlbaaUntRet
import Derived.Test.YtffoajakkghlbaaUntRun
import Derived.Test.YtffoajakkghlbaaJ15
namespace Go.Proofs.Ytffoajakkghlbaa
open Go.RowKit
abbrev PwT : TypeId := 41
theorem MemP.blkG {g n : Nat} {w : World} {L : List Int} (h : MemP g n UT w L) : ∃ cur, Blk w g UT cur := by
  obtain ⟨cur, hb, -⟩ := h.row
  exact ⟨cur, hb⟩
end Go.Proofs.Ytffoajakkghlbaa
/- Package untyped's calls on the words of a state of layer 13. -/
namespace Go.Proofs.Ytffoajakkghlbaa
open Go.RowKit
section
variable {g : Nat} {w : World} {S : RSt}
theorem uret_is (hm : MemP g 738 UT w (wordsG S)) (hS : Uok S) (f t k b : Int) :
    Calls Try.prog 12 #[.iface PwT (.slice (some ⟨g, 0, none⟩) 738 738), .int .i64 f, .int .i64 t, .int .i64 k, .int .i64 b] w fun e w' => e = .returned (.tuple #[.int .i64 (retA S f t k b).1, errV (retA S f t k b).2]) ∧ MemP g 738 UT w' (wordsG (retS S f t k b)) ∧ Only [g] w w' :=
  vret_is (viewP g 738 738 UT) hm (hS.retP f t k b)
theorem uleft_is (hm : MemP g 738 UT w (wordsG S)) (hS : Uok S) (i : Int) :
    Calls Try.prog 16 #[.iface PwT (.slice (some ⟨g, 0, none⟩) 738 738), .int .i64 i] w fun e w' => e = .returned (.int .i64 (leftZ S i)) ∧ MemP g 738 UT w' (wordsG S) ∧ Only [g] w w' :=
  vleft_is (viewP g 738 738 UT) hm (hS.leftP i)
end
end Go.Proofs.Ytffoajakkghlbaa
/- The boot state with memory of any size (layer 13), as mathematics. -/
namespace Go.Proofs.Ytffoajakkghlbaa
open Go.RowKit
theorem bootT_ob (t : Int) (i : Int) : ∀ k : Nat, (bootT t k).ob i = if 0 ≤ i ∧ i < k then thrO t else RObj.fresh 0 := by
  intro k
  induction k with
  | zero => rw [if_neg (by omega)]; rfl
  | succ k ih =>
    show setF (bootT t k).ob (k : Int) (thrO t) i = _
    by_cases e : i = k
    · rw [e, setF_self, if_pos (by omega)]
    · rw [setF_ne e, ih]
      by_cases h : 0 ≤ i ∧ i < k
      · rw [if_pos h, if_pos (by omega)]
      · rw [if_neg h, if_neg (by omega)]
theorem bootK_ob (t : Nat) (i : Int) : ∀ k : Nat, (bootK t k).ob i = if (t : Int) ≤ i ∧ i < (t : Int) + k then RObj.fresh (kindB (i - t).toNat) else (bootT t t).ob i := by
  intro k
  induction k with
  | zero => rw [if_neg (by omega)]; rfl
  | succ k ih =>
    have e1 : (bootK t (k + 1)).ob i = setF (bootK t k).ob ((t + k : Nat) : Int) (RObj.fresh (kindB k)) i := by
      rw [show bootK t (k + 1) = if 2 ≤ k then ((bootK t k).putO ((t + k : Nat) : Int) (RObj.fresh (kindB k))).putC ((6 + k : Nat) : Int) (fullC (kindB k) (t + k : Nat)) else (bootK t k).putO ((t + k : Nat) : Int) (RObj.fresh (kindB k)) from rfl]
      split <;> rfl
    rw [e1]
    by_cases e : i = ((t + k : Nat) : Int)
    · rw [e, setF_self, if_pos (by omega)]
      rw [show (((t + k : Nat) : Int) - (t : Int)).toNat = k by omega]
    · rw [setF_ne e, ih]
      by_cases h : (t : Int) ≤ i ∧ i < (t : Int) + k
      · rw [if_pos h, if_pos (by omega)]
      · rw [if_neg h, if_neg (by omega)]
theorem bootS_ob (t : Nat) (i : Int) : (bootS t).ob i = if i = ((t + 2 : Nat) : Int) then { (boot3 t).ob i with size := 200 } else (boot3 t).ob i := by
  show setF (boot3 t).ob ((t + 2 : Nat) : Int) _ i = _
  by_cases e : i = ((t + 2 : Nat) : Int)
  · rw [if_pos e, e, setF_self]
  · rw [if_neg e, setF_ne e]
theorem boot3_ob (t : Nat) {i : Int} (h0 : i ≠ ((t : Nat) : Int)) (h1 : i ≠ ((t + 1 : Nat) : Int)) : (boot3 t).ob i = (bootK t 8).ob i := by
  show setF (setF (setF (bootK t 8).ob ((t : Nat) : Int) _) ((t + 1 : Nat) : Int) _) ((t + 1 : Nat) : Int) _ i = _
  rw [setF_ne h1, setF_ne h1, setF_ne h0]
theorem boot3_two (t : Nat) {i : Int} (h : i = ((t : Nat) : Int) ∨ i = ((t + 1 : Nat) : Int)) : ((boot3 t).ob i).kind = 2 := by
  have q0 : ((bootK t 8).ob ((t : Nat) : Int)).kind = 2 := by
    rw [bootK_ob, if_pos (by omega), show ((((t : Nat) : Int)) - (t : Int)).toNat = 0 by omega]
    rfl
  have q1 : ((bootK t 8).ob ((t + 1 : Nat) : Int)).kind = 2 := by
    rw [bootK_ob, if_pos (by omega), show ((((t + 1 : Nat) : Int)) - (t : Int)).toNat = 1 by omega]
    rfl
  rcases h with e | e
  · rw [e]
    show (setF (setF (setF (bootK t 8).ob ((t : Nat) : Int) _) ((t + 1 : Nat) : Int) _) ((t + 1 : Nat) : Int) _ ((t : Nat) : Int)).kind = 2
    rw [setF_ne (by omega), setF_ne (by omega), setF_self]
    exact q0
  · rw [e]
    show (setF (setF (setF (bootK t 8).ob ((t : Nat) : Int) _) ((t + 1 : Nat) : Int) _) ((t + 1 : Nat) : Int) _ ((t + 1 : Nat) : Int)).kind = 2
    rw [setF_self]
    show (setF (setF (bootK t 8).ob ((t : Nat) : Int) _) ((t + 1 : Nat) : Int) _ ((t + 1 : Nat) : Int)).kind = 2
    rw [setF_self]
    show (setF (bootK t 8).ob ((t : Nat) : Int) _ ((t + 1 : Nat) : Int)).kind = 2
    rw [setF_ne (by omega)]
    exact q1
/-- what is no thread, and behind the two CNodes -/
theorem bootS_far (t : Nat) {i : Int} (h : (t : Int) + 3 ≤ i) : (bootS t).ob i = if i < (t : Int) + 8 then RObj.fresh (kindB (i - t).toNat) else RObj.fresh 0 := by
  rw [bootS_ob, if_neg (by omega), boot3_ob t (by omega) (by omega), bootK_ob]
  by_cases e : i < (t : Int) + 8
  · rw [if_pos (by omega), if_pos e]
  · rw [if_neg (by omega), if_neg e, bootT_ob, if_neg (by omega)]
theorem bootS_mem (t : Nat) : (bootS t).ob ((t + 2 : Nat) : Int) = { RObj.fresh 1 with size := 200 } := by
  rw [bootS_ob, if_pos rfl, boot3_ob t (by omega) (by omega), bootK_ob, if_pos (by omega), show (((t + 2 : Nat) : Int) - (t : Int)).toNat = 2 by omega]
  rfl
theorem bootS_thr (t : Nat) {i : Int} (h0 : 0 ≤ i) (h : i < t) : (bootS t).ob i = thrO t := by
  rw [bootS_ob, if_neg (by omega), boot3_ob t (by omega) (by omega), bootK_ob, if_neg (by omega), bootT_ob, if_pos ⟨h0, h⟩]
theorem kindB_mem (k : Nat) (h : kindB k = 1) : k = 2 := by
  unfold kindB at h
  split at h
  all_goals first | rfl | exact absurd h (by decide)
/-- with memory of that size -/
def bootU (t : Nat) (z : Int) : RSt := (bootS t).upO ((t + 2 : Nat) : Int) fun x => { x with size := z }
theorem bootU_ob (t : Nat) (z i : Int) : (bootU t z).ob i = if i = ((t + 2 : Nat) : Int) then { RObj.fresh 1 with size := z } else (bootS t).ob i := by
  show setF (bootS t).ob ((t + 2 : Nat) : Int) { (bootS t).ob ((t + 2 : Nat) : Int) with size := z } i = _
  by_cases e : i = ((t + 2 : Nat) : Int)
  · rw [if_pos e, e, setF_self, bootS_mem]
  · rw [if_neg e, setF_ne e]
theorem bootU_uok {t : Nat} (ht : t ≤ 7) {z : Int} (hz : 0 ≤ z ∧ z ≤ 1000) : Uok (bootU t z) := by
  have hs := boot_sok ht
  have hp := boot_plainly ht
  refine ⟨⟨hs.tree, hs.out, hs.may, fun i hi => ?_, hs.ns, hs.no⟩, fun i hi => ?_, ⟨show (0 : Int) ≤ 40 by decide, show (40 : Int) ≤ 96 by decide⟩, ⟨by show (0 : Int) ≤ ((t + 8 : Nat) : Int); omega, by show ((t + 8 : Nat) : Int) ≤ 32; omega⟩, fun i hi hl => ?_, fun i hi hk => ?_⟩
  · rw [bootU_ob]
    split
    · exact (fresh_fit (k := 1) (by decide)).sized ⟨hz.1, by omega⟩
    · exact hs.obs i hi
  · rw [bootU_ob]
    split
    · rfl
    · exact hp.bare i
  · have hl' : ((t + 8 : Nat) : Int) ≤ (i : Int) := hl
    rw [bootU_ob, if_neg (by omega), bootS_far t (by omega), if_neg (by omega)]
  · rw [bootU_ob] at hk ⊢
    by_cases e : (i : Int) = ((t + 2 : Nat) : Int)
    · rw [if_pos e]
      exact ⟨Int.le_refl _, hz.1, hz.2⟩
    · rw [if_neg e] at hk
      exfalso
      by_cases h1 : (i : Int) < t
      · rw [bootS_thr t (by omega) h1] at hk
        exact absurd (show (5 : Int) = 1 from hk) (by decide)
      · by_cases h2 : (i : Int) = ((t : Nat) : Int) ∨ (i : Int) = ((t + 1 : Nat) : Int)
        · have q := boot3_two t h2
          rw [bootS_ob, if_neg e, q] at hk
          exact absurd hk (by decide)
        · rw [bootS_far t (by omega)] at hk
          split at hk
          · have q := kindB_mem _ hk
            omega
          · exact absurd hk (by decide)
end Go.Proofs.Ytffoajakkghlbaa
