/- What the document's own answer for layer 2 answers: May, of every capability. -/
import Derived.Test.YtdkjfalhalepgaaJ14
namespace Go.Proofs.Ytdkjfalhalepgaa
open Go.RowKit
theorem in_any (n m : Int) (w : World) : Calls Try.prog 73 #[.int .i64 n, .int .i64 m] w fun e w' => e = .returned (.bool (upToB n m)) ∧ w' = w := by
  go_enter Try.func73, Try.ntmps73
  go_wp2
  all_goals go_ret
  · have h : 0 ≤ n := by assumption
    exact ⟨by simp [upToB, h], rfl⟩
  · have h : n < 0 := by assumption
    exact ⟨by rw [upToB_no (by omega)]; rfl, rfl⟩
theorem two_any (n : Int) (w : World) (hn : n ≤ 62) : Calls Try.prog 74 #[.int .i64 n] w fun e w' => e = .returned (.int .i64 (2 ^ n.toNat)) ∧ w' = w := by
  go_enter Try.func74, Try.ntmps74
  go_wp2
  go_loop [3, 4] (fun p i => ∃ k : Nat, k ≤ n.toNat ∧ i = .int .i64 k ∧ p = .int .i64 (2 ^ k)) (fun _ i => n.toNat - (intOf i).toNat)
  case atStart => exact ⟨0, by omega, rfl, rfl⟩
  case round =>
    obtain ⟨k, hk, rfl, rfl⟩ := hrel
    by_cases hlt : k < n.toNat
    · have hlt' : (k : Int) < n := by omega
      have hp : (2 : Int) ^ k ≤ 2 ^ 61 := by
        have q : (2 : Nat) ^ k ≤ 2 ^ 61 := Nat.pow_le_pow_right (by omega) (by omega)
        exact_mod_cast q
      have hp0 : 0 < (2 : Int) ^ k := Int.pow_pos (by omega)
      have h61 : (2 : Int) ^ 61 = 2305843009213693952 := by decide
      rw [h61] at hp
      clear h61
      go_wp2
      go_round
      case rel => exact ⟨k + 1, by omega, by go_num, by rw [Int.pow_succ, Int.mul_comm]⟩
      case measure => simp [intOf]; omega
    · have hlt' : n ≤ (k : Int) := by omega
      obtain rfl : k = n.toNat := by omega
      go_wp2
      go_ret
      exact ⟨rfl, rfl⟩
section
variable (c : Cp) (w : World)
theorem refMay_out (h : upToB c.kind 8 = false ∨ upToB c.rights 7 = false ∨ upToB c.obj 31 = false ∨ upToB c.badge 65535 = false ∨ upToB c.bits 8 = false) : Calls Try.prog 47 #[c.v] w (MbPost w false) := by
  rcases h with h | h | h | h | h
  all_goals
    go_enter Try.func47, Try.ntmps47
    go_wp2_with (go_at_call 73; refine (in_any _ _ _).mono ?_; rintro e w' ⟨rfl, rfl⟩)
    all_goals go_ret
    all_goals exact ⟨rfl, (Only.refl _ _).alloc _⟩
def refB (c : Cp) : Bool := !((c.kind == 0) && ((c.rights != 0) || (c.obj != 0))) && !((c.kind != 3) && (c.kind != 4) && (c.badge != 0)) && !((c.kind != 2) && ((c.bits != 0) || (c.guard != 0))) && (decide (0 ≤ c.guard) && decide (c.guard < 2 ^ c.bits.toNat))
theorem refB_eq (h1 : upToB c.kind 8 = true) (h2 : upToB c.rights 7 = true) (h3 : upToB c.obj 31 = true) (h4 : upToB c.badge 65535 = true) (h5 : upToB c.bits 8 = true) : c.mayB = refB c := by
  obtain ⟨k, r, o, b, g, n⟩ := c
  simp only at *
  have hp := pow_le n ((upToB_iff _ _).1 h5).1 ((upToB_iff _ _).1 h5).2
  rw [Bool.eq_iff_iff]
  by_cases hk : k = 0
  · subst hk
    rw [Cp.mayB_null rfl]
    simp only [refB, Bool.and_eq_true, Bool.not_eq_true', decide_eq_true_eq, beq_iff_eq, Bool.and_eq_false_iff, Bool.or_eq_false_iff, bne_eq_false_iff_eq]
    simp
    constructor
    · rintro ⟨⟨⟨⟨rfl, rfl⟩, rfl⟩, rfl⟩, rfl⟩; simp
    · omega
  · rw [Cp.mayB_real hk, h1, h2, h3]
    by_cases hk2 : k = 2
    · subst hk2
      rw [mayBadgeB_no (k := 2) (by decide) (by decide), mayGuardB_in rfl ((upToB_iff _ _).1 h5).1 ((upToB_iff _ _).1 h5).2]
      simp [refB, upToB_iff]
      omega
    · rw [mayGuardB_no hk2]
      by_cases h34 : k = 3 ∨ k = 4
      · rw [mayBadgeB_yes h34, h4]
        simp [refB, hk2, hk]
        constructor
        · rintro ⟨rfl, rfl⟩; simp; omega
        · omega
      · rw [mayBadgeB_no (k := k) (fun e => h34 (.inl e)) (fun e => h34 (.inr e))]
        have h3' : ¬ k = 3 := by omega
        have h4' : ¬ k = 4 := by omega
        simp [refB, hk2, hk, h3', h4']
        intros; omega
set_option maxHeartbeats 2000000 in
theorem refMay_pos (h1 : upToB c.kind 8 = true) (h2 : upToB c.rights 7 = true) (h3 : upToB c.obj 31 = true) (h4 : upToB c.badge 65535 = true) (h5 : upToB c.bits 8 = true) (hn8 : c.bits ≤ 8) (hg : 0 ≤ c.guard) :
    Calls Try.prog 47 #[c.v] w (MbPost w (refB c)) := by
  go_enter Try.func47, Try.ntmps47
  go_wp2_with (go_at_call 73; refine (in_any _ _ _).mono ?_; rintro e w' ⟨rfl, rfl⟩)
  all_goals first
    | (go_ret; exact ⟨by simp [refB, *] <;> (simp only [bne_eq_false_iff_eq] at *; intros; omega), (Only.refl _ _).alloc _⟩)
    | (go_quiet ((go_at_call 74; exact Calls.quiet_of_same (two_any _ _ (by omega)))); go_wp2; go_ret; exact ⟨by simp [refB, *] <;> (simp only [bne_eq_false_iff_eq] at *; intros; omega), ((Only.refl _ _).alloc _).drewN _⟩)
set_option maxHeartbeats 2000000 in
theorem refMay_neg (h1 : upToB c.kind 8 = true) (h2 : upToB c.rights 7 = true) (h3 : upToB c.obj 31 = true) (h4 : upToB c.badge 65535 = true) (h5 : upToB c.bits 8 = true) (_hn8 : c.bits ≤ 8) (hg : c.guard < 0) (hg' : decide (0 ≤ c.guard) = false) :
    Calls Try.prog 47 #[c.v] w (MbPost w (refB c)) := by
  go_enter Try.func47, Try.ntmps47
  go_wp2_with (go_at_call 73; refine (in_any _ _ _).mono ?_; rintro e w' ⟨rfl, rfl⟩)
  all_goals first
    | (go_ret; exact ⟨by simp [refB, *] <;> (simp only [bne_eq_false_iff_eq] at *; intros; omega), (Only.refl _ _).alloc _⟩)
    | (go_quiet (fail); go_wp2; go_ret; exact ⟨by simp [refB, *] <;> (simp only [bne_eq_false_iff_eq] at *; intros; omega), ((Only.refl _ _).alloc _).drewN _⟩)
theorem refMay_any : Calls Try.prog 47 #[c.v] w (MbPost w c.mayB) := by
  by_cases h : upToB c.kind 8 = true ∧ upToB c.rights 7 = true ∧ upToB c.obj 31 = true ∧ upToB c.badge 65535 = true ∧ upToB c.bits 8 = true
  · obtain ⟨h1, h2, h3, h4, h5⟩ := h
    rw [refB_eq c h1 h2 h3 h4 h5]
    have hn := (upToB_iff _ _).1 h5
    by_cases hg : 0 ≤ c.guard
    · exact refMay_pos c w h1 h2 h3 h4 h5 hn.2 hg
    · exact refMay_neg c w h1 h2 h3 h4 h5 hn.2 (by omega) (by simpa using hg)
  · have e : c.mayB = false := by
      rw [Bool.eq_false_iff]
      intro q
      obtain ⟨a1, a2, a3, a4, a5, a6, a7, a8, a9, a10, a11, a12⟩ := Cp.may.small (of_decide_eq_true q)
      exact h ⟨upToB_yes a1 a2, upToB_yes a3 a4, upToB_yes a5 a6, upToB_yes a7 a8, upToB_yes a11 a12⟩
    rw [e]
    refine refMay_out c w ?_
    simp only [← Bool.not_eq_true]
    have h' := h
    clear e h
    by_cases a : upToB c.kind 8 = true <;> by_cases b : upToB c.rights 7 = true <;> by_cases d : upToB c.obj 31 = true <;> by_cases f : upToB c.badge 65535 = true <;> simp_all
end
end Go.Proofs.Ytdkjfalhalepgaa
