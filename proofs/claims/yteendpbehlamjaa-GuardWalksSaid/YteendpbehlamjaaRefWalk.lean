/- What the document's own answer for layer 4 answers: Walk. -/
import Derived.Test.YteendpbehlamjaaRefTop
namespace Go.Proofs.Yteendpbehlamjaa
open Go.RowKit
section
variable (a l g n r : Int) (w : World)
theorem rwalk_no (h : addrB a l = false ∨ (n < 0 ∨ 8 < n) ∨ g < 0 ∨ r < 0 ∨ 5 < r) : Calls Try.prog 8 #[.int .i64 a, .int .i64 l, .int .i64 g, .int .i64 n, .int .i64 r] w fun e w' => e = .returned (.tuple #[.int .i64 0, .int .i64 0, .int .i64 1]) ∧ w' = w := by
  have H := Lib.hid (show a < 0 ∨ 65535 < a ∨ l < 0 ∨ 16 < l ∨ n < 0 ∨ 8 < n ∨ g < 0 ∨ r < 0 ∨ 5 < r by rw [Bool.eq_false_iff, Ne, addrB_iff] at h; omega)
  clear h
  go_enter Try.func8, Try.ntmps8
  go_wp2_with (exfalso; have h := H.out; omega)
  all_goals go_ret3
  all_goals exact ⟨rfl, rfl⟩
theorem rwalk_big (hA : addrB a l = true) (n0 : 0 ≤ n) (n1 : n ≤ 8) (g0 : 0 ≤ g) (r0 : 0 ≤ r) (r5 : r ≤ 5) (hg : 2 ^ n.toNat ≤ g) : Calls Try.prog 8 #[.int .i64 a, .int .i64 l, .int .i64 g, .int .i64 n, .int .i64 r] w fun e w' => e = .returned (.tuple #[.int .i64 0, .int .i64 0, .int .i64 1]) ∧ w' = w := by
  obtain ⟨⟨a0, a1⟩, l0, l1⟩ := (addrB_iff _ _).1 hA
  go_enter Try.func8, Try.ntmps8
  go_wp2_with (go_at_call 17; (refine (two_any _ _ (by omega)).mono ?_); rintro e w' ⟨rfl, rfl⟩)
  all_goals go_ret3
  all_goals exact ⟨rfl, rfl⟩
theorem rwalk_yes (hA : addrB a l = true) (hG : grdB g n = true) (r0 : 0 ≤ r) (r5 : r ≤ 5) : Calls Try.prog 8 #[.int .i64 a, .int .i64 l, .int .i64 g, .int .i64 n, .int .i64 r] w fun e w' => e = .returned (.tuple #[.int .i64 (walkP a l g n r).1, .int .i64 (walkP a l g n r).2.1, .int .i64 (walkP a l g n r).2.2]) ∧ Only [] w w' := by
  obtain ⟨⟨a0, a1⟩, l0, l1⟩ := (addrB_iff _ _).1 hA
  obtain ⟨⟨n0, n1⟩, g0, g1⟩ := (grdB_iff _ _).1 hG
  go_enter Try.func8, Try.ntmps8
  go_wp2_with (first | (go_at_call 17; (refine (two_any _ _ (by omega)).mono ?_); rintro e w' ⟨rfl, rfl⟩) | (go_at_call 11; (refine (rtop_yes _ _ _ _ (by omega) (by omega) (by omega) (by omega) (by omega) (by omega)).mono ?_); rintro e w' ⟨rfl, ho⟩))
  all_goals go_ret3
  all_goals first
    | (rw [walkP_deep hA hG r0 r5 (by omega)]; exact ⟨rfl, Only.refl _ _⟩)
    | (rw [walkP_other hA hG r0 r5 (by omega) (by simpa using ‹(topI a l n != g) = true›)]; exact ⟨rfl, ho⟩)
    | (rw [walkP_ok hA hG r0 r5 (by omega) (by simpa using ‹(topI a l n != g) = false›)]; exact ⟨rfl, Only.trans (by assumption) ho⟩)
theorem rwalk_any : Calls Try.prog 8 #[.int .i64 a, .int .i64 l, .int .i64 g, .int .i64 n, .int .i64 r] w fun e w' => e = .returned (.tuple #[.int .i64 (walkP a l g n r).1, .int .i64 (walkP a l g n r).2.1, .int .i64 (walkP a l g n r).2.2]) ∧ Only [] w w' := by
  by_cases h : addrB a l = false ∨ (n < 0 ∨ 8 < n) ∨ g < 0 ∨ r < 0 ∨ 5 < r
  · rw [walkP_arg (by
      rcases h with h | h
      · exact .inl h
      by_cases hr : r < 0 ∨ 5 < r
      · exact .inr (.inr hr)
      · refine .inr (.inl ?_)
        rw [Bool.eq_false_iff, Ne, grdB_iff]
        omega)]
    exact (rwalk_no a l g n r w h).mono fun _ _ ⟨he, hw⟩ => ⟨he, hw ▸ Only.refl _ _⟩
  · have h' := h
    simp only [not_or, Bool.not_eq_false] at h'
    obtain ⟨hA, hn, hg, hr, hr5⟩ := h'
    by_cases hb : 2 ^ n.toNat ≤ g
    · rw [walkP_arg (.inr (.inl (by rw [Bool.eq_false_iff, Ne, grdB_iff]; omega)))]
      exact (rwalk_big a l g n r w hA (by omega) (by omega) (by omega) (by omega) (by omega) hb).mono fun _ _ ⟨he, hw⟩ => ⟨he, hw ▸ Only.refl _ _⟩
    · exact rwalk_yes a l g n r w hA ((grdB_iff _ _).2 ⟨⟨by omega, by omega⟩, by omega, by omega⟩) (by omega) (by omega)
end
theorem rwalk_is {a l g n r x y z : Int} (h : walkP a l g n r = (x, y, z)) (w : World) : Calls Try.prog 8 #[.int .i64 a, .int .i64 l, .int .i64 g, .int .i64 n, .int .i64 r] w fun e w' => e = .returned (.tuple #[.int .i64 x, .int .i64 y, .int .i64 z]) ∧ Only [] w w' := by
  have q := rwalk_any a l g n r w
  rwa [h] at q
end Go.Proofs.Yteendpbehlamjaa
