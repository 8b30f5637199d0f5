/- What Walk of package guard answers (layer 4): for all numbers. -/
import Derived.Test.YtbklkpbcdijgoaaGuardA
import Derived.Test.YtbklkpbcdijgoaaErrV
namespace Go.Proofs.Ytbklkpbcdijgoaa
open Go.RowKit
theorem grd_any (g b : Int) (w : World) : Calls Try.prog 20 #[.int .i64 g, .int .i64 b] w fun e w' => e = .returned (.bool (grdB g b)) ∧ w' = w := by
  go_enter Try.func20, Try.ntmps20
  go_wp2_with (go_at_call 26; refine (fits_any _ _ _ (by omega) (by omega)).mono ?_; rintro e w' ⟨rfl, rfl⟩)
  all_goals go_ret
  all_goals exact ⟨by simp [grdB, *] <;> omega, rfl⟩
theorem walk_no (a l g n r : Int) (w : World) (h : addrB a l = false ∨ grdB g n = false ∨ r < 0 ∨ 5 < r) : Calls Try.prog 11 #[.int .i64 a, .int .i64 l, .int .i64 g, .int .i64 n, .int .i64 r] w fun e w' => e = .returned (.tuple #[.int .i64 0, .int .i64 0, errV 1]) ∧ w' = w := by
  have H := Lib.hid h
  clear h
  go_enter Try.func11, Try.ntmps11
  go_wp2_with (first | (go_at_call 19; (refine (addr_any _ _ _).mono ?_); rintro e w' ⟨rfl, rfl⟩) | (go_at_call 20; (refine (grd_any _ _ _).mono ?_); rintro e w' ⟨rfl, rfl⟩) | (exfalso; have h := H.out; simp [*] at h; omega))
  all_goals go_ret3
  all_goals exact ⟨rfl, rfl⟩
theorem walk_yes (a l g n r : Int) (w : World) (hA : addrB a l = true) (hG : grdB g n = true) (r0 : 0 ≤ r) (r5 : r ≤ 5) : Calls Try.prog 11 #[.int .i64 a, .int .i64 l, .int .i64 g, .int .i64 n, .int .i64 r] w fun e w' => e = .returned (.tuple #[.int .i64 (walkP a l g n r).1, .int .i64 (walkP a l g n r).2.1, errV (walkP a l g n r).2.2]) ∧ Only [] w w' := by
  obtain ⟨⟨a0, a1⟩, l0, l1⟩ := (addrB_iff _ _).1 hA
  obtain ⟨⟨n0, n1⟩, -, -⟩ := (grdB_iff _ _).1 hG
  go_enter Try.func11, Try.ntmps11
  go_wp2_with (first | (go_at_call 19; (refine (addr_any _ _ _).mono ?_); rintro e w' ⟨rfl, rfl⟩) | (go_at_call 20; (refine (grd_any _ _ _).mono ?_); rintro e w' ⟨rfl, rfl⟩) | (go_at_call 21; (refine (highest_any _ _ _ _ (by omega) (by omega) (by omega) (by omega) (by omega)).mono ?_); rintro e w' ⟨rfl, ho⟩))
  all_goals go_ret3
  all_goals first
    | (rw [walkP_deep hA hG r0 r5 (by omega)]; exact ⟨rfl, Only.refl _ _⟩)
    | (rw [walkP_other hA hG r0 r5 (by omega) (by simpa using ‹(topI a l n != g) = true›)]; exact ⟨rfl, ho⟩)
    | (rw [walkP_ok hA hG r0 r5 (by omega) (by simpa using ‹(topI a l n != g) = false›)]; exact ⟨rfl, Only.trans (by assumption) ho⟩)
theorem walk_any (a l g n r : Int) (w : World) : Calls Try.prog 11 #[.int .i64 a, .int .i64 l, .int .i64 g, .int .i64 n, .int .i64 r] w fun e w' => e = .returned (.tuple #[.int .i64 (walkP a l g n r).1, .int .i64 (walkP a l g n r).2.1, errV (walkP a l g n r).2.2]) ∧ Only [] w w' := by
  by_cases h : addrB a l = false ∨ grdB g n = false ∨ r < 0 ∨ 5 < r
  · rw [walkP_arg h]
    exact (walk_no a l g n r w h).mono fun _ _ ⟨he, hw⟩ => ⟨he, hw ▸ Only.refl _ _⟩
  · have h' := h
    simp only [not_or, Bool.not_eq_false] at h'
    exact walk_yes a l g n r w h'.1 h'.2.1 (by omega) (by omega)
theorem walk_is {a l g n r x y z : Int} (h : walkP a l g n r = (x, y, z)) (w : World) : Calls Try.prog 11 #[.int .i64 a, .int .i64 l, .int .i64 g, .int .i64 n, .int .i64 r] w fun e w' => e = .returned (.tuple #[.int .i64 x, .int .i64 y, errV z]) ∧ Only [] w w' := by
  have q := walk_any a l g n r w
  rwa [h] at q
end Go.Proofs.Ytbklkpbcdijgoaa
