/- What the document's own answer for layer 3 answers: Derive, for every capability and every number. -/
import Derived.Test.YtpbajcligjlehaaRefBoth
import Derived.Test.YtpbajcligjlehaaDerive
namespace Go.Proofs.Ytpbajcligjlehaa
open Go.RowKit
/-- what the document's answer tells: a capability, and an error's number -/
def RvPost (w : World) (x : Cp) (n : Int) (e : Ending) (w' : World) : Prop := e = .returned (.tuple #[x.v, .int .i64 n]) ∧ Only [] w w'
theorem refMay_is (c : Cp) (b : Bool) (h : c.mayB = b) (w : World) : Calls Try.prog 13 #[c.v] w fun e w' => e = .returned (.bool b) ∧ Only [] w w' :=
  h ▸ refMay_any c w
section
variable (c : Cp) (w : World)
set_option maxHeartbeats 1000000 in
theorem refDerive_not (m : Int) (hs : c.mayB = false) : Calls Try.prog 9 #[c.v, .int .i64 m] w (RvPost w Cp.zero 1) := by
  have H' := Lib.hid hs
  clear hs
  go_enter Try.func9, Try.ntmps9
  go_wp2_with fail
  (with_reducible refine (refMay_is _ false H'.out _).mono ?_); rintro e w1 ⟨rfl, ho1⟩
  obtain ⟨hb0, hb1⟩ := two_blks (c := c) (x := ⟨0, 0, 0, 0, 0, 0⟩) ho1
  obtain ⟨k0, k1, k2, k3, k4, k5⟩ := hb0.six
  obtain ⟨l0, l1, l2, l3, l4, l5⟩ := hb1.six
  have f := hb1.frozen
  have f' := hb0.frozen
  go_wp2
  refine bodyPost_ret (v := .tuple #[Cp.zero.v, .int .i64 1]) (by simp [results, Try.results9, go_sem, l0, l1, l2, l3, l4, l5, k0, k1, k2, k3, k4, k5, Cp.zero]) rfl ⟨rfl, ?_⟩
  repeat (refine Only.setCell ?_ (.inr (by first | exact Nat.le_refl _ | exact Nat.le_succ _)) _)
  exact only_two (c := c) (x := ⟨0, 0, 0, 0, 0, 0⟩) ho1
set_option maxHeartbeats 1000000 in
theorem refDerive_null (m : Int) (hs : c.mayB = true) (hk : (c.kind == 0) = true) : Calls Try.prog 9 #[c.v, .int .i64 m] w (RvPost w Cp.zero 1) := by
  have H' := Lib.hid hs
  clear hs
  go_enter Try.func9, Try.ntmps9
  go_wp2_with fail
  (with_reducible refine (refMay_is _ true H'.out _).mono ?_); rintro e w1 ⟨rfl, ho1⟩
  obtain ⟨hb0, hb1⟩ := two_blks (c := c) (x := ⟨0, 0, 0, 0, 0, 0⟩) ho1
  obtain ⟨k0, k1, k2, k3, k4, k5⟩ := hb0.six
  obtain ⟨l0, l1, l2, l3, l4, l5⟩ := hb1.six
  have f := hb1.frozen
  have f' := hb0.frozen
  go_wp2
  refine bodyPost_ret (v := .tuple #[Cp.zero.v, .int .i64 1]) (by simp [results, Try.results9, go_sem, l0, l1, l2, l3, l4, l5, k0, k1, k2, k3, k4, k5, Cp.zero]) rfl ⟨rfl, ?_⟩
  repeat (refine Only.setCell ?_ (.inr (by first | exact Nat.le_refl _ | exact Nat.le_succ _)) _)
  exact only_two (c := c) (x := ⟨0, 0, 0, 0, 0, 0⟩) ho1
set_option maxHeartbeats 1000000 in
theorem refDerive_low (m : Int) (hs : c.mayB = true) (hk : (c.kind == 0) = false) (hm : m < 0) : Calls Try.prog 9 #[c.v, .int .i64 m] w (RvPost w Cp.zero 1) := by
  have H' := Lib.hid hs
  clear hs
  go_enter Try.func9, Try.ntmps9
  go_wp2_with fail
  (with_reducible refine (refMay_is _ true H'.out _).mono ?_); rintro e w1 ⟨rfl, ho1⟩
  obtain ⟨hb0, hb1⟩ := two_blks (c := c) (x := ⟨0, 0, 0, 0, 0, 0⟩) ho1
  obtain ⟨k0, k1, k2, k3, k4, k5⟩ := hb0.six
  obtain ⟨l0, l1, l2, l3, l4, l5⟩ := hb1.six
  have f := hb1.frozen
  have f' := hb0.frozen
  go_wp2
  refine bodyPost_ret (v := .tuple #[Cp.zero.v, .int .i64 1]) (by simp [results, Try.results9, go_sem, l0, l1, l2, l3, l4, l5, k0, k1, k2, k3, k4, k5, Cp.zero]) rfl ⟨rfl, ?_⟩
  repeat (refine Only.setCell ?_ (.inr (by first | exact Nat.le_refl _ | exact Nat.le_succ _)) _)
  exact only_two (c := c) (x := ⟨0, 0, 0, 0, 0, 0⟩) ho1
set_option maxHeartbeats 1000000 in
theorem refDerive_high (m : Int) (hs : c.mayB = true) (hk : (c.kind == 0) = false) (hm : 7 < m) : Calls Try.prog 9 #[c.v, .int .i64 m] w (RvPost w Cp.zero 1) := by
  have H' := Lib.hid hs
  clear hs
  go_enter Try.func9, Try.ntmps9
  go_wp2_with fail
  (with_reducible refine (refMay_is _ true H'.out _).mono ?_); rintro e w1 ⟨rfl, ho1⟩
  obtain ⟨hb0, hb1⟩ := two_blks (c := c) (x := ⟨0, 0, 0, 0, 0, 0⟩) ho1
  obtain ⟨k0, k1, k2, k3, k4, k5⟩ := hb0.six
  obtain ⟨l0, l1, l2, l3, l4, l5⟩ := hb1.six
  have f := hb1.frozen
  have f' := hb0.frozen
  go_wp2
  refine bodyPost_ret (v := .tuple #[Cp.zero.v, .int .i64 1]) (by simp [results, Try.results9, go_sem, l0, l1, l2, l3, l4, l5, k0, k1, k2, k3, k4, k5, Cp.zero]) rfl ⟨rfl, ?_⟩
  repeat (refine Only.setCell ?_ (.inr (by first | exact Nat.le_refl _ | exact Nat.le_succ _)) _)
  exact only_two (c := c) (x := ⟨0, 0, 0, 0, 0, 0⟩) ho1
set_option maxHeartbeats 1000000 in
theorem refDerive_mem (m : Int) (hs : c.mayB = true) (hk : (c.kind == 0) = false) (h0 : 0 ≤ m) (h7 : m ≤ 7) (hd : (c.kind == 1) = true) : Calls Try.prog 9 #[c.v, .int .i64 m] w (RvPost w Cp.zero 5) := by
  have H' := Lib.hid hs
  clear hs
  go_enter Try.func9, Try.ntmps9
  go_wp2_with fail
  (with_reducible refine (refMay_is _ true H'.out _).mono ?_); rintro e w1 ⟨rfl, ho1⟩
  obtain ⟨hb0, hb1⟩ := two_blks (c := c) (x := ⟨0, 0, 0, 0, 0, 0⟩) ho1
  obtain ⟨k0, k1, k2, k3, k4, k5⟩ := hb0.six
  obtain ⟨l0, l1, l2, l3, l4, l5⟩ := hb1.six
  have f := hb1.frozen
  have f' := hb0.frozen
  go_wp2
  refine bodyPost_ret (v := .tuple #[Cp.zero.v, .int .i64 5]) (by simp [results, Try.results9, go_sem, l0, l1, l2, l3, l4, l5, k0, k1, k2, k3, k4, k5, Cp.zero]) rfl ⟨rfl, ?_⟩
  repeat (refine Only.setCell ?_ (.inr (by first | exact Nat.le_refl _ | exact Nat.le_succ _)) _)
  exact only_two (c := c) (x := ⟨0, 0, 0, 0, 0, 0⟩) ho1
set_option maxHeartbeats 1000000 in
theorem refDerive_yes (m : Int) (hs : c.mayB = true) (r0 : 0 ≤ c.rights) (r7 : c.rights ≤ 7) (hk : (c.kind == 0) = false) (h0 : 0 ≤ m) (h7 : m ≤ 7) (hd : (c.kind == 1) = false) : Calls Try.prog 9 #[c.v, .int .i64 m] w (RvPost w ⟨c.kind, andR c.rights m, c.obj, c.badge, c.guard, c.bits⟩ 0) := by
  have H' := Lib.hid hs
  clear hs
  go_enter Try.func9, Try.ntmps9
  go_wp2_with fail
  (with_reducible refine (refMay_is _ true H'.out _).mono ?_); rintro e w1 ⟨rfl, ho1⟩
  obtain ⟨hb0, hb1⟩ := two_blks (c := c) (x := ⟨0, 0, 0, 0, 0, 0⟩) ho1
  obtain ⟨k0, k1, k2, k3, k4, k5⟩ := hb0.six
  obtain ⟨l0, l1, l2, l3, l4, l5⟩ := hb1.six
  have f := hb1.frozen
  have f' := hb0.frozen
  go_wp2_with (go_at_call 21; refine (refBoth_any _ _ _ r0 r7 h0 h7).mono ?_; rintro e w3 ⟨rfl, rfl⟩)
  refine bodyPost_ret (v := .tuple #[(Cp.mk c.kind (andR c.rights m) c.obj c.badge c.guard c.bits).v, .int .i64 0]) (by simp [results, Try.results9, go_sem, l0, l1, l2, l3, l4, l5, k0, k1, k2, k3, k4, k5, Cp.zero, andR]) rfl ⟨rfl, ?_⟩
  repeat (refine Only.setCell ?_ (.inr (by first | exact Nat.le_refl _ | exact Nat.le_succ _)) _)
  exact only_two (c := c) (x := ⟨0, 0, 0, 0, 0, 0⟩) ho1
theorem refDerive_any (m : Int) : Calls Try.prog 9 #[c.v, .int .i64 m] w (RvPost w (c.derive m).1 (c.derive m).2) := by
  by_cases hs : c.may
  · have hs' : c.mayB = true := decide_eq_true hs
    by_cases hk : c.kind = 0
    · have e : c.derive m = (Cp.zero, 1) := by unfold Cp.derive; rw [if_pos (fun q => q.2.1 hk)]
      rw [e]; exact refDerive_null c w m hs' (by simp [hk])
    · have hk' : (c.kind == 0) = false := by simpa using hk
      by_cases h0 : 0 ≤ m
      · by_cases h7 : m ≤ 7
        · by_cases h1 : c.kind = 1
          · have e : c.derive m = (Cp.zero, 5) := by unfold Cp.derive; rw [if_neg (fun q => q ⟨hs, hk, h0, h7⟩), if_pos h1]
            rw [e]; exact refDerive_mem c w m hs' hk' h0 h7 (by simp [h1])
          · have e : c.derive m = (⟨c.kind, andR c.rights m, c.obj, c.badge, c.guard, c.bits⟩, 0) := Cp.Derives.is ⟨hs, hk, h1, h0, h7, rfl⟩
            rw [e]; exact refDerive_yes c w m hs' hs.small.r0 hs.small.r1 hk' h0 h7 (by simpa using h1)
        · have e : c.derive m = (Cp.zero, 1) := by unfold Cp.derive; rw [if_pos (fun q => h7 q.2.2.2)]
          rw [e]; exact refDerive_high c w m hs' hk' (by omega)
      · have e : c.derive m = (Cp.zero, 1) := by unfold Cp.derive; rw [if_pos (fun q => h0 q.2.2.1)]
        rw [e]; exact refDerive_low c w m hs' hk' (by omega)
  · have e : c.derive m = (Cp.zero, 1) := by unfold Cp.derive; rw [if_pos (fun q => hs q.1)]
    rw [e]; exact refDerive_not c w m (decide_eq_false hs)
theorem refDerive_is {c x : Cp} {m n : Int} (h : c.derive m = (x, n)) (w : World) : Calls Try.prog 9 #[c.v, .int .i64 m] w fun e w' => e = .returned (.tuple #[x.v, .int .i64 n]) ∧ Only [] w w' := by
  have q := refDerive_any c w m
  rw [h] at q
  exact q
end
end Go.Proofs.Ytpbajcligjlehaa
