/- What the document's own answer for layer 3 answers: Mint, for every capability and every number. -/
import Derived.Test.YtpbajcligjlehaaRefBoth
import Derived.Test.YtpbajcligjlehaaRefDerive
namespace Go.Proofs.Ytpbajcligjlehaa
open Go.RowKit
section
variable (c : Cp) (w : World)
set_option maxHeartbeats 1000000 in
theorem refMint_not (m b : Int) (hs : c.mayB = false) : Calls Try.prog 10 #[c.v, .int .i64 m, .int .i64 b] w (RvPost w Cp.zero 1) := by
  have H' := Lib.hid hs
  clear hs
  go_enter Try.func10, Try.ntmps10
  go_wp2_with fail
  (with_reducible refine (refMay_is _ false H'.out _).mono ?_); rintro e w1 ⟨rfl, ho1⟩
  obtain ⟨hb0, hb1⟩ := two_blks (c := c) (x := ⟨0, 0, 0, 0, 0, 0⟩) ho1
  obtain ⟨k0, k1, k2, k3, k4, k5⟩ := hb0.six
  obtain ⟨l0, l1, l2, l3, l4, l5⟩ := hb1.six
  have f := hb1.frozen
  have f' := hb0.frozen
  go_wp2
  refine bodyPost_ret (v := .tuple #[Cp.zero.v, .int .i64 1]) (by simp [results, Try.results10, go_sem, l0, l1, l2, l3, l4, l5, k0, k1, k2, k3, k4, k5, Cp.zero]) rfl ⟨rfl, ?_⟩
  repeat (refine Only.setCell ?_ (.inr (by first | exact Nat.le_refl _ | exact Nat.le_succ _)) _)
  exact only_two (c := c) (x := ⟨0, 0, 0, 0, 0, 0⟩) ho1
set_option maxHeartbeats 1000000 in
theorem refMint_null (m b : Int) (hs : c.mayB = true) (hk : (c.kind == 0) = true) : Calls Try.prog 10 #[c.v, .int .i64 m, .int .i64 b] w (RvPost w Cp.zero 1) := by
  have H' := Lib.hid hs
  clear hs
  go_enter Try.func10, Try.ntmps10
  go_wp2_with fail
  (with_reducible refine (refMay_is _ true H'.out _).mono ?_); rintro e w1 ⟨rfl, ho1⟩
  obtain ⟨hb0, hb1⟩ := two_blks (c := c) (x := ⟨0, 0, 0, 0, 0, 0⟩) ho1
  obtain ⟨k0, k1, k2, k3, k4, k5⟩ := hb0.six
  obtain ⟨l0, l1, l2, l3, l4, l5⟩ := hb1.six
  have f := hb1.frozen
  have f' := hb0.frozen
  go_wp2
  refine bodyPost_ret (v := .tuple #[Cp.zero.v, .int .i64 1]) (by simp [results, Try.results10, go_sem, l0, l1, l2, l3, l4, l5, k0, k1, k2, k3, k4, k5, Cp.zero]) rfl ⟨rfl, ?_⟩
  repeat (refine Only.setCell ?_ (.inr (by first | exact Nat.le_refl _ | exact Nat.le_succ _)) _)
  exact only_two (c := c) (x := ⟨0, 0, 0, 0, 0, 0⟩) ho1
set_option maxHeartbeats 1000000 in
theorem refMint_low (m b : Int) (hs : c.mayB = true) (hk : (c.kind == 0) = false) (hm : m < 0) : Calls Try.prog 10 #[c.v, .int .i64 m, .int .i64 b] w (RvPost w Cp.zero 1) := by
  have H' := Lib.hid hs
  clear hs
  go_enter Try.func10, Try.ntmps10
  go_wp2_with fail
  (with_reducible refine (refMay_is _ true H'.out _).mono ?_); rintro e w1 ⟨rfl, ho1⟩
  obtain ⟨hb0, hb1⟩ := two_blks (c := c) (x := ⟨0, 0, 0, 0, 0, 0⟩) ho1
  obtain ⟨k0, k1, k2, k3, k4, k5⟩ := hb0.six
  obtain ⟨l0, l1, l2, l3, l4, l5⟩ := hb1.six
  have f := hb1.frozen
  have f' := hb0.frozen
  go_wp2
  refine bodyPost_ret (v := .tuple #[Cp.zero.v, .int .i64 1]) (by simp [results, Try.results10, go_sem, l0, l1, l2, l3, l4, l5, k0, k1, k2, k3, k4, k5, Cp.zero]) rfl ⟨rfl, ?_⟩
  repeat (refine Only.setCell ?_ (.inr (by first | exact Nat.le_refl _ | exact Nat.le_succ _)) _)
  exact only_two (c := c) (x := ⟨0, 0, 0, 0, 0, 0⟩) ho1
set_option maxHeartbeats 1000000 in
theorem refMint_high (m b : Int) (hs : c.mayB = true) (hk : (c.kind == 0) = false) (hm : 7 < m) : Calls Try.prog 10 #[c.v, .int .i64 m, .int .i64 b] w (RvPost w Cp.zero 1) := by
  have H' := Lib.hid hs
  clear hs
  go_enter Try.func10, Try.ntmps10
  go_wp2_with fail
  (with_reducible refine (refMay_is _ true H'.out _).mono ?_); rintro e w1 ⟨rfl, ho1⟩
  obtain ⟨hb0, hb1⟩ := two_blks (c := c) (x := ⟨0, 0, 0, 0, 0, 0⟩) ho1
  obtain ⟨k0, k1, k2, k3, k4, k5⟩ := hb0.six
  obtain ⟨l0, l1, l2, l3, l4, l5⟩ := hb1.six
  have f := hb1.frozen
  have f' := hb0.frozen
  go_wp2
  refine bodyPost_ret (v := .tuple #[Cp.zero.v, .int .i64 1]) (by simp [results, Try.results10, go_sem, l0, l1, l2, l3, l4, l5, k0, k1, k2, k3, k4, k5, Cp.zero]) rfl ⟨rfl, ?_⟩
  repeat (refine Only.setCell ?_ (.inr (by first | exact Nat.le_refl _ | exact Nat.le_succ _)) _)
  exact only_two (c := c) (x := ⟨0, 0, 0, 0, 0, 0⟩) ho1
set_option maxHeartbeats 1000000 in
theorem refMint_blow (m b : Int) (hs : c.mayB = true) (hk : (c.kind == 0) = false) (h0 : 0 ≤ m) (h7 : m ≤ 7) (hb : b < 1) : Calls Try.prog 10 #[c.v, .int .i64 m, .int .i64 b] w (RvPost w Cp.zero 1) := by
  have H' := Lib.hid hs
  clear hs
  go_enter Try.func10, Try.ntmps10
  go_wp2_with fail
  (with_reducible refine (refMay_is _ true H'.out _).mono ?_); rintro e w1 ⟨rfl, ho1⟩
  obtain ⟨hb0, hb1⟩ := two_blks (c := c) (x := ⟨0, 0, 0, 0, 0, 0⟩) ho1
  obtain ⟨k0, k1, k2, k3, k4, k5⟩ := hb0.six
  obtain ⟨l0, l1, l2, l3, l4, l5⟩ := hb1.six
  have f := hb1.frozen
  have f' := hb0.frozen
  go_wp2
  refine bodyPost_ret (v := .tuple #[Cp.zero.v, .int .i64 1]) (by simp [results, Try.results10, go_sem, l0, l1, l2, l3, l4, l5, k0, k1, k2, k3, k4, k5, Cp.zero]) rfl ⟨rfl, ?_⟩
  repeat (refine Only.setCell ?_ (.inr (by first | exact Nat.le_refl _ | exact Nat.le_succ _)) _)
  exact only_two (c := c) (x := ⟨0, 0, 0, 0, 0, 0⟩) ho1
set_option maxHeartbeats 1000000 in
theorem refMint_bhigh (m b : Int) (hs : c.mayB = true) (hk : (c.kind == 0) = false) (h0 : 0 ≤ m) (h7 : m ≤ 7) (hb : 65535 < b) : Calls Try.prog 10 #[c.v, .int .i64 m, .int .i64 b] w (RvPost w Cp.zero 1) := by
  have H' := Lib.hid hs
  clear hs
  go_enter Try.func10, Try.ntmps10
  go_wp2_with fail
  (with_reducible refine (refMay_is _ true H'.out _).mono ?_); rintro e w1 ⟨rfl, ho1⟩
  obtain ⟨hb0, hb1⟩ := two_blks (c := c) (x := ⟨0, 0, 0, 0, 0, 0⟩) ho1
  obtain ⟨k0, k1, k2, k3, k4, k5⟩ := hb0.six
  obtain ⟨l0, l1, l2, l3, l4, l5⟩ := hb1.six
  have f := hb1.frozen
  have f' := hb0.frozen
  go_wp2
  refine bodyPost_ret (v := .tuple #[Cp.zero.v, .int .i64 1]) (by simp [results, Try.results10, go_sem, l0, l1, l2, l3, l4, l5, k0, k1, k2, k3, k4, k5, Cp.zero]) rfl ⟨rfl, ?_⟩
  repeat (refine Only.setCell ?_ (.inr (by first | exact Nat.le_refl _ | exact Nat.le_succ _)) _)
  exact only_two (c := c) (x := ⟨0, 0, 0, 0, 0, 0⟩) ho1
set_option maxHeartbeats 1000000 in
theorem refMint_type (m b : Int) (hs : c.mayB = true) (hk : (c.kind == 0) = false) (h0 : 0 ≤ m) (h7 : m ≤ 7) (hb1 : 1 ≤ b) (hb2 : b ≤ 65535) (hd : (c.kind != 3) = true) (hd4 : (c.kind != 4) = true) : Calls Try.prog 10 #[c.v, .int .i64 m, .int .i64 b] w (RvPost w Cp.zero 5) := by
  have H' := Lib.hid hs
  clear hs
  go_enter Try.func10, Try.ntmps10
  go_wp2_with fail
  (with_reducible refine (refMay_is _ true H'.out _).mono ?_); rintro e w1 ⟨rfl, ho1⟩
  obtain ⟨hb0, hb1⟩ := two_blks (c := c) (x := ⟨0, 0, 0, 0, 0, 0⟩) ho1
  obtain ⟨k0, k1, k2, k3, k4, k5⟩ := hb0.six
  obtain ⟨l0, l1, l2, l3, l4, l5⟩ := hb1.six
  have f := hb1.frozen
  have f' := hb0.frozen
  go_wp2
  refine bodyPost_ret (v := .tuple #[Cp.zero.v, .int .i64 5]) (by simp [results, Try.results10, go_sem, l0, l1, l2, l3, l4, l5, k0, k1, k2, k3, k4, k5, Cp.zero]) rfl ⟨rfl, ?_⟩
  repeat (refine Only.setCell ?_ (.inr (by first | exact Nat.le_refl _ | exact Nat.le_succ _)) _)
  exact only_two (c := c) (x := ⟨0, 0, 0, 0, 0, 0⟩) ho1
set_option maxHeartbeats 1000000 in
theorem refMint_state3 (m b : Int) (hs : c.mayB = true) (hk : (c.kind == 0) = false) (h0 : 0 ≤ m) (h7 : m ≤ 7) (hb1 : 1 ≤ b) (hb2 : b ≤ 65535) (hd : (c.kind != 3) = false) (hz : (c.badge != 0) = true) : Calls Try.prog 10 #[c.v, .int .i64 m, .int .i64 b] w (RvPost w Cp.zero 10) := by
  have H' := Lib.hid hs
  clear hs
  go_enter Try.func10, Try.ntmps10
  go_wp2_with fail
  (with_reducible refine (refMay_is _ true H'.out _).mono ?_); rintro e w1 ⟨rfl, ho1⟩
  obtain ⟨hb0, hb1⟩ := two_blks (c := c) (x := ⟨0, 0, 0, 0, 0, 0⟩) ho1
  obtain ⟨k0, k1, k2, k3, k4, k5⟩ := hb0.six
  obtain ⟨l0, l1, l2, l3, l4, l5⟩ := hb1.six
  have f := hb1.frozen
  have f' := hb0.frozen
  go_wp2
  refine bodyPost_ret (v := .tuple #[Cp.zero.v, .int .i64 10]) (by simp [results, Try.results10, go_sem, l0, l1, l2, l3, l4, l5, k0, k1, k2, k3, k4, k5, Cp.zero]) rfl ⟨rfl, ?_⟩
  repeat (refine Only.setCell ?_ (.inr (by first | exact Nat.le_refl _ | exact Nat.le_succ _)) _)
  exact only_two (c := c) (x := ⟨0, 0, 0, 0, 0, 0⟩) ho1
set_option maxHeartbeats 1000000 in
theorem refMint_state4 (m b : Int) (hs : c.mayB = true) (hk : (c.kind == 0) = false) (h0 : 0 ≤ m) (h7 : m ≤ 7) (hb1 : 1 ≤ b) (hb2 : b ≤ 65535) (hd : (c.kind != 3) = true) (hd4 : (c.kind != 4) = false) (hz : (c.badge != 0) = true) : Calls Try.prog 10 #[c.v, .int .i64 m, .int .i64 b] w (RvPost w Cp.zero 10) := by
  have H' := Lib.hid hs
  clear hs
  go_enter Try.func10, Try.ntmps10
  go_wp2_with fail
  (with_reducible refine (refMay_is _ true H'.out _).mono ?_); rintro e w1 ⟨rfl, ho1⟩
  obtain ⟨hb0, hb1⟩ := two_blks (c := c) (x := ⟨0, 0, 0, 0, 0, 0⟩) ho1
  obtain ⟨k0, k1, k2, k3, k4, k5⟩ := hb0.six
  obtain ⟨l0, l1, l2, l3, l4, l5⟩ := hb1.six
  have f := hb1.frozen
  have f' := hb0.frozen
  go_wp2
  refine bodyPost_ret (v := .tuple #[Cp.zero.v, .int .i64 10]) (by simp [results, Try.results10, go_sem, l0, l1, l2, l3, l4, l5, k0, k1, k2, k3, k4, k5, Cp.zero]) rfl ⟨rfl, ?_⟩
  repeat (refine Only.setCell ?_ (.inr (by first | exact Nat.le_refl _ | exact Nat.le_succ _)) _)
  exact only_two (c := c) (x := ⟨0, 0, 0, 0, 0, 0⟩) ho1
set_option maxHeartbeats 1000000 in
theorem refMint_yes3 (m b : Int) (hs : c.mayB = true) (r0 : 0 ≤ c.rights) (r7 : c.rights ≤ 7) (hk : (c.kind == 0) = false) (h0 : 0 ≤ m) (h7 : m ≤ 7) (hb1 : 1 ≤ b) (hb2 : b ≤ 65535) (hd : (c.kind != 3) = false) (hz : (c.badge != 0) = false) : Calls Try.prog 10 #[c.v, .int .i64 m, .int .i64 b] w (RvPost w ⟨c.kind, andR c.rights m, c.obj, b, c.guard, c.bits⟩ 0) := by
  have H' := Lib.hid hs
  clear hs
  go_enter Try.func10, Try.ntmps10
  go_wp2_with fail
  (with_reducible refine (refMay_is _ true H'.out _).mono ?_); rintro e w1 ⟨rfl, ho1⟩
  obtain ⟨hb0, hb1⟩ := two_blks (c := c) (x := ⟨0, 0, 0, 0, 0, 0⟩) ho1
  obtain ⟨k0, k1, k2, k3, k4, k5⟩ := hb0.six
  obtain ⟨l0, l1, l2, l3, l4, l5⟩ := hb1.six
  have f := hb1.frozen
  have f' := hb0.frozen
  go_wp2_with (go_at_call 21; refine (refBoth_any _ _ _ r0 r7 h0 h7).mono ?_; rintro e w3 ⟨rfl, rfl⟩)
  refine bodyPost_ret (v := .tuple #[(Cp.mk c.kind (andR c.rights m) c.obj b c.guard c.bits).v, .int .i64 0]) (by simp [results, Try.results10, go_sem, l0, l1, l2, l3, l4, l5, k0, k1, k2, k3, k4, k5, Cp.zero, andR]) rfl ⟨rfl, ?_⟩
  repeat (refine Only.setCell ?_ (.inr (by first | exact Nat.le_refl _ | exact Nat.le_succ _)) _)
  exact only_two (c := c) (x := ⟨0, 0, 0, 0, 0, 0⟩) ho1
set_option maxHeartbeats 1000000 in
theorem refMint_yes4 (m b : Int) (hs : c.mayB = true) (r0 : 0 ≤ c.rights) (r7 : c.rights ≤ 7) (hk : (c.kind == 0) = false) (h0 : 0 ≤ m) (h7 : m ≤ 7) (hb1 : 1 ≤ b) (hb2 : b ≤ 65535) (hd : (c.kind != 3) = true) (hd4 : (c.kind != 4) = false) (hz : (c.badge != 0) = false) : Calls Try.prog 10 #[c.v, .int .i64 m, .int .i64 b] w (RvPost w ⟨c.kind, andR c.rights m, c.obj, b, c.guard, c.bits⟩ 0) := by
  have H' := Lib.hid hs
  clear hs
  go_enter Try.func10, Try.ntmps10
  go_wp2_with fail
  (with_reducible refine (refMay_is _ true H'.out _).mono ?_); rintro e w1 ⟨rfl, ho1⟩
  obtain ⟨hb0, hb1⟩ := two_blks (c := c) (x := ⟨0, 0, 0, 0, 0, 0⟩) ho1
  obtain ⟨k0, k1, k2, k3, k4, k5⟩ := hb0.six
  obtain ⟨l0, l1, l2, l3, l4, l5⟩ := hb1.six
  have f := hb1.frozen
  have f' := hb0.frozen
  go_wp2_with (go_at_call 21; refine (refBoth_any _ _ _ r0 r7 h0 h7).mono ?_; rintro e w3 ⟨rfl, rfl⟩)
  refine bodyPost_ret (v := .tuple #[(Cp.mk c.kind (andR c.rights m) c.obj b c.guard c.bits).v, .int .i64 0]) (by simp [results, Try.results10, go_sem, l0, l1, l2, l3, l4, l5, k0, k1, k2, k3, k4, k5, Cp.zero, andR]) rfl ⟨rfl, ?_⟩
  repeat (refine Only.setCell ?_ (.inr (by first | exact Nat.le_refl _ | exact Nat.le_succ _)) _)
  exact only_two (c := c) (x := ⟨0, 0, 0, 0, 0, 0⟩) ho1
theorem refMint_any (m b : Int) : Calls Try.prog 10 #[c.v, .int .i64 m, .int .i64 b] w (RvPost w (c.mint m b).1 (c.mint m b).2) := by
  by_cases hs : c.may
  · have hs' : c.mayB = true := decide_eq_true hs
    by_cases hk : c.kind = 0
    · have e : c.mint m b = (Cp.zero, 1) := by unfold Cp.mint; rw [if_pos (fun q => q.2.1 hk)]
      rw [e]; exact refMint_null c w m b hs' (by simp [hk])
    · have hk' : (c.kind == 0) = false := by simpa using hk
      by_cases h0 : 0 ≤ m
      · by_cases h7 : m ≤ 7
        · by_cases hb1 : 1 ≤ b
          · by_cases hb2 : b ≤ 65535
            · by_cases hq : c.kind = 3 ∨ c.kind = 4
              · by_cases hz : c.badge = 0
                · have e := Cp.Mints.is (c := c) (m := m) (b := b) ⟨hs, hq, hz, h0, h7, hb1, hb2, rfl⟩
                  rw [e]
                  by_cases h3 : c.kind = 3
                  · exact refMint_yes3 c w m b hs' hs.small.r0 hs.small.r1 hk' h0 h7 hb1 hb2 (by simp [h3]) (by simp [hz])
                  · exact refMint_yes4 c w m b hs' hs.small.r0 hs.small.r1 hk' h0 h7 hb1 hb2 (by simpa using h3) (by simp; omega) (by simp [hz])
                · have e : c.mint m b = (Cp.zero, 10) := by unfold Cp.mint; rw [if_neg (fun q => q ⟨hs, hk, h0, h7, hb1, hb2⟩), if_neg (fun q => q hq), if_pos hz]
                  rw [e]
                  by_cases h3 : c.kind = 3
                  · exact refMint_state3 c w m b hs' hk' h0 h7 hb1 hb2 (by simp [h3]) (by simpa using hz)
                  · exact refMint_state4 c w m b hs' hk' h0 h7 hb1 hb2 (by simpa using h3) (by simp; omega) (by simpa using hz)
              · have e : c.mint m b = (Cp.zero, 5) := by unfold Cp.mint; rw [if_neg (fun q => q ⟨hs, hk, h0, h7, hb1, hb2⟩), if_pos hq]
                rw [e]; exact refMint_type c w m b hs' hk' h0 h7 hb1 hb2 (by simp; omega) (by simp; omega)
            · have e : c.mint m b = (Cp.zero, 1) := by unfold Cp.mint; rw [if_pos (fun q => hb2 q.2.2.2.2.2)]
              rw [e]; exact refMint_bhigh c w m b hs' hk' h0 h7 (by omega)
          · have e : c.mint m b = (Cp.zero, 1) := by unfold Cp.mint; rw [if_pos (fun q => hb1 q.2.2.2.2.1)]
            rw [e]; exact refMint_blow c w m b hs' hk' h0 h7 (by omega)
        · have e : c.mint m b = (Cp.zero, 1) := by unfold Cp.mint; rw [if_pos (fun q => h7 q.2.2.2.1)]
          rw [e]; exact refMint_high c w m b hs' hk' (by omega)
      · have e : c.mint m b = (Cp.zero, 1) := by unfold Cp.mint; rw [if_pos (fun q => h0 q.2.2.1)]
        rw [e]; exact refMint_low c w m b hs' hk' (by omega)
  · have e : c.mint m b = (Cp.zero, 1) := by unfold Cp.mint; rw [if_pos (fun q => hs q.1)]
    rw [e]; exact refMint_not c w m b (decide_eq_false hs)
theorem refMint_is {c x : Cp} {m b n : Int} (h : c.mint m b = (x, n)) (w : World) : Calls Try.prog 10 #[c.v, .int .i64 m, .int .i64 b] w fun e w' => e = .returned (.tuple #[x.v, .int .i64 n]) ∧ Only [] w w' := by
  have q := refMint_any c w m b
  rw [h] at q
  exact q
end
end Go.Proofs.Ytpbajcligjlehaa
