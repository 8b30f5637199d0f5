/- What Mint of package rights answers (layer 3): for every capability and every number. -/
import Derived.Test.YtlhcigpllkigdaaDerive
namespace Go.Proofs.Ytlhcigpllkigdaa
open Go.RowKit
section
variable (c : Cp) (w : World)
set_option maxHeartbeats 1000000 in
theorem mint_arg (m b : Int) (h : someB c = false ∨ maskB m = false) : Calls Try.prog 36 #[c.v, .int .i64 m, .int .i64 b] w (DvPost w Cp.zero 1) := by
  by_cases hs : someB c = true
  · have hm : maskB m = false := by rcases h with h | h; (rw [h] at hs; cases hs); exact h
    have H := Lib.hid hm
    have H' := Lib.hid hs
    clear hm hs h
    go_enter Try.func36, Try.ntmps36
    go_wp2_with fail
    (with_reducible refine (some_is _ true H'.out _).mono ?_); rintro e w1 ⟨rfl, ho1⟩
    obtain ⟨hb0, hb1⟩ := two_blks (c := c) (x := ⟨0, 0, 0, 0, 0, 0⟩) ho1
    obtain ⟨k0, k1, k2, k3, k4, k5⟩ := hb0.six
    obtain ⟨l0, l1, l2, l3, l4, l5⟩ := hb1.six
    have f := hb1.frozen
    have f' := hb0.frozen
    go_wp2_with fail
    (with_reducible refine (mask_is _ false H.out _).mono ?_); rintro e w2 ⟨rfl, rfl⟩
    go_wp2
    refine bodyPost_ret (v := .tuple #[Cp.zero.v, errV 1]) (by simp [results, Try.results36, go_sem, l0, l1, l2, l3, l4, l5, k0, k1, k2, k3, k4, k5, errV, Cp.zero]) rfl ⟨rfl, ?_⟩
    repeat (refine Only.setCell ?_ (.inr (by first | exact Nat.le_refl _ | exact Nat.le_succ _)) _)
    exact only_two (c := c) (x := ⟨0, 0, 0, 0, 0, 0⟩) ho1
  · have H' := Lib.hid (show someB c = false by simpa using hs)
    clear hs h
    go_enter Try.func36, Try.ntmps36
    go_wp2_with fail
    (with_reducible refine (some_is _ false H'.out _).mono ?_); rintro e w1 ⟨rfl, ho1⟩
    obtain ⟨hb0, hb1⟩ := two_blks (c := c) (x := ⟨0, 0, 0, 0, 0, 0⟩) ho1
    obtain ⟨k0, k1, k2, k3, k4, k5⟩ := hb0.six
    obtain ⟨l0, l1, l2, l3, l4, l5⟩ := hb1.six
    have f := hb1.frozen
    have f' := hb0.frozen
    go_wp2
    refine bodyPost_ret (v := .tuple #[Cp.zero.v, errV 1]) (by simp [results, Try.results36, go_sem, l0, l1, l2, l3, l4, l5, k0, k1, k2, k3, k4, k5, errV, Cp.zero]) rfl ⟨rfl, ?_⟩
    repeat (refine Only.setCell ?_ (.inr (by first | exact Nat.le_refl _ | exact Nat.le_succ _)) _)
    exact only_two (c := c) (x := ⟨0, 0, 0, 0, 0, 0⟩) ho1
set_option maxHeartbeats 1000000 in
theorem mint_low (m b : Int) (hs : someB c = true) (hm : maskB m = true) (hb : b < 1) : Calls Try.prog 36 #[c.v, .int .i64 m, .int .i64 b] w (DvPost w Cp.zero 1) := by
  have H := Lib.hid hm
  have H' := Lib.hid hs
  clear hm hs
  go_enter Try.func36, Try.ntmps36
  go_wp2_with fail
  (with_reducible refine (some_is _ true H'.out _).mono ?_); rintro e w1 ⟨rfl, ho1⟩
  obtain ⟨hb0, hb1⟩ := two_blks (c := c) (x := ⟨0, 0, 0, 0, 0, 0⟩) ho1
  obtain ⟨k0, k1, k2, k3, k4, k5⟩ := hb0.six
  obtain ⟨l0, l1, l2, l3, l4, l5⟩ := hb1.six
  have f := hb1.frozen
  have f' := hb0.frozen
  go_wp2_with fail
  (with_reducible refine (mask_is _ true H.out _).mono ?_); rintro e w2 ⟨rfl, rfl⟩
  go_wp2
  refine bodyPost_ret (v := .tuple #[Cp.zero.v, errV 1]) (by simp [results, Try.results36, go_sem, l0, l1, l2, l3, l4, l5, k0, k1, k2, k3, k4, k5, errV, Cp.zero]) rfl ⟨rfl, ?_⟩
  repeat (refine Only.setCell ?_ (.inr (by first | exact Nat.le_refl _ | exact Nat.le_succ _)) _)
  exact only_two (c := c) (x := ⟨0, 0, 0, 0, 0, 0⟩) ho1
set_option maxHeartbeats 1000000 in
theorem mint_high (m b : Int) (hs : someB c = true) (hm : maskB m = true) (hb : 65535 < b) : Calls Try.prog 36 #[c.v, .int .i64 m, .int .i64 b] w (DvPost w Cp.zero 1) := by
  have H := Lib.hid hm
  have H' := Lib.hid hs
  clear hm hs
  go_enter Try.func36, Try.ntmps36
  go_wp2_with fail
  (with_reducible refine (some_is _ true H'.out _).mono ?_); rintro e w1 ⟨rfl, ho1⟩
  obtain ⟨hb0, hb1⟩ := two_blks (c := c) (x := ⟨0, 0, 0, 0, 0, 0⟩) ho1
  obtain ⟨k0, k1, k2, k3, k4, k5⟩ := hb0.six
  obtain ⟨l0, l1, l2, l3, l4, l5⟩ := hb1.six
  have f := hb1.frozen
  have f' := hb0.frozen
  go_wp2_with fail
  (with_reducible refine (mask_is _ true H.out _).mono ?_); rintro e w2 ⟨rfl, rfl⟩
  go_wp2
  refine bodyPost_ret (v := .tuple #[Cp.zero.v, errV 1]) (by simp [results, Try.results36, go_sem, l0, l1, l2, l3, l4, l5, k0, k1, k2, k3, k4, k5, errV, Cp.zero]) rfl ⟨rfl, ?_⟩
  repeat (refine Only.setCell ?_ (.inr (by first | exact Nat.le_refl _ | exact Nat.le_succ _)) _)
  exact only_two (c := c) (x := ⟨0, 0, 0, 0, 0, 0⟩) ho1
set_option maxHeartbeats 1000000 in
theorem mint_type (m b : Int) (hs : someB c = true) (hm : maskB m = true) (h1 : 1 ≤ b) (h2 : b ≤ 65535) (hd : (c.kind != 3) = true) (hd4 : (c.kind != 4) = true) : Calls Try.prog 36 #[c.v, .int .i64 m, .int .i64 b] w (DvPost w Cp.zero 5) := by
  have H := Lib.hid hm
  have H' := Lib.hid hs
  clear hm hs
  go_enter Try.func36, Try.ntmps36
  go_wp2_with fail
  (with_reducible refine (some_is _ true H'.out _).mono ?_); rintro e w1 ⟨rfl, ho1⟩
  obtain ⟨hb0, hb1⟩ := two_blks (c := c) (x := ⟨0, 0, 0, 0, 0, 0⟩) ho1
  obtain ⟨k0, k1, k2, k3, k4, k5⟩ := hb0.six
  obtain ⟨l0, l1, l2, l3, l4, l5⟩ := hb1.six
  have f := hb1.frozen
  have f' := hb0.frozen
  go_wp2_with fail
  (with_reducible refine (mask_is _ true H.out _).mono ?_); rintro e w2 ⟨rfl, rfl⟩
  go_wp2
  refine bodyPost_ret (v := .tuple #[Cp.zero.v, errV 5]) (by simp [results, Try.results36, go_sem, l0, l1, l2, l3, l4, l5, k0, k1, k2, k3, k4, k5, errV, Cp.zero]) rfl ⟨rfl, ?_⟩
  repeat (refine Only.setCell ?_ (.inr (by first | exact Nat.le_refl _ | exact Nat.le_succ _)) _)
  exact only_two (c := c) (x := ⟨0, 0, 0, 0, 0, 0⟩) ho1
set_option maxHeartbeats 1000000 in
theorem mint_state3 (m b : Int) (hs : someB c = true) (hm : maskB m = true) (h1 : 1 ≤ b) (h2 : b ≤ 65535) (hd : (c.kind != 3) = false) (hdb : (c.badge != 0) = true) : Calls Try.prog 36 #[c.v, .int .i64 m, .int .i64 b] w (DvPost w Cp.zero 10) := by
  have H := Lib.hid hm
  have H' := Lib.hid hs
  clear hm hs
  go_enter Try.func36, Try.ntmps36
  go_wp2_with fail
  (with_reducible refine (some_is _ true H'.out _).mono ?_); rintro e w1 ⟨rfl, ho1⟩
  obtain ⟨hb0, hb1⟩ := two_blks (c := c) (x := ⟨0, 0, 0, 0, 0, 0⟩) ho1
  obtain ⟨k0, k1, k2, k3, k4, k5⟩ := hb0.six
  obtain ⟨l0, l1, l2, l3, l4, l5⟩ := hb1.six
  have f := hb1.frozen
  have f' := hb0.frozen
  go_wp2_with fail
  (with_reducible refine (mask_is _ true H.out _).mono ?_); rintro e w2 ⟨rfl, rfl⟩
  go_wp2
  refine bodyPost_ret (v := .tuple #[Cp.zero.v, errV 10]) (by simp [results, Try.results36, go_sem, l0, l1, l2, l3, l4, l5, k0, k1, k2, k3, k4, k5, errV, Cp.zero]) rfl ⟨rfl, ?_⟩
  repeat (refine Only.setCell ?_ (.inr (by first | exact Nat.le_refl _ | exact Nat.le_succ _)) _)
  exact only_two (c := c) (x := ⟨0, 0, 0, 0, 0, 0⟩) ho1
set_option maxHeartbeats 1000000 in
theorem mint_state4 (m b : Int) (hs : someB c = true) (hm : maskB m = true) (h1 : 1 ≤ b) (h2 : b ≤ 65535) (hd : (c.kind != 3) = true) (hd4 : (c.kind != 4) = false) (hdb : (c.badge != 0) = true) : Calls Try.prog 36 #[c.v, .int .i64 m, .int .i64 b] w (DvPost w Cp.zero 10) := by
  have H := Lib.hid hm
  have H' := Lib.hid hs
  clear hm hs
  go_enter Try.func36, Try.ntmps36
  go_wp2_with fail
  (with_reducible refine (some_is _ true H'.out _).mono ?_); rintro e w1 ⟨rfl, ho1⟩
  obtain ⟨hb0, hb1⟩ := two_blks (c := c) (x := ⟨0, 0, 0, 0, 0, 0⟩) ho1
  obtain ⟨k0, k1, k2, k3, k4, k5⟩ := hb0.six
  obtain ⟨l0, l1, l2, l3, l4, l5⟩ := hb1.six
  have f := hb1.frozen
  have f' := hb0.frozen
  go_wp2_with fail
  (with_reducible refine (mask_is _ true H.out _).mono ?_); rintro e w2 ⟨rfl, rfl⟩
  go_wp2
  refine bodyPost_ret (v := .tuple #[Cp.zero.v, errV 10]) (by simp [results, Try.results36, go_sem, l0, l1, l2, l3, l4, l5, k0, k1, k2, k3, k4, k5, errV, Cp.zero]) rfl ⟨rfl, ?_⟩
  repeat (refine Only.setCell ?_ (.inr (by first | exact Nat.le_refl _ | exact Nat.le_succ _)) _)
  exact only_two (c := c) (x := ⟨0, 0, 0, 0, 0, 0⟩) ho1
set_option maxHeartbeats 1000000 in
theorem mint_yes3 (m b : Int) (x : Cp) (hs : someB c = true) (hm : maskB m = true) (h1 : 1 ≤ b) (h2 : b ≤ 65535) (hx : (Cp.mk c.kind c.rights c.obj b c.guard c.bits).derive m = (x, 0)) (hd : (c.kind != 3) = false) (hdb : (c.badge != 0) = false) : Calls Try.prog 36 #[c.v, .int .i64 m, .int .i64 b] w (DvPost w x 0) := by
  have H := Lib.hid hm
  have H' := Lib.hid hs
  have HX := Lib.hid hx
  clear hm hs hx
  go_enter Try.func36, Try.ntmps36
  go_wp2_with fail
  (with_reducible refine (some_is _ true H'.out _).mono ?_); rintro e w1 ⟨rfl, ho1⟩
  obtain ⟨hb0, hb1⟩ := two_blks (c := c) (x := ⟨0, 0, 0, 0, 0, 0⟩) ho1
  obtain ⟨k0, k1, k2, k3, k4, k5⟩ := hb0.six
  obtain ⟨l0, l1, l2, l3, l4, l5⟩ := hb1.six
  have f := hb1.frozen
  have f' := hb0.frozen
  go_wp2_with fail
  (with_reducible refine (mask_is _ true H.out _).mono ?_); rintro e w2 ⟨rfl, rfl⟩
  go_wp2_with fail
  (with_reducible refine (derive_is (c := ⟨_, _, _, _, _, _⟩) HX.out _).mono ?_); rintro e w3 ⟨rfl, ho3⟩
  have hA := only_two (c := c) (x := ⟨0, 0, 0, 0, 0, 0⟩) ho1
  have hlt := hb1.lt
  have hb3 := ho3.blk (hb1.far (p := ⟨w.heap.size, 3, none⟩) (by simp) _) (by simp)
  clear hb0 hb1 k0 k1 k2 k3 k4 k5 l0 l1 l2 l3 l4 l5 f f'
  obtain ⟨l0, l1, l2, l3, l4, l5⟩ := hb3.six
  have f := hb3.frozen
  go_wp2
  refine bodyPost_ret (v := .tuple #[x.v, errV 0]) (by simp [results, Try.results36, go_sem, l0, l1, l2, l3, l4, l5, errV, Cp.zero]) rfl ⟨rfl, ?_⟩
  repeat (refine Only.setCell ?_ (.inr (by first | exact Nat.le_refl _ | exact Nat.le_succ _)) _)
  exact (hA.setCell (.inr (Nat.le_refl _)) _).trans (ho3.more (by simp))
set_option maxHeartbeats 1000000 in
theorem mint_yes4 (m b : Int) (x : Cp) (hs : someB c = true) (hm : maskB m = true) (h1 : 1 ≤ b) (h2 : b ≤ 65535) (hx : (Cp.mk c.kind c.rights c.obj b c.guard c.bits).derive m = (x, 0)) (hd : (c.kind != 3) = true) (hd4 : (c.kind != 4) = false) (hdb : (c.badge != 0) = false) : Calls Try.prog 36 #[c.v, .int .i64 m, .int .i64 b] w (DvPost w x 0) := by
  have H := Lib.hid hm
  have H' := Lib.hid hs
  have HX := Lib.hid hx
  clear hm hs hx
  go_enter Try.func36, Try.ntmps36
  go_wp2_with fail
  (with_reducible refine (some_is _ true H'.out _).mono ?_); rintro e w1 ⟨rfl, ho1⟩
  obtain ⟨hb0, hb1⟩ := two_blks (c := c) (x := ⟨0, 0, 0, 0, 0, 0⟩) ho1
  obtain ⟨k0, k1, k2, k3, k4, k5⟩ := hb0.six
  obtain ⟨l0, l1, l2, l3, l4, l5⟩ := hb1.six
  have f := hb1.frozen
  have f' := hb0.frozen
  go_wp2_with fail
  (with_reducible refine (mask_is _ true H.out _).mono ?_); rintro e w2 ⟨rfl, rfl⟩
  go_wp2_with fail
  (with_reducible refine (derive_is (c := ⟨_, _, _, _, _, _⟩) HX.out _).mono ?_); rintro e w3 ⟨rfl, ho3⟩
  have hA := only_two (c := c) (x := ⟨0, 0, 0, 0, 0, 0⟩) ho1
  have hlt := hb1.lt
  have hb3 := ho3.blk (hb1.far (p := ⟨w.heap.size, 3, none⟩) (by simp) _) (by simp)
  clear hb0 hb1 k0 k1 k2 k3 k4 k5 l0 l1 l2 l3 l4 l5 f f'
  obtain ⟨l0, l1, l2, l3, l4, l5⟩ := hb3.six
  have f := hb3.frozen
  go_wp2
  refine bodyPost_ret (v := .tuple #[x.v, errV 0]) (by simp [results, Try.results36, go_sem, l0, l1, l2, l3, l4, l5, errV, Cp.zero]) rfl ⟨rfl, ?_⟩
  repeat (refine Only.setCell ?_ (.inr (by first | exact Nat.le_refl _ | exact Nat.le_succ _)) _)
  exact (hA.setCell (.inr (Nat.le_refl _)) _).trans (ho3.more (by simp))
theorem mint_any (m b : Int) : Calls Try.prog 36 #[c.v, .int .i64 m, .int .i64 b] w (DvPost w (c.mint m b).1 (c.mint m b).2) := by
  by_cases hs : someB c = true
  · by_cases hm : maskB m = true
    · have h1 := (someB_iff c).1 hs
      have h2 := (maskB_iff m).1 hm
      by_cases hb1 : 1 ≤ b
      · by_cases hb2 : b ≤ 65535
        · by_cases hk : c.kind = 3 ∨ c.kind = 4
          · by_cases hz : c.badge = 0
            · have hM : c.Mints m b ⟨c.kind, andR c.rights m, c.obj, b, c.guard, c.bits⟩ := ⟨h1.1, hk, hz, h2.1, h2.2, hb1, hb2, rfl⟩
              have hD : (Cp.mk c.kind c.rights c.obj b c.guard c.bits).Derives m ⟨c.kind, andR c.rights m, c.obj, b, c.guard, c.bits⟩ :=
                ⟨h1.1.with h1.2 h1.1.small.r0 h1.1.small.r1 (by unfold mayBadge; rw [if_pos hk]; omega), h1.2, by simp only; omega, h2.1, h2.2, rfl⟩
              rw [hM.is]
              by_cases h3 : c.kind = 3
              · exact mint_yes3 c w m b _ hs hm hb1 hb2 hD.is (by simp [h3]) (by simp [hz])
              · exact mint_yes4 c w m b _ hs hm hb1 hb2 hD.is (by simpa using h3) (by simp; omega) (by simp [hz])
            · have e : c.mint m b = (Cp.zero, 10) := by unfold Cp.mint; rw [if_neg (fun q => q ⟨h1.1, h1.2, h2.1, h2.2, hb1, hb2⟩), if_neg (fun q => q hk), if_pos hz]
              rw [e]
              by_cases h3 : c.kind = 3
              · exact mint_state3 c w m b hs hm hb1 hb2 (by simp [h3]) (by simpa using hz)
              · exact mint_state4 c w m b hs hm hb1 hb2 (by simpa using h3) (by simp; omega) (by simpa using hz)
          · have e : c.mint m b = (Cp.zero, 5) := by unfold Cp.mint; rw [if_neg (fun q => q ⟨h1.1, h1.2, h2.1, h2.2, hb1, hb2⟩), if_pos hk]
            rw [e]; exact mint_type c w m b hs hm hb1 hb2 (by simp; omega) (by simp; omega)
        · have e : c.mint m b = (Cp.zero, 1) := by unfold Cp.mint; rw [if_pos (fun q => hb2 q.2.2.2.2.2)]
          rw [e]; exact mint_high c w m b hs hm (by omega)
      · have e : c.mint m b = (Cp.zero, 1) := by unfold Cp.mint; rw [if_pos (fun q => hb1 q.2.2.2.2.1)]
        rw [e]; exact mint_low c w m b hs hm (by omega)
    · have e : c.mint m b = (Cp.zero, 1) := by unfold Cp.mint; rw [if_pos (fun q => hm ((maskB_iff m).2 ⟨q.2.2.1, q.2.2.2.1⟩))]
      rw [e]; exact mint_arg c w m b (.inr (by simpa using hm))
  · have e : c.mint m b = (Cp.zero, 1) := by unfold Cp.mint; rw [if_pos (fun q => hs ((someB_iff c).2 ⟨q.1, q.2.1⟩))]
    rw [e]; exact mint_arg c w m b (.inl (by simpa using hs))
theorem mint_is {c x : Cp} {m b n : Int} (h : c.mint m b = (x, n)) (w : World) : Calls Try.prog 36 #[c.v, .int .i64 m, .int .i64 b] w fun e w' => e = .returned (.tuple #[x.v, errV n]) ∧ Only [] w w' := by
  have q := mint_any c w m b
  rw [h] at q
  exact q
end
end Go.Proofs.Ytlhcigpllkigdaa
