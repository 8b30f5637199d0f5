/- What Mutate of package rights answers (layer 3): for every capability and every number. -/
import Derived.Test.YtlhcigpllkigdaaDerive
namespace Go.Proofs.Ytlhcigpllkigdaa
open Go.RowKit
section
variable (c : Cp) (w : World)
set_option maxHeartbeats 1000000 in
theorem mutate_arg (g n : Int) (hs : someB c = false) : Calls Try.prog 40 #[c.v, .int .i64 g, .int .i64 n] w (DvPost w Cp.zero 1) := by
  have H' := Lib.hid hs
  clear hs
  go_enter Try.func40, Try.ntmps40
  go_wp2_with fail
  (with_reducible refine (some_is _ false H'.out _).mono ?_); rintro e w1 ⟨rfl, ho1⟩
  obtain ⟨hb0, hb1⟩ := two_blks (c := c) (x := ⟨0, 0, 0, 0, 0, 0⟩) ho1
  obtain ⟨k0, k1, k2, k3, k4, k5⟩ := hb0.six
  obtain ⟨l0, l1, l2, l3, l4, l5⟩ := hb1.six
  have f := hb1.frozen
  have f' := hb0.frozen
  go_wp2
  refine bodyPost_ret (v := .tuple #[Cp.zero.v, errV 1]) (by simp [results, Try.results40, go_sem, l0, l1, l2, l3, l4, l5, k0, k1, k2, k3, k4, k5, errV, Cp.zero]) rfl ⟨rfl, ?_⟩
  repeat (refine Only.setCell ?_ (.inr (by first | exact Nat.le_refl _ | exact Nat.le_succ _)) _)
  exact only_two (c := c) (x := ⟨0, 0, 0, 0, 0, 0⟩) ho1
set_option maxHeartbeats 1000000 in
theorem mutate_type (g n : Int) (hs : someB c = true) (hd : (c.kind != 2) = true) : Calls Try.prog 40 #[c.v, .int .i64 g, .int .i64 n] w (DvPost w Cp.zero 5) := by
  have H' := Lib.hid hs
  clear hs
  go_enter Try.func40, Try.ntmps40
  go_wp2_with fail
  (with_reducible refine (some_is _ true H'.out _).mono ?_); rintro e w1 ⟨rfl, ho1⟩
  obtain ⟨hb0, hb1⟩ := two_blks (c := c) (x := ⟨0, 0, 0, 0, 0, 0⟩) ho1
  obtain ⟨k0, k1, k2, k3, k4, k5⟩ := hb0.six
  obtain ⟨l0, l1, l2, l3, l4, l5⟩ := hb1.six
  have f := hb1.frozen
  have f' := hb0.frozen
  go_wp2
  refine bodyPost_ret (v := .tuple #[Cp.zero.v, errV 5]) (by simp [results, Try.results40, go_sem, l0, l1, l2, l3, l4, l5, k0, k1, k2, k3, k4, k5, errV, Cp.zero]) rfl ⟨rfl, ?_⟩
  repeat (refine Only.setCell ?_ (.inr (by first | exact Nat.le_refl _ | exact Nat.le_succ _)) _)
  exact only_two (c := c) (x := ⟨0, 0, 0, 0, 0, 0⟩) ho1
set_option maxHeartbeats 1000000 in
theorem mutate_not (g n : Int) (hs : someB c = true) (hd : (c.kind != 2) = false) (hm : (Cp.mk c.kind c.rights c.obj c.badge g n).mayB = false) : Calls Try.prog 40 #[c.v, .int .i64 g, .int .i64 n] w (DvPost w Cp.zero 1) := by
  have H' := Lib.hid hs
  have H := Lib.hid hm
  clear hs hm
  go_enter Try.func40, Try.ntmps40
  go_wp2_with fail
  (with_reducible refine (some_is _ true H'.out _).mono ?_); rintro e w1 ⟨rfl, ho1⟩
  obtain ⟨hb0, hb1⟩ := two_blks (c := c) (x := ⟨0, 0, 0, 0, 0, 0⟩) ho1
  obtain ⟨k0, k1, k2, k3, k4, k5⟩ := hb0.six
  obtain ⟨l0, l1, l2, l3, l4, l5⟩ := hb1.six
  have f := hb1.frozen
  have f' := hb0.frozen
  go_wp2_with fail
  (with_reducible refine (may_is ⟨_, _, _, _, _, _⟩ false H.out _).mono ?_); rintro e w3 ⟨rfl, ho3⟩
  have hA := only_two (c := c) (x := ⟨0, 0, 0, 0, 0, 0⟩) ho1
  have hlt := hb1.lt
  have hb3 := ho3.blk ((hb1.far (p := ⟨w.heap.size, 4, none⟩) (by simp) _).far (p := ⟨w.heap.size, 5, none⟩) (by simp) _) (by simp)
  have hb4 := ho3.blk ((hb0.set_ 4 _).set_ 5 _) (by simp)
  clear hb0 hb1 k0 k1 k2 k3 k4 k5 l0 l1 l2 l3 l4 l5 f f'
  obtain ⟨l0, l1, l2, l3, l4, l5⟩ := hb3.six
  obtain ⟨k0, k1, k2, k3, k4, k5⟩ := Blk.six (c := ⟨c.kind, c.rights, c.obj, c.badge, g, n⟩) hb4
  have f := hb3.frozen
  go_wp2
  refine bodyPost_ret (v := .tuple #[Cp.zero.v, errV 1]) (by simp [results, Try.results40, go_sem, l0, l1, l2, l3, l4, l5, k0, k1, k2, k3, k4, k5, errV, Cp.zero]) rfl ⟨rfl, ?_⟩
  repeat (refine Only.setCell ?_ (.inr (by first | exact Nat.le_refl _ | exact Nat.le_succ _)) _)
  exact ((hA.setCell (.inr (Nat.le_refl _)) _).setCell (.inr (Nat.le_refl _)) _).trans (ho3.more (by simp))
set_option maxHeartbeats 1000000 in
theorem mutate_yes (g n : Int) (hs : someB c = true) (hd : (c.kind != 2) = false) (hm : (Cp.mk c.kind c.rights c.obj c.badge g n).mayB = true) : Calls Try.prog 40 #[c.v, .int .i64 g, .int .i64 n] w (DvPost w ⟨c.kind, c.rights, c.obj, c.badge, g, n⟩ 0) := by
  have H' := Lib.hid hs
  have H := Lib.hid hm
  clear hs hm
  go_enter Try.func40, Try.ntmps40
  go_wp2_with fail
  (with_reducible refine (some_is _ true H'.out _).mono ?_); rintro e w1 ⟨rfl, ho1⟩
  obtain ⟨hb0, hb1⟩ := two_blks (c := c) (x := ⟨0, 0, 0, 0, 0, 0⟩) ho1
  obtain ⟨k0, k1, k2, k3, k4, k5⟩ := hb0.six
  obtain ⟨l0, l1, l2, l3, l4, l5⟩ := hb1.six
  have f := hb1.frozen
  have f' := hb0.frozen
  go_wp2_with fail
  (with_reducible refine (may_is ⟨_, _, _, _, _, _⟩ true H.out _).mono ?_); rintro e w3 ⟨rfl, ho3⟩
  have hA := only_two (c := c) (x := ⟨0, 0, 0, 0, 0, 0⟩) ho1
  have hlt := hb1.lt
  have hb3 := ho3.blk ((hb1.far (p := ⟨w.heap.size, 4, none⟩) (by simp) _).far (p := ⟨w.heap.size, 5, none⟩) (by simp) _) (by simp)
  have hb4 := ho3.blk ((hb0.set_ 4 _).set_ 5 _) (by simp)
  clear hb0 hb1 k0 k1 k2 k3 k4 k5 l0 l1 l2 l3 l4 l5 f f'
  obtain ⟨l0, l1, l2, l3, l4, l5⟩ := hb3.six
  obtain ⟨k0, k1, k2, k3, k4, k5⟩ := Blk.six (c := ⟨c.kind, c.rights, c.obj, c.badge, g, n⟩) hb4
  have f := hb3.frozen
  go_wp2
  refine bodyPost_ret (v := .tuple #[(Cp.mk c.kind c.rights c.obj c.badge g n).v, errV 0]) (by simp [results, Try.results40, go_sem, l0, l1, l2, l3, l4, l5, k0, k1, k2, k3, k4, k5, errV, Cp.zero]) rfl ⟨rfl, ?_⟩
  repeat (refine Only.setCell ?_ (.inr (by first | exact Nat.le_refl _ | exact Nat.le_succ _)) _)
  exact ((hA.setCell (.inr (Nat.le_refl _)) _).setCell (.inr (Nat.le_refl _)) _).trans (ho3.more (by simp))
theorem mutate_any (g n : Int) : Calls Try.prog 40 #[c.v, .int .i64 g, .int .i64 n] w (DvPost w (c.mutate g n).1 (c.mutate g n).2) := by
  by_cases hs : someB c = true
  · have h1 := (someB_iff c).1 hs
    by_cases hk : c.kind = 2
    · have hd : (c.kind != 2) = false := by simp [hk]
      by_cases hm : (Cp.mk c.kind c.rights c.obj c.badge g n).may
      · have e : c.mutate g n = (⟨c.kind, c.rights, c.obj, c.badge, g, n⟩, 0) := by unfold Cp.mutate; rw [if_neg (fun q => q h1), if_neg (fun q => q hk), if_neg (fun q => q hm)]
        rw [e]; exact mutate_yes c w g n hs hd (decide_eq_true hm)
      · have e : c.mutate g n = (Cp.zero, 1) := by unfold Cp.mutate; rw [if_neg (fun q => q h1), if_neg (fun q => q hk), if_pos hm]
        rw [e]; exact mutate_not c w g n hs hd (decide_eq_false hm)
    · have e : c.mutate g n = (Cp.zero, 5) := by unfold Cp.mutate; rw [if_neg (fun q => q h1), if_pos hk]
      rw [e]; exact mutate_type c w g n hs (by simpa using hk)
  · have e : c.mutate g n = (Cp.zero, 1) := by unfold Cp.mutate; rw [if_pos (fun q => hs ((someB_iff c).2 q))]
    rw [e]; exact mutate_arg c w g n (by simpa using hs)
theorem mutate_is {c x : Cp} {g b n : Int} (h : c.mutate g b = (x, n)) (w : World) : Calls Try.prog 40 #[c.v, .int .i64 g, .int .i64 b] w fun e w' => e = .returned (.tuple #[x.v, errV n]) ∧ Only [] w w' := by
  have q := mutate_any c w g b
  rw [h] at q
  exact q
end
end Go.Proofs.Ytlhcigpllkigdaa
