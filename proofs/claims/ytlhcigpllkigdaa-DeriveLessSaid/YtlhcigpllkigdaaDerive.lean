/- What Derive, Mint, Mutate of package rights answer (layer 3): for every capability and every number. -/
import Derived.Test.YtlhcigpllkigdaaJ6
namespace Go.Proofs.Ytlhcigpllkigdaa
open Go.RowKit
section
variable (c : Cp) (w : World)
def DvPost (w : World) (x : Cp) (n : Int) (e : Ending) (w' : World) : Prop := e = .returned (.tuple #[x.v, errV n]) ∧ Only [] w w'
theorem some_is (b : Bool) (h : someB c = b) (w : World) : Calls Try.prog 46 #[c.v] w fun e w' => e = .returned (.bool b) ∧ Only [] w w' :=
  h ▸ some_any c w
theorem mask_is (m : Int) (b : Bool) (h : maskB m = b) (w : World) : Calls Try.prog 47 #[.int .i64 m] w fun e w' => e = .returned (.bool b) ∧ w' = w :=
  h ▸ mask_any m w
theorem may_is (c : Cp) (b : Bool) (h : c.mayB = b) (w : World) : Calls Try.prog 34 #[c.v] w fun e w' => e = .returned (.bool b) ∧ Only [] w w' :=
  h ▸ may_any c w
/-- the two blocks of a function that takes a capability and tells one -/
theorem two_blks {c x : Cp} {w w1 : World} (ho1 : Only [] ((w.alloc (.cells c.arr 31)).alloc (.cells x.arr 31)) w1) : Blk w1 w.heap.size 31 c.arr ∧ Blk w1 (w.heap.size + 1) 31 x.arr := by
  have hb0 := ho1.blk ((Blk.new w 31 c.arr).alloc _) (by simp)
  have hb1 := ho1.blk (Blk.new (w.alloc (.cells c.arr 31)) 31 x.arr) (by simp)
  rw [show (w.alloc (.cells c.arr 31)).heap.size = w.heap.size + 1 by simp] at hb1
  exact ⟨hb0, hb1⟩
theorem only_two {c x : Cp} {w w1 : World} (ho1 : Only [] ((w.alloc (.cells c.arr 31)).alloc (.cells x.arr 31)) w1) : Only [] w w1 :=
  (((Only.refl [] w).alloc _).alloc _).trans ho1
set_option maxHeartbeats 1000000 in
theorem derive_arg (m : Int) (h : someB c = false ∨ maskB m = false) : Calls Try.prog 28 #[c.v, .int .i64 m] w (DvPost w Cp.zero 1) := by
  by_cases hs : someB c = true
  · have hm : maskB m = false := by rcases h with h | h; (rw [h] at hs; cases hs); exact h
    have H := Lib.hid hm
    have H' := Lib.hid hs
    clear hm hs h
    go_enter Try.func28, Try.ntmps28
    go_wp2_with fail
    (with_reducible refine (some_is _ true H'.out _).mono ?_); rintro e w1 ⟨rfl, ho1⟩
    obtain ⟨hb0, hb1⟩ := two_blks (c := c) (x := ⟨0, 0, 0, 0, 0, 0⟩) ho1
    obtain ⟨k0, k1, k2, k3, k4, k5⟩ := hb0.six
    obtain ⟨l0, l1, l2, l3, l4, l5⟩ := hb1.six
    have f := hb1.frozen
    have f' := hb0.frozen
    go_wp2_with fail
    (with_reducible refine (mask_is _ false H.out _).mono ?_); rintro e w2 ⟨rfl, rfl⟩
    go_wp2
    refine bodyPost_ret (v := .tuple #[Cp.zero.v, errV 1]) (by simp [results, Try.results28, go_sem, l0, l1, l2, l3, l4, l5, k0, k1, k2, k3, k4, k5, errV, Cp.zero]) rfl ⟨rfl, ?_⟩
    repeat (refine Only.setCell ?_ (.inr (by first | exact Nat.le_refl _ | exact Nat.le_succ _)) _)
    exact only_two (c := c) (x := ⟨0, 0, 0, 0, 0, 0⟩) ho1
  · have H' := Lib.hid (show someB c = false by simpa using hs)
    clear hs h
    go_enter Try.func28, Try.ntmps28
    go_wp2_with fail
    (with_reducible refine (some_is _ false H'.out _).mono ?_); rintro e w1 ⟨rfl, ho1⟩
    obtain ⟨hb0, hb1⟩ := two_blks (c := c) (x := ⟨0, 0, 0, 0, 0, 0⟩) ho1
    obtain ⟨k0, k1, k2, k3, k4, k5⟩ := hb0.six
    obtain ⟨l0, l1, l2, l3, l4, l5⟩ := hb1.six
    have f := hb1.frozen
    have f' := hb0.frozen
    go_wp2
    refine bodyPost_ret (v := .tuple #[Cp.zero.v, errV 1]) (by simp [results, Try.results28, go_sem, l0, l1, l2, l3, l4, l5, k0, k1, k2, k3, k4, k5, errV, Cp.zero]) rfl ⟨rfl, ?_⟩
    repeat (refine Only.setCell ?_ (.inr (by first | exact Nat.le_refl _ | exact Nat.le_succ _)) _)
    exact only_two (c := c) (x := ⟨0, 0, 0, 0, 0, 0⟩) ho1
set_option maxHeartbeats 1000000 in
theorem derive_mem (m : Int) (hs : someB c = true) (hm : maskB m = true) (hd : (c.kind == 1) = true) : Calls Try.prog 28 #[c.v, .int .i64 m] w (DvPost w Cp.zero 5) := by
  have H := Lib.hid hm
  have H' := Lib.hid hs
  clear hm hs
  go_enter Try.func28, Try.ntmps28
  go_wp2_with fail
  (with_reducible refine (some_is _ true H'.out _).mono ?_); rintro e w1 ⟨rfl, ho1⟩
  obtain ⟨hb0, hb1⟩ := two_blks (c := c) (x := ⟨0, 0, 0, 0, 0, 0⟩) ho1
  obtain ⟨k0, k1, k2, k3, k4, k5⟩ := hb0.six
  obtain ⟨l0, l1, l2, l3, l4, l5⟩ := hb1.six
  have f := hb1.frozen
  have f' := hb0.frozen
  go_wp2_with fail
  (with_reducible refine (mask_is _ true H.out _).mono ?_); rintro e w2 ⟨rfl, rfl⟩
  go_wp2
  refine bodyPost_ret (v := .tuple #[Cp.zero.v, errV 5]) (by simp [results, Try.results28, go_sem, l0, l1, l2, l3, l4, l5, k0, k1, k2, k3, k4, k5, errV, Cp.zero]) rfl ⟨rfl, ?_⟩
  repeat (refine Only.setCell ?_ (.inr (by first | exact Nat.le_refl _ | exact Nat.le_succ _)) _)
  exact only_two (c := c) (x := ⟨0, 0, 0, 0, 0, 0⟩) ho1
set_option maxHeartbeats 1000000 in
theorem derive_yes (m : Int) (hs : someB c = true) (hm : maskB m = true) (hd : (c.kind == 1) = false) : Calls Try.prog 28 #[c.v, .int .i64 m] w (DvPost w ⟨c.kind, andR c.rights m, c.obj, c.badge, c.guard, c.bits⟩ 0) := by
  have H := Lib.hid hm
  have H' := Lib.hid hs
  clear hm hs
  go_enter Try.func28, Try.ntmps28
  go_wp2_with fail
  (with_reducible refine (some_is _ true H'.out _).mono ?_); rintro e w1 ⟨rfl, ho1⟩
  obtain ⟨hb0, hb1⟩ := two_blks (c := c) (x := ⟨0, 0, 0, 0, 0, 0⟩) ho1
  obtain ⟨k0, k1, k2, k3, k4, k5⟩ := hb0.six
  obtain ⟨l0, l1, l2, l3, l4, l5⟩ := hb1.six
  have f := hb1.frozen
  have f' := hb0.frozen
  go_wp2_with fail
  (with_reducible refine (mask_is _ true H.out _).mono ?_); rintro e w2 ⟨rfl, rfl⟩
  go_wp2
  refine bodyPost_ret (v := .tuple #[(Cp.mk c.kind (andR c.rights m) c.obj c.badge c.guard c.bits).v, errV 0]) (by simp [results, Try.results28, go_sem, l0, l1, l2, l3, l4, l5, k0, k1, k2, k3, k4, k5, errV, Cp.zero, andR]) rfl ⟨rfl, ?_⟩
  repeat (refine Only.setCell ?_ (.inr (by first | exact Nat.le_refl _ | exact Nat.le_succ _)) _)
  exact only_two (c := c) (x := ⟨0, 0, 0, 0, 0, 0⟩) ho1
theorem derive_any (m : Int) : Calls Try.prog 28 #[c.v, .int .i64 m] w (DvPost w (c.derive m).1 (c.derive m).2) := by
  by_cases hs : someB c = true
  · by_cases hm : maskB m = true
    · have h1 := (someB_iff c).1 hs
      have h2 := (maskB_iff m).1 hm
      by_cases hk : c.kind = 1
      · have e : c.derive m = (Cp.zero, 5) := by unfold Cp.derive; rw [if_neg (fun q => q ⟨h1.1, h1.2, h2⟩), if_pos hk]
        rw [e]; exact derive_mem c w m hs hm (by simp [hk])
      · have e : c.derive m = (⟨c.kind, andR c.rights m, c.obj, c.badge, c.guard, c.bits⟩, 0) := by unfold Cp.derive; rw [if_neg (fun q => q ⟨h1.1, h1.2, h2⟩), if_neg hk]
        rw [e]; exact derive_yes c w m hs hm (by simpa using hk)
    · have e : c.derive m = (Cp.zero, 1) := by unfold Cp.derive; rw [if_pos (fun q => hm ((maskB_iff m).2 q.2.2))]
      rw [e]; exact derive_arg c w m (.inr (by simpa using hm))
  · have e : c.derive m = (Cp.zero, 1) := by unfold Cp.derive; rw [if_pos (fun q => hs ((someB_iff c).2 ⟨q.1, q.2.1⟩))]
    rw [e]; exact derive_arg c w m (.inl (by simpa using hs))
theorem derive_is {c x : Cp} {m n : Int} (h : c.derive m = (x, n)) (w : World) : Calls Try.prog 28 #[c.v, .int .i64 m] w fun e w' => e = .returned (.tuple #[x.v, errV n]) ∧ Only [] w w' := by
  have q := derive_any c w m
  rw [h] at q
  exact q
end
end Go.Proofs.Ytlhcigpllkigdaa
