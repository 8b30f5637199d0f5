/- The examples at the statements' head come out true (layer 3). -/
import Derived.Test.YtpbajcligjlehaaMint
import Derived.Test.YtpbajcligjlehaaCode
namespace Go.Proofs.Ytpbajcligjlehaa
open Go.RowKit
theorem has_is {c : Cp} {n : Int} {b : Bool} (h : hasB c.rights n = b) (w : World) : Calls Try.prog 14 #[c.v, .int .i64 n] w fun e w' => e = .returned (.bool b) ∧ Only [] w w' := h ▸ has_any c n w
theorem within_is {c d : Cp} {b : Bool} (h : withinB c d = b) (w : World) : Calls Try.prog 16 #[c.v, d.v] w fun e w' => e = .returned (.bool b) ∧ Only [] w w' := h ▸ within_any c w d
theorem derive_nil {c x : Cp} {m : Int} (h : c.derive m = (x, 0)) (w : World) : Calls Try.prog 6 #[c.v, .int .i64 m] w fun e w' => e = .returned (.tuple #[x.v, .nilIface]) ∧ Only [] w w' := derive_is h w
theorem derive_err {c x : Cp} {m n : Int} (h : c.derive m = (x, n)) (hn : n ≠ 0) (w : World) : Calls Try.prog 6 #[c.v, .int .i64 m] w fun e w' => e = .returned (.tuple #[x.v, .iface 38 (.int .i64 n)]) ∧ Only [] w w' := by
  have q := derive_is h w
  unfold errV at q
  rwa [if_neg hn] at q
theorem mint_nil {c x : Cp} {m b : Int} (h : c.mint m b = (x, 0)) (w : World) : Calls Try.prog 7 #[c.v, .int .i64 m, .int .i64 b] w fun e w' => e = .returned (.tuple #[x.v, .nilIface]) ∧ Only [] w w' := mint_is h w
theorem mint_err {c x : Cp} {m b n : Int} (h : c.mint m b = (x, n)) (hn : n ≠ 0) (w : World) : Calls Try.prog 7 #[c.v, .int .i64 m, .int .i64 b] w fun e w' => e = .returned (.tuple #[x.v, .iface 38 (.int .i64 n)]) ∧ Only [] w w' := by
  have q := mint_is h w
  unfold errV at q
  rwa [if_neg hn] at q
set_option maxHeartbeats 1000000 in
theorem up_any (w : World) : Calls Try.prog 5 #[] w fun e w' => e = .returned (.bool true) ∧ Only [] w w' := by
  have hq := fun (c a : Int) (W : World) => Lib.run_eql_iface_int (P := Try.prog) W (t := 26) (tx := 38) (k := .i64) c a Try.underlying26 (by kernel_rfl) Try.underlying38
  have e1 : Cp.derive ⟨3, 7, 1, 0, 0, 0⟩ 3 = (⟨3, 3, 1, 0, 0, 0⟩, 0) := Cp.Derives.is ⟨by decide, by decide, by decide, by decide, by decide, by rw [show andR 7 3 = 3 by decide +kernel]⟩
  have e2 : Cp.mint ⟨3, 7, 1, 0, 0, 0⟩ 3 0 = (⟨0, 0, 0, 0, 0, 0⟩, 1) := by unfold Cp.mint; rw [if_pos (fun q => absurd q.2.2.2.2.1 (by decide))]; rfl
  have e3 : hasB 7 6 = true := by decide +kernel
  have e4 : hasB 3 4 = false := by decide +kernel
  have e5 : withinB ⟨3, 3, 1, 0, 0, 0⟩ ⟨3, 7, 1, 0, 0, 0⟩ = true := by decide +kernel
  have e6 : withinB ⟨3, 7, 1, 0, 0, 0⟩ ⟨3, 3, 1, 0, 0, 0⟩ = false := by decide +kernel
  have E1 := Lib.hid e1
  have E2 := Lib.hid e2
  have E3 := Lib.hid e3
  have E4 := Lib.hid e4
  have E5 := Lib.hid e5
  have E6 := Lib.hid e6
  clear e1 e2 e3 e4 e5 e6
  go_enter Try.func5, Try.ntmps5
  go_wp2_with fail
  refine (derive_nil E1.out _).mono ?_; rintro e w1 ⟨rfl, ho1⟩
  have hb0 := ho1.blk (Blk.new w 23 #[.int .i64 3, .int .i64 7, .int .i64 1, .int .i64 0, .int .i64 0, .int .i64 0]) (by simp)
  have hlt0 := hb0.lt
  obtain ⟨k0, k1, k2, k3, k4, k5⟩ := hb0.cap
  go_wp2_with fail
  refine (mint_err E2.out (by decide) _).mono ?_; rintro e w2 ⟨rfl, ho2⟩
  have hb1 := ho2.blk (Blk.new w1 23 #[.int .i64 3, .int .i64 3, .int .i64 1, .int .i64 0, .int .i64 0, .int .i64 0]) (by simp)
  replace hb0 := ho2.blk (hb0.alloc _) (by simp)
  clear k0 k1 k2 k3 k4 k5 hlt0
  have hlt0 := hb0.lt
  have hlt1 := hb1.lt
  obtain ⟨k0, k1, k2, k3, k4, k5⟩ := hb0.cap
  obtain ⟨l0, l1, l2, l3, l4, l5⟩ := hb1.cap
  have hA := ((((Only.refl [] w).alloc (.cells #[.int .i64 3, .int .i64 7, .int .i64 1, .int .i64 0, .int .i64 0, .int .i64 0] 23)).trans ho1).alloc (.cells #[.int .i64 3, .int .i64 3, .int .i64 1, .int .i64 0, .int .i64 0, .int .i64 0] 23)).trans ho2
  go_wp2_with fail
  refine (has_is (c := ⟨3, 7, 1, 0, 0, 0⟩) E3.out _).mono ?_; rintro e w3 ⟨rfl, ho3⟩
  replace hb0 := ho3.blk (hb0.alloc _) (by simp)
  replace hb1 := ho3.blk (hb1.alloc _) (by simp)
  clear k0 k1 k2 k3 k4 k5 l0 l1 l2 l3 l4 l5 hlt0 hlt1
  obtain ⟨k0, k1, k2, k3, k4, k5⟩ := hb0.cap
  obtain ⟨l0, l1, l2, l3, l4, l5⟩ := hb1.cap
  go_wp2_with fail
  refine (has_is (c := ⟨3, 3, 1, 0, 0, 0⟩) E4.out _).mono ?_; rintro e w4 ⟨rfl, ho4⟩
  replace hb0 := ho4.blk hb0 (by simp)
  replace hb1 := ho4.blk hb1 (by simp)
  clear k0 k1 k2 k3 k4 k5 l0 l1 l2 l3 l4 l5
  obtain ⟨k0, k1, k2, k3, k4, k5⟩ := hb0.cap
  obtain ⟨l0, l1, l2, l3, l4, l5⟩ := hb1.cap
  go_wp2_with fail
  refine (within_is (c := ⟨3, 3, 1, 0, 0, 0⟩) (d := ⟨3, 7, 1, 0, 0, 0⟩) E5.out _).mono ?_; rintro e w5 ⟨rfl, ho5⟩
  replace hb0 := ho5.blk hb0 (by simp)
  replace hb1 := ho5.blk hb1 (by simp)
  clear k0 k1 k2 k3 k4 k5 l0 l1 l2 l3 l4 l5
  obtain ⟨k0, k1, k2, k3, k4, k5⟩ := hb0.cap
  obtain ⟨l0, l1, l2, l3, l4, l5⟩ := hb1.cap
  go_wp2_with fail
  refine (within_is (c := ⟨3, 7, 1, 0, 0, 0⟩) (d := ⟨3, 3, 1, 0, 0, 0⟩) E6.out _).mono ?_; rintro e w6 ⟨rfl, ho6⟩
  go_wp2_with fail
  go_ret
  exact ⟨rfl, (((hA.alloc _).trans ho3).trans ho4).trans (ho5.trans ho6)⟩
end Go.Proofs.Ytpbajcligjlehaa
