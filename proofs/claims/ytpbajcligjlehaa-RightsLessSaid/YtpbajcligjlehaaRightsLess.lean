/- RightsLess' walk: for every capability and all numbers. -/
import Derived.Test.YtpbajcligjlehaaRightsUp
import Derived.Test.YtpbajcligjlehaaRefDerive
import Derived.Test.YtpbajcligjlehaaCaps
import Derived.Lib.IfaceNeq
namespace Go.Proofs.Ytpbajcligjlehaa
open Go.RowKit
section
variable (c : Cp) (mask other badge : Int) (w : World)
set_option maxRecDepth 100000 in
set_option maxHeartbeats 8000000 in
theorem less_any : Calls Try.prog 4 #[c.v, .int .i64 mask, .int .i64 other, .int .i64 badge] w fun e w' => e = .returned (.bool true) ∧ Only [] w w' := by
  have hq := fun (c a : Int) (W : World) => Lib.run_eql_iface_int (P := Try.prog) W (t := 26) (tx := 38) (k := .i64) c a Try.underlying26 (by kernel_rfl) Try.underlying38
  have hbc := Blk.new w 23 c.arr
  have hA := (Only.refl [] w).alloc (.cells c.arr 23)
  go_enter Try.func4, Try.ntmps4
  go_wp2_with fail
  (with_reducible refine (up_any _).mono ?_); rintro e w1 ⟨rfl, ho⟩
  replace hbc := ho.blk hbc (by simp)
  replace hA := hA.trans ho
  clear ho
  by_cases h1 : (c.derive mask).2 = 0
  · have X := Lib.hid (Cp.derive_ok h1)
    obtain ⟨x, D⟩ : ∃ x, Hid (c.Derives mask x) := ⟨_, X⟩
    have E1 := Lib.hid D.out.is
    have E2 := Lib.hid (show x.mayB = true from decide_eq_true D.out.mayX)
    have E3 := Lib.hid D.out.within.1
    have E4 := Lib.hid D.out.within.2
    clear h1 X
    have hltc := hbc.lt
    obtain ⟨c0, c1, c2, c3, c4, c5⟩ := hbc.six
    go_wp2_with fail
    (with_reducible refine (derive_nil E1.out _).mono ?_); rintro e w2 ⟨rfl, ho⟩
    clear hltc c0 c1 c2 c3 c4 c5
    replace hbc := ho.blk hbc (by simp)
    replace hA := hA.trans ho
    clear ho
    have hbx := Blk.new w2 23 x.arr
    replace hbc := hbc.alloc (.cells x.arr 23)
    replace hA := hA.alloc (.cells x.arr 23)
    go_wp2_with fail
    (with_reducible refine (refMay_is x true E2.out _).mono ?_); rintro e w3 ⟨rfl, ho⟩
    replace hbc := ho.blk hbc (by simp)
    replace hbx := ho.blk hbx (by simp)
    replace hA := hA.trans ho
    clear ho
    have hltc := hbc.lt
    obtain ⟨c0, c1, c2, c3, c4, c5⟩ := hbc.six
    have hltx := hbx.lt
    obtain ⟨x0, x1, x2, x3, x4, x5⟩ := hbx.six
    go_wp2_with fail
    (with_reducible refine (within_is (c := x) (d := c) E3.out _).mono ?_); rintro e w4 ⟨rfl, ho⟩
    clear hltc c0 c1 c2 c3 c4 c5
    clear hltx x0 x1 x2 x3 x4 x5
    replace hbc := ho.blk hbc (by simp)
    replace hbx := ho.blk hbx (by simp)
    replace hA := hA.trans ho
    clear ho
    have hltx := hbx.lt
    obtain ⟨x0, x1, x2, x3, x4, x5⟩ := hbx.six
    go_wp2_with fail
    (with_reducible refine (within_is (c := x) (d := x) E4.out _).mono ?_); rintro e w5 ⟨rfl, ho⟩
    clear hltx x0 x1 x2 x3 x4 x5
    replace hbc := ho.blk hbc (by simp)
    replace hbx := ho.blk hbx (by simp)
    replace hA := hA.trans ho
    clear ho
    by_cases h2 : (x.derive other).2 = 0
    · have h3 : (c.derive other).2 = 0 := by rw [← D.out.again]; exact h2
      have Y := Lib.hid (Cp.derive_ok h2)
      have Z := Lib.hid (Cp.derive_ok h3)
      obtain ⟨y, DY⟩ : ∃ y, Hid (x.Derives other y) := ⟨_, Y⟩
      obtain ⟨z, DZ⟩ : ∃ z, Hid (c.Derives other z) := ⟨_, Z⟩
      have E5 := Lib.hid DY.out.is
      have E6 := Lib.hid DZ.out.is
      have E7 := Lib.hid (D.out.both DY.out DZ.out).is
      clear h2 h3 Y Z DY DZ
      have hltx := hbx.lt
      obtain ⟨x0, x1, x2, x3, x4, x5⟩ := hbx.six
      go_wp2_with fail
      (with_reducible refine (derive_nil E5.out _).mono ?_); rintro e w6 ⟨rfl, ho⟩
      clear hltx x0 x1 x2 x3 x4 x5
      replace hbc := ho.blk hbc (by simp)
      replace hA := hA.trans ho
      clear ho
      clear hbx
      have hltc := hbc.lt
      obtain ⟨c0, c1, c2, c3, c4, c5⟩ := hbc.six
      go_wp2_with fail
      (with_reducible refine (derive_nil E6.out _).mono ?_); rintro e w7 ⟨rfl, ho⟩
      clear hltc c0 c1 c2 c3 c4 c5
      have hby := ho.blk (Blk.new w6 23 y.arr) (by simp)
      replace hbc := ho.blk (hbc.alloc _) (by simp)
      replace hA := (hA.alloc _).trans ho
      clear ho
      have hlty := hby.lt
      obtain ⟨y0, y1, y2, y3, y4, y5⟩ := hby.six
      go_wp2_with fail
      go_quiet (fail)
      go_wp2_with fail
      (with_reducible refine (derive_nil E7.out _).mono ?_); rintro e w8 ⟨rfl, ho⟩
      clear hlty y0 y1 y2 y3 y4 y5
      replace hbc := ho.blk ((hbc.alloc _).drewN _) (by simp)
      replace hby := ho.blk ((hby.alloc _).drewN _) (by simp)
      replace hA := ((hA.alloc _).drewN _).trans ho
      clear ho
      have hlty := hby.lt
      obtain ⟨y0, y1, y2, y3, y4, y5⟩ := hby.six
      have hltc := hbc.lt
      obtain ⟨c0, c1, c2, c3, c4, c5⟩ := hbc.six
      go_wp2_with fail
      clear hlty y0 y1 y2 y3 y4 y5
      clear hltc c0 c1 c2 c3 c4 c5
      by_cases hm : (c.mint mask badge).2 = 0
      · have M := Lib.hid (Cp.mint_ok hm)
        obtain ⟨m, M'⟩ : ∃ m, Hid (c.Mints mask badge m) := ⟨_, M⟩
        have E1 := Lib.hid M'.out.is
        have E2 := Lib.hid M'.out.twice
        have E3 := Lib.hid (show m.mayB = true from decide_eq_true M'.out.mayX)
        have E4 := Lib.hid M'.out.within
        have E5 := Lib.hid (show m.badge = badge by have q := M'.out.eq; rw [q])
        clear hm M M'
        have hltc := hbc.lt
        obtain ⟨c0, c1, c2, c3, c4, c5⟩ := hbc.six
        go_wp2_with fail
        (with_reducible refine (mint_nil E1.out _).mono ?_); rintro e w9 ⟨rfl, ho⟩
        clear hltc c0 c1 c2 c3 c4 c5
        replace hbc := ho.blk (hbc.alloc _) (by simp)
        replace hA := (hA.alloc _).trans ho
        clear ho
        have hbm := Blk.new w9 23 m.arr
        replace hbc := hbc.alloc (.cells m.arr 23)
        replace hA := hA.alloc (.cells m.arr 23)
        go_wp2_with fail
        (with_reducible refine (refMay_is m true E3.out _).mono ?_); rintro e w10 ⟨rfl, ho⟩
        replace hbc := ho.blk hbc (by simp)
        replace hbm := ho.blk hbm (by simp)
        replace hA := hA.trans ho
        clear ho
        have hltm := hbm.lt
        obtain ⟨m0, m1, m2, m3, m4, m5⟩ := hbm.six
        go_wp2_with fail
        (with_reducible refine (mint_err E2.out (by decide) _).mono ?_); rintro e w11 ⟨rfl, ho⟩
        clear hltm m0 m1 m2 m3 m4 m5
        replace hbc := ho.blk hbc (by simp)
        replace hbm := ho.blk hbm (by simp)
        replace hA := hA.trans ho
        clear ho
        have hj := (Only.refl [] w11).alloc (.cells Cp.zero.arr 23)
        have hltc := hbc.lt
        obtain ⟨c0, c1, c2, c3, c4, c5⟩ := hbc.six
        have hltm := hbm.lt
        obtain ⟨m0, m1, m2, m3, m4, m5⟩ := hbm.six
        go_wp2_with fail
        (with_reducible refine (within_is (c := m) (d := c) E4.out _).mono ?_); rintro e w12 ⟨rfl, ho⟩
        clear hltc c0 c1 c2 c3 c4 c5
        clear hltm m0 m1 m2 m3 m4 m5
        replace hbc := ho.blk (hbc.alloc _) (by simp)
        replace hbm := ho.blk (hbm.alloc _) (by simp)
        replace hA := (hA.alloc _).trans ho
        clear ho
        have hdb : (m.badge == badge) = true := by rw [E5.out]; exact beq_self_eq_true _
        clear hj
        have hltm := hbm.lt
        obtain ⟨m0, m1, m2, m3, m4, m5⟩ := hbm.six
        go_wp2
        go_ret
        exact ⟨rfl, hA⟩
      · obtain ⟨m, n9, E9⟩ : ∃ m n, Hid (c.mint mask badge = (m, n)) := ⟨_, _, Lib.hid rfl⟩
        have hn := Lib.hid (show n9 ≠ 0 by rw [E9.out] at hm; exact hm)
        clear hm
        have hltc := hbc.lt
        obtain ⟨c0, c1, c2, c3, c4, c5⟩ := hbc.six
        go_wp2_with fail
        (with_reducible refine (mint_err E9.out hn.out _).mono ?_); rintro e w9 ⟨rfl, ho⟩
        clear hltc c0 c1 c2 c3 c4 c5
        replace hbc := ho.blk (hbc.alloc _) (by simp)
        replace hA := (hA.alloc _).trans ho
        clear ho
        go_wp2
        go_ret
        exact ⟨rfl, hA.alloc _⟩
    · have h3 : (c.derive other).2 ≠ 0 := by rw [← D.out.again]; exact h2
      obtain ⟨y, n2, E5⟩ : ∃ m n, Hid (x.derive other = (m, n)) := ⟨_, _, Lib.hid rfl⟩
      obtain ⟨z, n3, E6⟩ : ∃ m n, Hid (c.derive other = (m, n)) := ⟨_, _, Lib.hid rfl⟩
      have hn2 := Lib.hid (show n2 ≠ 0 by rw [E5.out] at h2; exact h2)
      have hn3 := Lib.hid (show n3 ≠ 0 by rw [E6.out] at h3; exact h3)
      clear h2 h3
      have hltx := hbx.lt
      obtain ⟨x0, x1, x2, x3, x4, x5⟩ := hbx.six
      go_wp2_with fail
      (with_reducible refine (derive_err E5.out hn2.out _).mono ?_); rintro e w6 ⟨rfl, ho⟩
      clear hltx x0 x1 x2 x3 x4 x5
      replace hbc := ho.blk hbc (by simp)
      replace hA := hA.trans ho
      clear ho
      clear hbx
      have hltc := hbc.lt
      obtain ⟨c0, c1, c2, c3, c4, c5⟩ := hbc.six
      go_wp2_with fail
      (with_reducible refine (derive_err E6.out hn3.out _).mono ?_); rintro e w7 ⟨rfl, ho⟩
      clear hltc c0 c1 c2 c3 c4 c5
      replace hbc := ho.blk (hbc.alloc _) (by simp)
      replace hA := (hA.alloc _).trans ho
      clear ho
      go_wp2_with fail
      go_quiet (fail)
      by_cases hm : (c.mint mask badge).2 = 0
      · have M := Lib.hid (Cp.mint_ok hm)
        obtain ⟨m, M'⟩ : ∃ m, Hid (c.Mints mask badge m) := ⟨_, M⟩
        have E1 := Lib.hid M'.out.is
        have E2 := Lib.hid M'.out.twice
        have E3 := Lib.hid (show m.mayB = true from decide_eq_true M'.out.mayX)
        have E4 := Lib.hid M'.out.within
        have E5 := Lib.hid (show m.badge = badge by have q := M'.out.eq; rw [q])
        clear hm M M'
        have hltc := hbc.lt
        obtain ⟨c0, c1, c2, c3, c4, c5⟩ := hbc.six
        go_wp2_with fail
        (with_reducible refine (mint_nil E1.out _).mono ?_); rintro e w8 ⟨rfl, ho⟩
        clear hltc c0 c1 c2 c3 c4 c5
        replace hbc := ho.blk ((hbc.alloc _).drewN _) (by simp)
        replace hA := ((hA.alloc _).drewN _).trans ho
        clear ho
        have hbm := Blk.new w8 23 m.arr
        replace hbc := hbc.alloc (.cells m.arr 23)
        replace hA := hA.alloc (.cells m.arr 23)
        go_wp2_with fail
        (with_reducible refine (refMay_is m true E3.out _).mono ?_); rintro e w9 ⟨rfl, ho⟩
        replace hbc := ho.blk hbc (by simp)
        replace hbm := ho.blk hbm (by simp)
        replace hA := hA.trans ho
        clear ho
        have hltm := hbm.lt
        obtain ⟨m0, m1, m2, m3, m4, m5⟩ := hbm.six
        go_wp2_with fail
        (with_reducible refine (mint_err E2.out (by decide) _).mono ?_); rintro e w10 ⟨rfl, ho⟩
        clear hltm m0 m1 m2 m3 m4 m5
        replace hbc := ho.blk hbc (by simp)
        replace hbm := ho.blk hbm (by simp)
        replace hA := hA.trans ho
        clear ho
        have hj := (Only.refl [] w10).alloc (.cells Cp.zero.arr 23)
        have hltc := hbc.lt
        obtain ⟨c0, c1, c2, c3, c4, c5⟩ := hbc.six
        have hltm := hbm.lt
        obtain ⟨m0, m1, m2, m3, m4, m5⟩ := hbm.six
        go_wp2_with fail
        (with_reducible refine (within_is (c := m) (d := c) E4.out _).mono ?_); rintro e w11 ⟨rfl, ho⟩
        clear hltc c0 c1 c2 c3 c4 c5
        clear hltm m0 m1 m2 m3 m4 m5
        replace hbc := ho.blk (hbc.alloc _) (by simp)
        replace hbm := ho.blk (hbm.alloc _) (by simp)
        replace hA := (hA.alloc _).trans ho
        clear ho
        have hdb : (m.badge == badge) = true := by rw [E5.out]; exact beq_self_eq_true _
        clear hj
        have hltm := hbm.lt
        obtain ⟨m0, m1, m2, m3, m4, m5⟩ := hbm.six
        go_wp2
        go_ret
        exact ⟨rfl, hA⟩
      · obtain ⟨m, n9, E9⟩ : ∃ m n, Hid (c.mint mask badge = (m, n)) := ⟨_, _, Lib.hid rfl⟩
        have hn := Lib.hid (show n9 ≠ 0 by rw [E9.out] at hm; exact hm)
        clear hm
        have hltc := hbc.lt
        obtain ⟨c0, c1, c2, c3, c4, c5⟩ := hbc.six
        go_wp2_with fail
        (with_reducible refine (mint_err E9.out hn.out _).mono ?_); rintro e w8 ⟨rfl, ho⟩
        clear hltc c0 c1 c2 c3 c4 c5
        replace hbc := ho.blk ((hbc.alloc _).drewN _) (by simp)
        replace hA := ((hA.alloc _).drewN _).trans ho
        clear ho
        go_wp2
        go_ret
        exact ⟨rfl, hA.alloc _⟩
  · obtain ⟨x, n1, E1⟩ : ∃ m n, Hid (c.derive mask = (m, n)) := ⟨_, _, Lib.hid rfl⟩
    have hn1 := Lib.hid (show n1 ≠ 0 by rw [E1.out] at h1; exact h1)
    clear h1
    have hltc := hbc.lt
    obtain ⟨c0, c1, c2, c3, c4, c5⟩ := hbc.six
    go_wp2_with fail
    (with_reducible refine (derive_err E1.out hn1.out _).mono ?_); rintro e w2 ⟨rfl, ho⟩
    clear hltc c0 c1 c2 c3 c4 c5
    replace hbc := ho.blk hbc (by simp)
    replace hA := hA.trans ho
    clear ho
    by_cases hm : (c.mint mask badge).2 = 0
    · have M := Lib.hid (Cp.mint_ok hm)
      obtain ⟨m, M'⟩ : ∃ m, Hid (c.Mints mask badge m) := ⟨_, M⟩
      have E1 := Lib.hid M'.out.is
      have E2 := Lib.hid M'.out.twice
      have E3 := Lib.hid (show m.mayB = true from decide_eq_true M'.out.mayX)
      have E4 := Lib.hid M'.out.within
      have E5 := Lib.hid (show m.badge = badge by have q := M'.out.eq; rw [q])
      clear hm M M'
      have hltc := hbc.lt
      obtain ⟨c0, c1, c2, c3, c4, c5⟩ := hbc.six
      go_wp2_with fail
      (with_reducible refine (mint_nil E1.out _).mono ?_); rintro e w3 ⟨rfl, ho⟩
      clear hltc c0 c1 c2 c3 c4 c5
      replace hbc := ho.blk (hbc.alloc _) (by simp)
      replace hA := (hA.alloc _).trans ho
      clear ho
      have hbm := Blk.new w3 23 m.arr
      replace hbc := hbc.alloc (.cells m.arr 23)
      replace hA := hA.alloc (.cells m.arr 23)
      go_wp2_with fail
      (with_reducible refine (refMay_is m true E3.out _).mono ?_); rintro e w4 ⟨rfl, ho⟩
      replace hbc := ho.blk hbc (by simp)
      replace hbm := ho.blk hbm (by simp)
      replace hA := hA.trans ho
      clear ho
      have hltm := hbm.lt
      obtain ⟨m0, m1, m2, m3, m4, m5⟩ := hbm.six
      go_wp2_with fail
      (with_reducible refine (mint_err E2.out (by decide) _).mono ?_); rintro e w5 ⟨rfl, ho⟩
      clear hltm m0 m1 m2 m3 m4 m5
      replace hbc := ho.blk hbc (by simp)
      replace hbm := ho.blk hbm (by simp)
      replace hA := hA.trans ho
      clear ho
      have hj := (Only.refl [] w5).alloc (.cells Cp.zero.arr 23)
      have hltc := hbc.lt
      obtain ⟨c0, c1, c2, c3, c4, c5⟩ := hbc.six
      have hltm := hbm.lt
      obtain ⟨m0, m1, m2, m3, m4, m5⟩ := hbm.six
      go_wp2_with fail
      (with_reducible refine (within_is (c := m) (d := c) E4.out _).mono ?_); rintro e w6 ⟨rfl, ho⟩
      clear hltc c0 c1 c2 c3 c4 c5
      clear hltm m0 m1 m2 m3 m4 m5
      replace hbc := ho.blk (hbc.alloc _) (by simp)
      replace hbm := ho.blk (hbm.alloc _) (by simp)
      replace hA := (hA.alloc _).trans ho
      clear ho
      have hdb : (m.badge == badge) = true := by rw [E5.out]; exact beq_self_eq_true _
      clear hj
      have hltm := hbm.lt
      obtain ⟨m0, m1, m2, m3, m4, m5⟩ := hbm.six
      go_wp2
      go_ret
      exact ⟨rfl, hA⟩
    · obtain ⟨m, n9, E9⟩ : ∃ m n, Hid (c.mint mask badge = (m, n)) := ⟨_, _, Lib.hid rfl⟩
      have hn := Lib.hid (show n9 ≠ 0 by rw [E9.out] at hm; exact hm)
      clear hm
      have hltc := hbc.lt
      obtain ⟨c0, c1, c2, c3, c4, c5⟩ := hbc.six
      go_wp2_with fail
      (with_reducible refine (mint_err E9.out hn.out _).mono ?_); rintro e w3 ⟨rfl, ho⟩
      clear hltc c0 c1 c2 c3 c4 c5
      replace hbc := ho.blk (hbc.alloc _) (by simp)
      replace hA := (hA.alloc _).trans ho
      clear ho
      go_wp2
      go_ret
      exact ⟨rfl, hA.alloc _⟩
end
end Go.Proofs.Ytpbajcligjlehaa
