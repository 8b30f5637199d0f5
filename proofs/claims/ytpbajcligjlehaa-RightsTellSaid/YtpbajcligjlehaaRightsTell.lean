/- RightsTell's walk: for every two capabilities and all numbers. -/
import Derived.Test.YtpbajcligjlehaaRightsUp
import Derived.Test.YtpbajcligjlehaaMutate
import Derived.Test.YtpbajcligjlehaaRefWithin
import Derived.Test.YtpbajcligjlehaaRefMint
import Derived.Test.YtpbajcligjlehaaRefMutate
import Derived.Test.YtpbajcligjlehaaCaps
import Derived.Deep.RegionHeld3
namespace Go.Proofs.Ytpbajcligjlehaa
open Go.RowKit
theorem code_any {n : Int} (h : n = 0 ∨ (1 ≤ n ∧ n ≤ 14)) (w : World) : Calls Try.prog 12 #[errV n] w fun e w' => e = .returned (.int .i64 n) ∧ w = w' := by
  rcases h with rfl | ⟨h1, h2⟩
  · exact code_nil w
  · unfold errV
    rw [if_neg (by omega)]
    exact code_some n w h1 h2
theorem refHas_is (c : Cp) (n : Int) (w : World) (hr : 0 ≤ c.rights ∧ c.rights ≤ 7) (hn : 0 ≤ n ∧ n ≤ 7) {b : Bool} (h : hasB c.rights n = b) : Calls Try.prog 15 #[c.v, .int .i64 n] w fun e w' => e = .returned (.bool b) ∧ Only [] w w' :=
  h ▸ refHas_any c n w hr.1 hr.2 hn.1 hn.2
theorem refWithin_is (c d : Cp) (w : World) (hc : 0 ≤ c.rights ∧ c.rights ≤ 7) (hd : 0 ≤ d.rights ∧ d.rights ≤ 7) {b : Bool} (h : withinB c d = b) : Calls Try.prog 17 #[c.v, d.v] w fun e w' => e = .returned (.bool b) ∧ Only [] w w' :=
  h ▸ refWithin_any c d w hc.1 hc.2 hd.1 hd.2
section
variable {B0 B1 : Nat} {c d : Cp} {w W W' : World}
theorem tell_start (h0 : Blk W B0 23 c.arr) (h1 : Blk W B1 23 d.arr) (h : Only [] w W) : (Blk W B0 23 c.arr ∧ Blk W B1 23 d.arr ∧ Only [] w W) ∧ W.cell? ⟨B0, 0, none⟩ = some (.int .i64 c.kind) ∧ W.cell? ⟨B0, 1, none⟩ = some (.int .i64 c.rights) ∧ W.cell? ⟨B0, 2, none⟩ = some (.int .i64 c.obj) ∧
    W.cell? ⟨B0, 3, none⟩ = some (.int .i64 c.badge) ∧ W.cell? ⟨B0, 4, none⟩ = some (.int .i64 c.guard) ∧ W.cell? ⟨B0, 5, none⟩ = some (.int .i64 c.bits) ∧ W.cell? ⟨B1, 0, none⟩ = some (.int .i64 d.kind) ∧ W.cell? ⟨B1, 1, none⟩ = some (.int .i64 d.rights) ∧
    W.cell? ⟨B1, 2, none⟩ = some (.int .i64 d.obj) ∧ W.cell? ⟨B1, 3, none⟩ = some (.int .i64 d.badge) ∧ W.cell? ⟨B1, 4, none⟩ = some (.int .i64 d.guard) ∧ W.cell? ⟨B1, 5, none⟩ = some (.int .i64 d.bits) :=
  ⟨⟨h0, h1, h⟩, h0.cell 0, h0.cell 1, h0.cell 2, h0.cell 3, h0.cell 4, h0.cell 5, h1.cell 0, h1.cell 1, h1.cell 2, h1.cell 3, h1.cell 4, h1.cell 5⟩
theorem tell_only {X : Prop} (h : (Blk W B0 23 c.arr ∧ Blk W B1 23 d.arr ∧ Only [] w W) ∧ X) : Only [] w W := h.1.2.2
theorem tell_keep {X : Prop} (h : (Blk W B0 23 c.arr ∧ Blk W B1 23 d.arr ∧ Only [] w W) ∧ X) (ho : Only [] W W') : (Blk W' B0 23 c.arr ∧ Blk W' B1 23 d.arr ∧ Only [] w W') ∧ W'.cell? ⟨B0, 0, none⟩ = some (.int .i64 c.kind) ∧ W'.cell? ⟨B0, 1, none⟩ = some (.int .i64 c.rights) ∧ W'.cell? ⟨B0, 2, none⟩ = some (.int .i64 c.obj) ∧
    W'.cell? ⟨B0, 3, none⟩ = some (.int .i64 c.badge) ∧ W'.cell? ⟨B0, 4, none⟩ = some (.int .i64 c.guard) ∧ W'.cell? ⟨B0, 5, none⟩ = some (.int .i64 c.bits) ∧ W'.cell? ⟨B1, 0, none⟩ = some (.int .i64 d.kind) ∧ W'.cell? ⟨B1, 1, none⟩ = some (.int .i64 d.rights) ∧
    W'.cell? ⟨B1, 2, none⟩ = some (.int .i64 d.obj) ∧ W'.cell? ⟨B1, 3, none⟩ = some (.int .i64 d.badge) ∧ W'.cell? ⟨B1, 4, none⟩ = some (.int .i64 d.guard) ∧ W'.cell? ⟨B1, 5, none⟩ = some (.int .i64 d.bits) :=
  tell_start (ho.blk h.1.1 (by simp)) (ho.blk h.1.2.1 (by simp)) (h.1.2.2.trans ho)
end
section
variable (c d : Cp) (mask badge guard nbits : Int) (w : World)
set_option maxRecDepth 100000 in
set_option maxHeartbeats 4000000 in
theorem tell_any : Calls Try.prog 3 #[c.v, d.v, .int .i64 mask, .int .i64 badge, .int .i64 guard, .int .i64 nbits] w fun e w' => e = .returned (.bool true) ∧ Only [] w w' := by
  have q1 := Lib.hid (c.derive_code mask)
  have q2 := Lib.hid (c.mint_code mask badge)
  have q3 := Lib.hid (c.mutate_code guard nbits)
  obtain ⟨x, n1, E1⟩ : ∃ x n, Hid (c.derive mask = (x, n)) := ⟨_, _, Lib.hid rfl⟩
  obtain ⟨y, n2, E2⟩ : ∃ x n, Hid (c.mint mask badge = (x, n)) := ⟨_, _, Lib.hid rfl⟩
  obtain ⟨z, n3, E3⟩ : ∃ x n, Hid (c.mutate guard nbits = (x, n)) := ⟨_, _, Lib.hid rfl⟩
  have C1 := Lib.hid (show n1 = 0 ∨ (1 ≤ n1 ∧ n1 ≤ 14) by have q := q1.out; rw [E1.out] at q; exact q)
  have C2 := Lib.hid (show n2 = 0 ∨ (1 ≤ n2 ∧ n2 ≤ 14) by have q := q2.out; rw [E2.out] at q; exact q)
  have C3 := Lib.hid (show n3 = 0 ∨ (1 ≤ n3 ∧ n3 ≤ 14) by have q := q3.out; rw [E3.out] at q; exact q)
  clear q1 q2 q3
  have hbc := (Blk.new w 23 c.arr).alloc (.cells d.arr 23)
  have hbd := Blk.new (w.alloc (.cells c.arr 23)) 23 d.arr
  rw [show (w.alloc (.cells c.arr 23)).heap.size = w.heap.size + 1 by simp] at hbd
  go_enter Try.func3, Try.ntmps3
  go_wp2_with fail
  (with_reducible refine (up_any _).mono ?_); rintro e w1 ⟨rfl, ho1⟩
  replace hbc := ho1.blk hbc (by simp)
  replace hbd := ho1.blk hbd (by simp)
  have hA := ((((Only.refl [] w).alloc (.cells c.arr 23)).alloc (.cells d.arr 23))).trans ho1
  clear ho1
  obtain ⟨c0, c1, c2, c3, c4, c5⟩ := hbc.six
  go_wp2_with fail
  (with_reducible refine (derive_is E1.out _).mono ?_); rintro e w2 ⟨rfl, ho2⟩
  clear c0 c1 c2 c3 c4 c5
  replace hbc := ho2.blk hbc (by simp)
  replace hbd := ho2.blk hbd (by simp)
  have hA := hA.trans ho2
  clear ho2
  have hltc := hbc.lt
  obtain ⟨c0, c1, c2, c3, c4, c5⟩ := hbc.six
  go_wp2_with fail
  (with_reducible refine (mint_is E2.out _).mono ?_); rintro e w3 ⟨rfl, ho⟩
  clear c0 c1 c2 c3 c4 c5 hltc
  replace hbc := ho.blk (hbc.alloc _) (by simp)
  replace hbd := ho.blk (hbd.alloc _) (by simp)
  have hbx := ho.blk (Blk.new w2 23 x.arr) (by simp)
  replace hA := (hA.alloc _).trans ho
  clear ho
  have hltc := hbc.lt
  obtain ⟨c0, c1, c2, c3, c4, c5⟩ := hbc.six
  go_wp2_with fail
  (with_reducible refine (mutate_is E3.out _).mono ?_); rintro e w4 ⟨rfl, ho⟩
  clear c0 c1 c2 c3 c4 c5 hltc
  replace hbc := ho.blk (hbc.alloc _) (by simp)
  replace hbd := ho.blk (hbd.alloc _) (by simp)
  replace hbx := ho.blk (hbx.alloc _) (by simp)
  have hby := ho.blk (Blk.new w3 23 y.arr) (by simp)
  replace hA := (hA.alloc _).trans ho
  clear ho
  have hltc := hbc.lt
  obtain ⟨c0, c1, c2, c3, c4, c5⟩ := hbc.six
  go_wp2_with fail
  (with_reducible refine (refDerive_is E1.out _).mono ?_); rintro e w5 ⟨rfl, ho⟩
  clear c0 c1 c2 c3 c4 c5 hltc
  replace hbc := ho.blk (hbc.alloc _) (by simp)
  replace hbd := ho.blk (hbd.alloc _) (by simp)
  replace hbx := ho.blk (hbx.alloc _) (by simp)
  replace hby := ho.blk (hby.alloc _) (by simp)
  have hbz := ho.blk (Blk.new w4 23 z.arr) (by simp)
  replace hA := (hA.alloc _).trans ho
  clear ho
  have hltc := hbc.lt
  obtain ⟨c0, c1, c2, c3, c4, c5⟩ := hbc.six
  go_wp2_with fail
  (with_reducible refine (refMint_is E2.out _).mono ?_); rintro e w6 ⟨rfl, ho⟩
  clear c0 c1 c2 c3 c4 c5 hltc
  replace hbc := ho.blk (hbc.alloc _) (by simp)
  replace hbd := ho.blk (hbd.alloc _) (by simp)
  replace hbx := ho.blk (hbx.alloc _) (by simp)
  replace hby := ho.blk (hby.alloc _) (by simp)
  replace hbz := ho.blk (hbz.alloc _) (by simp)
  have hba := ho.blk (Blk.new w5 23 x.arr) (by simp)
  replace hA := (hA.alloc _).trans ho
  clear ho
  have hltc := hbc.lt
  obtain ⟨c0, c1, c2, c3, c4, c5⟩ := hbc.six
  go_wp2_with fail
  (with_reducible refine (refMutate_is E3.out _).mono ?_); rintro e w7 ⟨rfl, ho⟩
  clear c0 c1 c2 c3 c4 c5 hltc
  replace hbc := ho.blk (hbc.alloc _) (by simp)
  replace hbd := ho.blk (hbd.alloc _) (by simp)
  replace hbx := ho.blk (hbx.alloc _) (by simp)
  replace hby := ho.blk (hby.alloc _) (by simp)
  replace hbz := ho.blk (hbz.alloc _) (by simp)
  replace hba := ho.blk (hba.alloc _) (by simp)
  have hbb := ho.blk (Blk.new w6 23 y.arr) (by simp)
  replace hA := (hA.alloc _).trans ho
  clear ho
  have hltx := hbx.lt
  obtain ⟨x0, x1, x2, x3, x4, x5⟩ := hbx.six
  have hlty := hby.lt
  obtain ⟨y0, y1, y2, y3, y4, y5⟩ := hby.six
  have hltz := hbz.lt
  obtain ⟨z0, z1, z2, z3, z4, z5⟩ := hbz.six
  have hlta := hba.lt
  obtain ⟨a0, a1, a2, a3, a4, a5⟩ := hba.six
  have hltb := hbb.lt
  obtain ⟨b0, b1, b2, b3, b4, b5⟩ := hbb.six
  have hltc := hbc.lt
  have hltd := hbd.lt
  go_wp2_with fail
  (with_reducible refine (code_any C1.out _).mono ?_); rintro e w' ⟨rfl, rfl⟩
  go_wp2_with fail
  (with_reducible refine (code_any C2.out _).mono ?_); rintro e w' ⟨rfl, rfl⟩
  go_wp2_with fail
  (with_reducible refine (code_any C3.out _).mono ?_); rintro e w' ⟨rfl, rfl⟩
  obtain ⟨c0, c1, c2, c3, c4, c5⟩ := hbc.six
  obtain ⟨d0, d1, d2, d3, d4, d5⟩ := hbd.six
  go_wp2_with fail
  clear hbx hltx x0 x1 x2 x3 x4 x5
  clear hby hlty y0 y1 y2 y3 y4 y5
  clear hbz hltz z0 z1 z2 z3 z4 z5
  clear hba hlta a0 a1 a2 a3 a4 a5
  clear hbb hltb b0 b1 b2 b3 b4 b5
  clear c0 c1 c2 c3 c4 c5 d0 d1 d2 d3 d4 d5
  have hbc8 := hbc.alloc (.cells z.arr 23)
  have hbd8 := hbd.alloc (.cells z.arr 23)
  replace hA := hA.alloc (.cells z.arr 23)
  clear hbc hbd hltc hltd
  by_cases hp : c.may
  · have hp' := Lib.hid (show c.mayB = true from decide_eq_true hp)
    have hP := Lib.hid hp
    clear hp
    (with_reducible refine (refMay_is c true hp'.out _).mono ?_); rintro e w8 ⟨rfl, ho⟩
    replace hbc := ho.blk hbc8 (by simp)
    replace hbd := ho.blk hbd8 (by simp)
    replace hA := hA.trans ho
    clear ho hbc8 hbd8
    obtain ⟨d0, d1, d2, d3, d4, d5⟩ := hbd.six
    go_wp2_with fail
    clear d0 d1 d2 d3 d4 d5
    by_cases hq : d.may
    · have hq' := Lib.hid (show d.mayB = true from decide_eq_true hq)
      have hQ := Lib.hid hq
      clear hq
      (with_reducible refine (refMay_is d true hq'.out _).mono ?_); rintro e w9 ⟨rfl, ho⟩
      replace hbc := ho.blk hbc (by simp)
      replace hbd := ho.blk hbd (by simp)
      replace hA := hA.trans ho
      clear ho
      by_cases hm0 : 0 ≤ mask
      · by_cases hm7 : mask ≤ 7
        · go_wp2_with fail
          obtain ⟨c0, c1, c2, c3, c4, c5⟩ := hbc.six
          obtain ⟨d0, d1, d2, d3, d4, d5⟩ := hbd.six
          obtain ⟨b1, hb1⟩ : ∃ b, Hid (hasB c.rights mask = b) := ⟨_, Lib.hid rfl⟩
          obtain ⟨b2, hb2⟩ : ∃ b, Hid (withinB c d = b) := ⟨_, Lib.hid rfl⟩
          have hR := Lib.hid (show (0 ≤ c.rights ∧ c.rights ≤ 7) ∧ (0 ≤ d.rights ∧ d.rights ≤ 7) from ⟨⟨hP.out.small.r0, hP.out.small.r1⟩, ⟨hQ.out.small.r0, hQ.out.small.r1⟩⟩)
          have hM := Lib.hid (And.intro hm0 hm7)
          go_region_held3 (fun W => (Blk W w.heap.size 23 c.arr ∧ Blk W (w.heap.size + 1) 23 d.arr ∧ Only [] w W) ∧ W.cell? ⟨w.heap.size, 0, none⟩ = some (.int .i64 c.kind) ∧ W.cell? ⟨w.heap.size, 1, none⟩ = some (.int .i64 c.rights) ∧ W.cell? ⟨w.heap.size, 2, none⟩ = some (.int .i64 c.obj) ∧
            W.cell? ⟨w.heap.size, 3, none⟩ = some (.int .i64 c.badge) ∧ W.cell? ⟨w.heap.size, 4, none⟩ = some (.int .i64 c.guard) ∧ W.cell? ⟨w.heap.size, 5, none⟩ = some (.int .i64 c.bits) ∧ W.cell? ⟨w.heap.size + 1, 0, none⟩ = some (.int .i64 d.kind) ∧ W.cell? ⟨w.heap.size + 1, 1, none⟩ = some (.int .i64 d.rights) ∧
            W.cell? ⟨w.heap.size + 1, 2, none⟩ = some (.int .i64 d.obj) ∧ W.cell? ⟨w.heap.size + 1, 3, none⟩ = some (.int .i64 d.badge) ∧ W.cell? ⟨w.heap.size + 1, 4, none⟩ = some (.int .i64 d.guard) ∧ W.cell? ⟨w.heap.size + 1, 5, none⟩ = some (.int .i64 d.bits))
            (first | exact tell_start hbc.drew hbd.drew hA.drew | exact tell_keep ‹_› ho)
            (first | (go_at_call 14; (with_reducible refine (has_is (c := c) hb1.out _).mono ?_); rintro e w' ⟨rfl, ho⟩) | (go_at_call 15; (with_reducible refine (refHas_is c mask _ hR.out.1 hM.out hb1.out).mono ?_); rintro e w' ⟨rfl, ho⟩) | (go_at_call 16; (with_reducible refine (within_is (c := c) (d := d) hb2.out _).mono ?_); rintro e w' ⟨rfl, ho⟩) | (go_at_call 17; (with_reducible refine (refWithin_is c d _ hR.out.1 hR.out.2 hb2.out).mono ?_); rintro e w' ⟨rfl, ho⟩))
          all_goals
            go_wp2
            go_ret
            exact ⟨rfl, tell_only (B0 := w.heap.size) (B1 := w.heap.size + 1) (c := c) (d := d) ‹_›⟩
        · have hm7' : 7 < mask := by omega
          clear hm7
          go_wp2_with fail
          go_ret
          exact ⟨rfl, hA⟩
      · have hm0' : mask < 0 := by omega
        clear hm0
        go_wp2_with fail
        go_ret
        exact ⟨rfl, hA⟩
    · have hq' := Lib.hid (show d.mayB = false from decide_eq_false hq)
      clear hq
      (with_reducible refine (refMay_is d false hq'.out _).mono ?_); rintro e w9 ⟨rfl, ho⟩
      go_wp2_with fail
      go_ret
      exact ⟨rfl, hA.trans ho⟩
  · have hp' := Lib.hid (show c.mayB = false from decide_eq_false hp)
    clear hp
    (with_reducible refine (refMay_is c false hp'.out _).mono ?_); rintro e w8 ⟨rfl, ho⟩
    replace hbc := ho.blk hbc8 (by simp)
    replace hbd := ho.blk hbd8 (by simp)
    replace hA := hA.trans ho
    clear ho hbc8 hbd8
    obtain ⟨d0, d1, d2, d3, d4, d5⟩ := hbd.six
    go_wp2_with fail
    refine (refMay_any d _).mono ?_; rintro e w9 ⟨rfl, ho⟩
    go_wp2_with fail
    go_ret
    exact ⟨rfl, hA.trans ho⟩
end
end Go.Proofs.Ytpbajcligjlehaa
