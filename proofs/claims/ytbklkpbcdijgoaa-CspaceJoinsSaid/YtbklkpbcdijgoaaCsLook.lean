/- What Lookup of package cspace answers (layer 11), of any view: an address, looked up. -/
import Derived.Test.YtbklkpbcdijgoaaCsNode
import Derived.Test.YtbklkpbcdijgoaaGuardWalk
namespace Go.Proofs.Ytbklkpbcdijgoaa
open Go.RowKit
section
variable {σ : Type} {M : Mach σ} {T : TypeId} {v : Value} {fR fW : FuncId} {Mem : World → σ → Prop} {Ok : σ → Prop} {S R : List Nat} {w : World} {s : σ}
theorem node_ok (V : VOk M T v fR fW Mem Ok S R) (hs : Ok s) {c : Cp} {x : Int × Int × Bool} {s1 : σ} (h : (nodeP c).run M s = (x, s1)) : NodeOk x := by
  unfold nodeP at h
  split at h
  · obtain ⟨p, sa, h1⟩ : ∃ p sa, (isP c.obj 2).run M s = (p, sa) := ⟨_, _, rfl⟩
    rw [Vp.run_bind_is h1] at h
    have oa : Ok sa := by
      unfold isP at h1
      split at h1
      · rw [Vp.run_rd, Vp.run_ret] at h1
        cases h1
        exact V.okR s _ hs
      · cases h1
        exact hs
    split at h
    · obtain ⟨a, sb, h2⟩ : ∃ a sb, (fieldP c.obj 1).run M sa = (a, sb) := ⟨_, _, rfl⟩
      obtain ⟨r, sc, h3⟩ : ∃ r sc, (fieldP c.obj 2).run M sb = (r, sc) := ⟨_, _, rfl⟩
      rw [Vp.run_bind_is h2, Vp.run_bind_is h3, Vp.run_ret] at h
      cases h
      have ra := field_rng V oa c.obj 1
      have ob := field_ok V oa c.obj 1
      rw [h2] at ra ob
      have rb := field_rng V ob c.obj 2
      rw [h3] at rb
      exact nodeN_ok ra.1 rb.1
    · cases h
      exact nodeOk_no
  · cases h
    exact nodeOk_no
theorem goP_zero (addr : Int) (c : Cp) (l : Int) : (goP addr 0 c l).run M s = ((0, 4), s) := rfl
theorem goP_no {addr : Int} {n : Nat} {c : Cp} {l a r : Int} {s1 : σ} (h : (nodeP c).run M s = ((a, r, false), s1)) : (goP addr (n + 1) c l).run M s = ((0, 4), s1) := by
  unfold goP
  rw [Vp.run_bind_is h, if_pos rfl, Vp.run_ret]
theorem goP_err {addr : Int} {n : Nat} {c : Cp} {l a r x y z : Int} {s1 : σ} (h : (nodeP c).run M s = ((a, r, true), s1)) (hw : walkP addr l c.guard c.bits r = (x, y, z)) (hz : z ≠ 0) : (goP addr (n + 1) c l).run M s = ((0, z), s1) := by
  unfold goP
  rw [Vp.run_bind_is h, if_neg (by simp), hw, if_pos hz, Vp.run_ret]
theorem goP_here {addr : Int} {n : Nat} {c : Cp} {l a r x : Int} {s1 : σ} (h : (nodeP c).run M s = ((a, r, true), s1)) (hw : walkP addr l c.guard c.bits r = (x, 0, 0)) : (goP addr (n + 1) c l).run M s = ((a + x, 0), s1) := by
  unfold goP
  rw [Vp.run_bind_is h, if_neg (by simp), hw, if_neg (by simp), if_pos rfl, Vp.run_ret]
theorem goP_on {addr : Int} {n : Nat} {c d : Cp} {l a r x y : Int} {s1 s2 : σ} (h : (nodeP c).run M s = ((a, r, true), s1)) (hw : walkP addr l c.guard c.bits r = (x, y, 0)) (hy : y ≠ 0) (hd : (capP (a + x)).run M s1 = (d, s2)) : (goP addr (n + 1) c l).run M s = (goP addr n d y).run M s2 := by
  show ((nodeP c).bind _).run M s = _
  rw [Vp.run_bind_is h, if_neg (by simp), hw, if_neg (by simp), if_neg hy, Vp.run_bind_is hd]
set_option maxHeartbeats 4000000 in
theorem clook_is (V : VOk M T v fR fW Mem Ok S R) (hm : Mem w s) {c : Cp} {addr n z : Int} {s1 : σ} (h : (lookP c addr).run M s = ((n, z), s1)) :
    Calls Try.prog 5 #[.iface T v, c.v, .int .i64 addr] w fun e w' => e = .returned (.tuple #[.int .i64 n, errV z]) ∧ Mem w' s1 ∧ Only S w w' := by
  unfold lookP at h
  have hm0 := V.only0 hm ((Only.refl [] w).alloc (.cells c.arr CpT))
  have ho0 := (Only.refl S w).alloc (.cells c.arr CpT)
  by_cases ha : addr < 0 ∨ 65536 ≤ addr
  · rw [Vp.run_yes ha, Vp.run_ret] at h
    cases h
    have HH := Lib.hid (And.intro hm0 ho0)
    have e1 : errV 1 = .iface 45 (.int .i64 1) := rfl
    rw [e1]
    clear hm0 ho0 hm V e1
    by_cases h0 : addr < 0
    · clear ha
      go_enter Try.func5, Try.ntmps5
      go_wp2_with fail
      go_ret2
      exact ⟨rfl, HH.out⟩
    · have h1 : 65536 ≤ addr := by omega
      have h0' : 0 ≤ addr := by omega
      clear ha h0
      go_enter Try.func5, Try.ntmps5
      go_wp2_with fail
      go_ret2
      exact ⟨rfl, HH.out⟩
  · rw [Vp.run_no ha] at h
    have a0 : 0 ≤ addr := by omega
    have a1 : addr < 65536 := by omega
    obtain ⟨q, sa, h1⟩ : ∃ q sa, (fineP c).run M s = (q, sa) := ⟨_, _, rfl⟩
    rw [Vp.run_bind_is h1] at h
    have c1 := cfine_is V hm0 h1
    have HV := Lib.hid V
    have HO := Lib.hid ho0
    have hbc := Blk.new w CpT c.arr
    have hgS := V.freshS hm (Nat.le_refl w.heap.size)
    clear ha h1 hm hm0 ho0 V
    cases q with
    | false =>
      rw [if_neg (by simp), Vp.run_ret] at h
      cases h
      have e1 : errV 5 = .iface 45 (.int .i64 5) := rfl
      rw [e1]
      clear hbc hgS e1
      go_enter Try.func5, Try.ntmps5
      go_wp2_with fail
      (with_reducible refine c1.mono ?_)
      clear c1
      rintro e w1 ⟨rfl, hm1, ho1⟩
      go_wp2_with fail
      go_ret2
      exact ⟨rfl, hm1, HO.out.trans ho1⟩
    | true =>
      rw [if_pos rfl] at h
      have H := Lib.hid h
      clear h
      go_enter Try.func5, Try.ntmps5
      go_wp2_with fail
      (with_reducible refine c1.mono ?_)
      clear c1
      rintro e w1 ⟨rfl, hm1, ho1⟩
      obtain ⟨k0, k1, k2, k3, k4, k5⟩ := (ho1.blk hbc hgS).cap
      have HM1 := Lib.hid (And.intro hm1 (HO.out.trans ho1))
      clear hbc hm1 ho1 hgS
      go_wp2_with fail
      obtain ⟨w2, hw2⟩ : ∃ w2, w2 = w1.alloc (.cells c.arr CpT) := ⟨_, rfl⟩
      have hm2 : Mem w2 sa := hw2 ▸ HV.out.only0 HM1.out.1 ((Only.refl _ _).alloc _)
      have ho2 : Only S w w2 := hw2 ▸ HM1.out.2.alloc _
      have hb2 : Blk w2 w1.heap.size CpT c.arr := hw2 ▸ Blk.new w1 CpT c.arr
      have hgR := HV.out.fresh HM1.out.1 (Nat.le_refl w1.heap.size)
      have hgw := HM1.out.2.size
      rw [← hw2]
      clear hw2 k0 k1 k2 k3 k4 k5 HM1 HO
      generalize w1.heap.size = g at *
      have hgS : g ∉ S := fun hx => hgR (HV.out.sub g hx)
      go_loopw [9, 28] (fun l i wr => ∃ (k : Nat) (d : Cp) (lf : Int) (sr : σ), k ≤ 16 ∧ l = .int .i64 lf ∧ i = .int .i64 k ∧ Mem wr sr ∧ Only S w wr ∧ Blk wr g CpT d.arr ∧ (goP addr (16 - k) d lf).run M sr = ((n, z), s1)) (fun _ i _ => 16 - (intOf i).toNat)
      case atStart => exact ⟨0, c, 16, sa, by omega, rfl, rfl, hm2, ho2, hb2, H.out⟩
      case round =>
        clear hm2 ho2 hb2 H
        obtain ⟨k, d, lf, sr, hk, rfl, rfl, hm, ho, hb, hl⟩ := hrel
        by_cases hlt : k < 16
        · obtain ⟨m, hmk⟩ : ∃ m, Hid (16 - k = m + 1 ∧ 16 - (k + 1) = m) := ⟨16 - (k + 1), Lib.hid (by omega)⟩
          rw [hmk.out.1] at hl
          obtain ⟨⟨a, r, q⟩, sb, h1⟩ : ∃ x sb, (nodeP d).run M sr = (x, sb) := ⟨_, _, rfl⟩
          have c1 := cnode_is HV.out hm h1
          have hn := node_ok HV.out (HV.out.ok _ _ hm) h1
          obtain ⟨k0, k1, k2, k3, k4, k5⟩ := hb.cap
          have hwz := ho.size
          cases q with
          | false =>
            rw [goP_no h1] at hl
            cases hl
            have HH := Lib.hid ho
            clear h1 hn hm ho hb
            go_wp2_with fail
            (with_reducible refine c1.mono ?_)
            clear c1
            rintro e w3 ⟨rfl, hm3, ho3⟩
            have hm4 := HV.out.only0 hm3 ((Only.refl [] w3).alloc (.cells (ndArr a r) NdT))
            have ho4 := (HH.out.trans ho3).alloc (.cells (ndArr a r) NdT)
            go_wp2_with fail
            go_ret2
            exact ⟨rfl, hm4, ho4⟩
          | true =>
            obtain ⟨na, nr, nr5, nar⟩ := hn.1 rfl
            simp only at na nr nr5 nar
            obtain ⟨x, y, e, hw⟩ : ∃ x y e, walkP addr lf d.guard d.bits r = (x, y, e) := ⟨_, _, _, rfl⟩
            have hx := walk_in hw
            have cW := Lib.hid (walk_is hw)
            have HB := Lib.hid (And.intro hb ho)
            clear hn hm ho hb
            by_cases he : e = 0
            · subst he
              have hx2 := hx.2.1 rfl
              have hp := pw5 nr nr5
              have hs : IntKind.i64.wrap (a + x) = a + x := IntWalk.i64_in _ (by omega)
              rw [errV_nil] at cW
              clear hx nar hp hx2 na nr nr5
              by_cases hy : y = 0
              · subst hy
                rw [goP_here h1 hw] at hl
                cases hl
                clear h1 hw
                go_wp2_with fail
                (with_reducible refine c1.mono ?_)
                clear c1
                rintro e w3 ⟨rfl, hm3, ho3⟩
                have hb3 := ho3.blk HB.out.1 hgS
                obtain ⟨k0, k1, k2, k3, k4, k5⟩ := hb3.cap
                have hlt3 := hb3.lt
                have hm4 := HV.out.only0 hm3 ((Only.refl [] w3).alloc (.cells (ndArr a r) NdT))
                have ho4 := (HB.out.2.trans ho3).alloc (.cells (ndArr a r) NdT)
                have hn4 := Blk.new w3 NdT (ndArr a r)
                have hb4 := hb3.alloc (.cells (ndArr a r) NdT)
                go_wp2_with fail
                (with_reducible refine (cW.out _).mono ?_)
                rintro e w5 ⟨rfl, ho5⟩
                have hm5 := HV.out.only0 hm4 ho5
                have ho6 := ho4.trans (ho5.more (S' := S) (fun _ _ hx => absurd hx List.not_mem_nil))
                have hn5 := ho5.blk hn4 (by simp)
                have n0 : w5.cell? ⟨w3.heap.size, 0, none⟩ = some (.int .i64 a) := hn5.cell 0
                have n1 : w5.cell? ⟨w3.heap.size, 1, none⟩ = some (.int .i64 r) := hn5.cell 1
                have hb5 := ho5.blk hb4 (by simp)
                have HH := Lib.hid (And.intro hm5 (And.intro ho6 hb5))
                clear k0 k1 k2 k3 k4 k5 ho3 hb3 hm3 hm4 ho4 hn4 hb4 ho5 hm5 ho6 hn5 hb5 hlt3
                go_wp2_with fail
                go_ret2
                exact ⟨rfl, HH.out.1, HH.out.2.1⟩
              · obtain ⟨u, sc, hd⟩ : ∃ u sc, (capP (a + x)).run M sb = (u, sc) := ⟨_, _, rfl⟩
                rw [goP_on h1 hw hy hd] at hl
                have hyb : (y == 0) = false := by simp [hy]
                have HL := Lib.hid hl
                have HD := Lib.hid hd
                clear h1 hw hl hd hy
                go_wp2_with fail
                (with_reducible refine c1.mono ?_)
                clear c1
                rintro e w3 ⟨rfl, hm3, ho3⟩
                have hb3 := ho3.blk HB.out.1 hgS
                obtain ⟨k0, k1, k2, k3, k4, k5⟩ := hb3.cap
                have hlt3 := hb3.lt
                have hm4 := HV.out.only0 hm3 ((Only.refl [] w3).alloc (.cells (ndArr a r) NdT))
                have ho4 := (HB.out.2.trans ho3).alloc (.cells (ndArr a r) NdT)
                have hn4 := Blk.new w3 NdT (ndArr a r)
                have hb4 := hb3.alloc (.cells (ndArr a r) NdT)
                go_wp2_with fail
                (with_reducible refine (cW.out _).mono ?_)
                rintro e w5 ⟨rfl, ho5⟩
                have hm5 := HV.out.only0 hm4 ho5
                have ho6 := ho4.trans (ho5.more (S' := S) (fun _ _ hx => absurd hx List.not_mem_nil))
                have hn5 := ho5.blk hn4 (by simp)
                have n0 : w5.cell? ⟨w3.heap.size, 0, none⟩ = some (.int .i64 a) := hn5.cell 0
                have n1 : w5.cell? ⟨w3.heap.size, 1, none⟩ = some (.int .i64 r) := hn5.cell 1
                have hb5 := ho5.blk hb4 (by simp)
                have HH := Lib.hid (And.intro hm5 (And.intro ho6 hb5))
                have c2 := ccap_is HV.out hm5 HD.out
                clear k0 k1 k2 k3 k4 k5 ho3 hb3 hm3 hm4 ho4 hn4 hb4 ho5 hm5 ho6 hn5 hb5 hlt3
                go_wp2_with fail
                (with_reducible refine c2.mono ?_)
                clear c2
                rintro e w6 ⟨rfl, hm6, ho7⟩
                have hb6 := ho7.blk HH.out.2.2 hgS
                obtain ⟨k0, k1, k2, k3, k4, k5⟩ := hb6.cap
                have f0 : w6.frozen? ⟨g, 0, none⟩ = false := hb6.frozen 0
                have f1 : w6.frozen? ⟨g, 1, none⟩ = false := hb6.frozen 1
                have f2 : w6.frozen? ⟨g, 2, none⟩ = false := hb6.frozen 2
                have f3 : w6.frozen? ⟨g, 3, none⟩ = false := hb6.frozen 3
                have f4 : w6.frozen? ⟨g, 4, none⟩ = false := hb6.frozen 4
                have f5 : w6.frozen? ⟨g, 5, none⟩ = false := hb6.frozen 5
                have HQ := Lib.hid (And.intro hm6 (And.intro (HH.out.2.1.trans ho7) hb6))
                clear hm6 ho7 hb6 n0 n1
                go_wp2_with fail
                go_roundw
                case rel =>
                  refine ⟨k + 1, u, y, sc, by omega, rfl, by go_num, ?_, ?_, ?_, by rw [hmk.out.2]; exact HL.out⟩
                  · exact HV.out.put (HV.out.put (HV.out.put (HV.out.put (HV.out.put (HV.out.put HQ.out.1 hgR _ _) hgR _ _) hgR _ _) hgR _ _) hgR _ _) hgR _ _
                  · exact (((((HQ.out.2.1.setCell (.inr hgw) _).setCell (.inr hgw) _).setCell (.inr hgw) _).setCell (.inr hgw) _).setCell (.inr hgw) _).setCell (.inr hgw) _
                  · exact (((((HQ.out.2.2.set_ 0 (.int .i64 u.kind)).set_ 1 (.int .i64 u.rights)).set_ 2 (.int .i64 u.obj)).set_ 3 (.int .i64 u.badge)).set_ 4 (.int .i64 u.guard)).set_ 5 (.int .i64 u.bits)
                case measure => simp [intOf]; omega
            · rw [goP_err h1 hw he] at hl
              cases hl
              have hez : errV z = .iface 45 (.int .i64 z) := errV_some he
              rw [hez] at cW
              clear h1 hw hx na nr nr5 nar
              go_wp2_with fail
              (with_reducible refine c1.mono ?_)
              clear c1
              rintro e w3 ⟨rfl, hm3, ho3⟩
              have hb3 := ho3.blk HB.out.1 hgS
              obtain ⟨k0, k1, k2, k3, k4, k5⟩ := hb3.cap
              have hlt3 := hb3.lt
              have hm4 := HV.out.only0 hm3 ((Only.refl [] w3).alloc (.cells (ndArr a r) NdT))
              have ho4 := (HB.out.2.trans ho3).alloc (.cells (ndArr a r) NdT)
              have hn4 := Blk.new w3 NdT (ndArr a r)
              have hb4 := hb3.alloc (.cells (ndArr a r) NdT)
              go_wp2_with fail
              (with_reducible refine (cW.out _).mono ?_)
              rintro e w5 ⟨rfl, ho5⟩
              have hm5 := HV.out.only0 hm4 ho5
              have ho6 := ho4.trans (ho5.more (S' := S) (fun _ _ hx => absurd hx List.not_mem_nil))
              have hn5 := ho5.blk hn4 (by simp)
              have n0 : w5.cell? ⟨w3.heap.size, 0, none⟩ = some (.int .i64 a) := hn5.cell 0
              have n1 : w5.cell? ⟨w3.heap.size, 1, none⟩ = some (.int .i64 r) := hn5.cell 1
              have hb5 := ho5.blk hb4 (by simp)
              have HH := Lib.hid (And.intro hm5 (And.intro ho6 hb5))
              clear k0 k1 k2 k3 k4 k5 ho3 hb3 hm3 hm4 ho4 hn4 hb4 ho5 hm5 ho6 hn5 hb5 hlt3
              go_wp2_with fail
              go_ret2
              exact ⟨by rw [hez]; rfl, HH.out.1, HH.out.2.1⟩
        · obtain rfl : k = 16 := by omega
          rw [show 16 - 16 = 0 from rfl, goP_zero] at hl
          cases hl
          have HH := Lib.hid (And.intro hm ho)
          clear hlt hm ho hb
          go_wp2_with fail
          go_ret2
          exact ⟨rfl, HH.out⟩
end
end Go.Proofs.Ytbklkpbcdijgoaa
