/- What nodeOf and Fine of package cspace answer (layer 11), of any view: where a CNode's slots begin, its radix, whether it is fine. -/
import Derived.Test.YtdkjfalhalepgaaCsCap
import Derived.Test.YtdkjfalhalepgaaJ12
import Derived.Test.YtdkjfalhalepgaaJ13
import Derived.Deep.RegionHeld3
namespace Go.Proofs.Ytdkjfalhalepgaa
open Go.RowKit
abbrev NdT : TypeId := 100
abbrev ndArr (a r : Int) : Array Value := #[.int .i64 a, .int .i64 r]
section
variable {σ : Type} {M : Mach σ} {T : TypeId} {v : Value} {fR fW : FuncId} {Mem : World → σ → Prop} {Ok : σ → Prop} {S R : List Nat} {w : World} {s : σ}
set_option maxHeartbeats 2000000 in
theorem cnode_is (V : VOk M T v fR fW Mem Ok S R) (hm : Mem w s) {c : Cp} {a r : Int} {q : Bool} {s1 : σ} (h : (nodeP c).run M s = ((a, r, q), s1)) :
    Calls Try.prog 72 #[.iface T v, c.v] w fun e w' => e = .returned (.tuple #[.agg (ndArr a r), .bool q]) ∧ Mem w' s1 ∧ Only S w w' := by
  unfold nodeP at h
  have hR := V.fresh hm (show w.heap.size ≤ w.heap.size + 1 by omega)
  have hgS := V.freshS hm (Nat.le_refl w.heap.size)
  have hgS1 := V.freshS hm (show w.heap.size ≤ w.heap.size + 1 by omega)
  have hbc := (Blk.new w CpT c.arr).alloc (.cells (ndArr 0 0) NdT)
  have hbn := Blk.new (w.alloc (.cells c.arr CpT)) NdT (ndArr 0 0)
  have hm0 := V.only0 hm (((Only.refl [] w).alloc (.cells c.arr CpT)).alloc (.cells (ndArr 0 0) NdT))
  have ho0 := ((Only.refl S w).alloc (.cells c.arr CpT)).alloc (.cells (ndArr 0 0) NdT)
  rw [show (w.alloc (.cells c.arr CpT)).heap.size = w.heap.size + 1 by simp] at hbn
  by_cases hk : c.kind = 2
  · rw [if_pos hk] at h
    obtain ⟨p, sa, h1⟩ : ∃ p sa, (isP c.obj 2).run M s = (p, sa) := ⟨_, _, rfl⟩
    rw [Vp.run_bind_is h1] at h
    have c1 := is_is V hm0 (by omega) h1
    have hk' : (c.kind != 2) = false := by simp [hk]
    have HV := Lib.hid V
    have HB := Lib.hid (And.intro hbc (And.intro hbn ho0))
    clear hbc hbn ho0 hm0 hk h1 hm V
    cases p with
    | false =>
      rw [if_neg (by simp), Vp.run_ret] at h
      cases h
      go_enter Try.func72, Try.ntmps72
      go_wp2_with fail
      (with_reducible refine c1.mono ?_)
      clear c1
      rintro e w1 ⟨rfl, hm1, ho1⟩
      have hb1 := ho1.blk HB.out.2.1 hgS1
      have k0 : w1.cell? ⟨w.heap.size + 1, 0, none⟩ = some (.int .i64 0) := hb1.cell 0
      have k1 : w1.cell? ⟨w.heap.size + 1, 1, none⟩ = some (.int .i64 0) := hb1.cell 1
      have f0 : w1.frozen? ⟨w.heap.size + 1, 0, none⟩ = false := hb1.frozen 0
      have f1 : w1.frozen? ⟨w.heap.size + 1, 1, none⟩ = false := hb1.frozen 1
      have ho := HB.out.2.2.trans ho1
      go_wp2_with fail
      refine bodyPost_ret (v := .tuple #[.agg (ndArr 0 0), .bool false]) (by simp [results, Try.results72, go_sem, k0, k1]) rfl ⟨rfl, ?_, ?_⟩
      · exact HV.out.put (HV.out.put hm1 hR _ _) hR _ _
      · exact (ho.setCell (.inr (show w.heap.size ≤ w.heap.size + 1 by omega)) _).setCell (.inr (show w.heap.size ≤ w.heap.size + 1 by omega)) _
    | true =>
      rw [if_pos rfl] at h
      obtain ⟨x, sb, h2⟩ : ∃ x sb, (fieldP c.obj 1).run M sa = (x, sb) := ⟨_, _, rfl⟩
      rw [Vp.run_bind_is h2] at h
      obtain ⟨y, sc, h3⟩ : ∃ y sc, (fieldP c.obj 2).run M sb = (y, sc) := ⟨_, _, rfl⟩
      rw [Vp.run_bind_is h3, Vp.run_ret] at h
      have H2 := Lib.hid h2
      have H3 := Lib.hid h3
      have H := Lib.hid h
      clear h2 h3 h
      go_enter Try.func72, Try.ntmps72
      go_wp2_with fail
      (with_reducible refine c1.mono ?_)
      clear c1
      rintro e w1 ⟨rfl, hm1, ho1⟩
      have hc1 := ho1.blk HB.out.1 hgS
      have hb1 := ho1.blk HB.out.2.1 hgS1
      have HO := Lib.hid (HB.out.2.2.trans ho1)
      have hlt := hc1.lt
      have hC := fun W (o : Only S w1 W) => And.intro o (show W.cell? ⟨w.heap.size, 2, none⟩ = some (.int .i64 c.obj) from (o.blk hc1 hgS).cell 2)
      have HC := Lib.hid hC
      have HB1 := Lib.hid hb1
      have hoy : Only S w1 w1.drew := (Only.refl _ _).drewN 1
      have hmy : Mem w1.drew sa := HV.out.drewN hm1 1
      have hoa : Only S w1 (w1.alloc (.cells (ndArr 0 0) NdT)).drew := ((Only.refl _ _).alloc _).drewN 1
      have hma : Mem (w1.alloc (.cells (ndArr 0 0) NdT)).drew sa := HV.out.drewN (HV.out.only0 hm1 ((Only.refl _ _).alloc _)) 1
      have hba : Blk (w1.alloc (.cells (ndArr 0 0) NdT)).drew w1.heap.size NdT (ndArr 0 0) := (Blk.new w1 NdT (ndArr 0 0)).drew
      have hga := HV.out.freshS hm1 (Nat.le_refl w1.heap.size)
      have cF := fun W (h : Mem W sa) => field_is HV.out h H2.out
      have cG := fun W (h : Mem W sb) => field_is HV.out h H3.out
      have rX := field_rng HV.out (HV.out.ok _ _ hm1) c.obj 1
      rw [H2.out] at rX
      have RX := Lib.hid rX
      have oB := field_ok HV.out (HV.out.ok _ _ hm1) c.obj 1
      rw [H2.out] at oB
      have rY := field_rng HV.out oB c.obj 2
      rw [H3.out] at rY
      have RY := Lib.hid rY
      have HMa := Lib.hid (And.intro hmy (And.intro hma (And.intro hba (And.intro hga (HV.out.fresh hm1 (Nat.le_refl w1.heap.size))))))
      clear HB ho1 hc1 hb1 hC hm1 rX rY oB hmy hma hba hga
      go_upto_region 3 with fail
      go_region_held3 (fun W => Only S w1 W ∧ W.cell? ⟨w.heap.size, 2, none⟩ = some (.int .i64 c.obj))
        (first | exact HC.out _ hoy | exact HC.out _ hoa | exact HC.out _ hox | exact HC.out _ hoxa | exact HC.out _ hoz | exact HC.out _ (hoz.alloc _) | exact HC.out _ hos | fail)
        (first
          | ((with_reducible refine (cF _ HMa.out.1).mono ?_); clear cF; rintro e w2 ⟨rfl, hm2, ho2⟩; have hox := hoy.trans ho2; have hoxa : Only S w1 (w2.alloc (.cells (ndArr 0 0) NdT)) := hox.alloc _; have hm2a : Mem (w2.alloc (.cells (ndArr 0 0) NdT)) sb := HV.out.only0 hm2 ((Only.refl _ _).alloc _))
          | ((with_reducible refine (cF _ HMa.out.2.1).mono ?_); clear cF; rintro e w2 ⟨rfl, hm2, ho2⟩; have hox := hoa.trans ho2; have hbx := ho2.blk HMa.out.2.2.1 HMa.out.2.2.2.1)
          | ((with_reducible refine (cG _ hm2).mono ?_); clear cG; rintro e w3 ⟨rfl, hm3, ho3⟩; have hoz := hox.trans ho3; have hbz := ho3.blk hbx HMa.out.2.2.2.1; have k0 : w3.cell? ⟨w1.heap.size, 0, none⟩ = some (.int .i64 0) := hbz.cell 0; have k1 : w3.cell? ⟨w1.heap.size, 1, none⟩ = some (.int .i64 0) := hbz.cell 1; have f0 : w3.frozen? ⟨w1.heap.size, 0, none⟩ = false := hbz.frozen 0; have f1 : w3.frozen? ⟨w1.heap.size, 1, none⟩ = false := hbz.frozen 1; have hos : Only S w1 ((w3.setCell ⟨w1.heap.size, 0, none⟩ (.int .i64 x)).setCell ⟨w1.heap.size, 1, none⟩ (.int .i64 y)) := (hoz.setCell (.inr (Nat.le_refl _)) _).setCell (.inr (Nat.le_refl _)) _)
          | ((with_reducible refine (cG _ hm2).mono ?_); clear cG; rintro e w3 ⟨rfl, hm3, ho3⟩; have hoz := hox.trans ho3)
          | ((with_reducible refine (cG _ hm2a).mono ?_); clear cG; rintro e w3 ⟨rfl, hm3, ho3⟩; have hoz := hoxa.trans ho3; have hbz := ho3.blk (Blk.new w2 NdT (ndArr 0 0)) (HV.out.freshS hm2 (Nat.le_refl w2.heap.size)); have k0 : w3.cell? ⟨w2.heap.size, 0, none⟩ = some (.int .i64 0) := hbz.cell 0; have k1 : w3.cell? ⟨w2.heap.size, 1, none⟩ = some (.int .i64 0) := hbz.cell 1; have f0 : w3.frozen? ⟨w2.heap.size, 0, none⟩ = false := hbz.frozen 0; have f1 : w3.frozen? ⟨w2.heap.size, 1, none⟩ = false := hbz.frozen 1; have hos : Only S w1 ((w3.setCell ⟨w2.heap.size, 0, none⟩ (.int .i64 x)).setCell ⟨w2.heap.size, 1, none⟩ (.int .i64 y)) := (hoz.setCell (.inr hox.size) _).setCell (.inr hox.size) _)
          | fail)
      all_goals
        first
        | (obtain ⟨w4, hw4⟩ : ∃ w4, w4 = w3.alloc (.cells (ndArr x y) NdT) := ⟨_, rfl⟩
           have hm4 : Mem w4 sc := hw4 ▸ HV.out.only0 hm3 ((Only.refl _ _).alloc _)
           have ho4 : Only S w1 w4 := hw4 ▸ hoz.alloc _
           have hb4 : Blk w4 w3.heap.size NdT (ndArr x y) := hw4 ▸ Blk.new w3 NdT (ndArr x y)
           rw [← hw4]
           clear hw4)
        | (obtain ⟨w4, hw4⟩ : ∃ w4, w4 = (w3.setCell ⟨w2.heap.size, 0, none⟩ (.int .i64 x)).setCell ⟨w2.heap.size, 1, none⟩ (.int .i64 y) := ⟨_, rfl⟩
           have hm4 : Mem w4 sc := hw4 ▸ HV.out.put (HV.out.put hm3 (HV.out.fresh hm2 (Nat.le_refl w2.heap.size)) _ _) (HV.out.fresh hm2 (Nat.le_refl w2.heap.size)) _ _
           have ho4 : Only S w1 w4 := hw4 ▸ hos
           have hb4 : Blk w4 w2.heap.size NdT (ndArr x y) := hw4 ▸ (hbz.set_ 0 (.int .i64 x)).set_ 1 (.int .i64 y)
           rw [← hw4]
           clear hw4)
        | (obtain ⟨w4, hw4⟩ : ∃ w4, w4 = (w3.setCell ⟨w1.heap.size, 0, none⟩ (.int .i64 x)).setCell ⟨w1.heap.size, 1, none⟩ (.int .i64 y) := ⟨_, rfl⟩
           have hm4 : Mem w4 sc := hw4 ▸ HV.out.put (HV.out.put hm3 HMa.out.2.2.2.2 _ _) HMa.out.2.2.2.2 _ _
           have ho4 : Only S w1 w4 := hw4 ▸ hos
           have hb4 : Blk w4 w1.heap.size NdT (ndArr x y) := hw4 ▸ (hbz.set_ 0 (.int .i64 x)).set_ 1 (.int .i64 y)
           rw [← hw4]
           clear hw4)
        | fail
      all_goals
        have n0 := hb4.cell 0
        have n1 := hb4.cell 1
        simp only [List.getElem?_toArray, List.getElem?_cons_zero, List.getElem?_cons_succ] at n0 n1
        have hb5 := ho4.blk HB1.out hgS1
        have HM4 := Lib.hid (And.intro hm4 (HO.out.trans ho4))
        have k0 : w4.cell? ⟨w.heap.size + 1, 0, none⟩ = some (.int .i64 0) := hb5.cell 0
        have k1 : w4.cell? ⟨w.heap.size + 1, 1, none⟩ = some (.int .i64 0) := hb5.cell 1
        have f0' : w4.frozen? ⟨w.heap.size + 1, 0, none⟩ = false := hb5.frozen 0
        have f1' : w4.frozen? ⟨w.heap.size + 1, 1, none⟩ = false := hb5.frozen 1
        have hy0 : 0 ≤ y := RY.out.1
        have hx0 : 0 ≤ x := RX.out.1
        have hx1 : x ≤ 4611686018427387904 := RX.out.2
        clear hm4 ho4 hb4 hb5 HB1 HC HMa RX RY hoz hox hoy hoa hm2 hm3 ho2 ho3
        by_cases h5 : 5 < y
        · have e := H.out
          rw [nodeN_no (.inl h5)] at e
          cases e
          go_wp2_with fail
          go_quiet (fail)
          go_wp2_with fail
          refine bodyPost_ret (v := .tuple #[.agg (ndArr 0 0), .bool false]) (by simp [results, Try.results72, go_sem, k0, k1]) rfl ⟨rfl, ?_, ?_⟩
          · exact HV.out.put (HV.out.put (HV.out.drewN HM4.out.1 _) hR _ _) hR _ _
          · exact ((HM4.out.2.drewN _).setCell (.inr (show w.heap.size ≤ w.heap.size + 1 by omega)) _).setCell (.inr (show w.heap.size ≤ w.heap.size + 1 by omega)) _
        · have h5' : y ≤ 5 := by omega
          obtain ⟨p0, p1⟩ := pw5 hy0 h5'
          have hmin : min y.toNat 64 = y.toNat := by omega
          have hw1 : IntKind.i64.wrap (2 ^ y.toNat) = 2 ^ y.toNat := IntWalk.i64_in _ (by omega)
          have hw2 : IntKind.i64.wrap (96 - 2 ^ y.toNat) = 96 - 2 ^ y.toNat := IntWalk.i64_in _ (by omega)
          by_cases h6 : 96 - 2 ^ y.toNat < x
          · have e := H.out
            rw [nodeN_no (.inr h6)] at e
            cases e
            clear h5
            go_wp2_with fail
            go_quiet (fail)
            go_wp2_with fail
            refine bodyPost_ret (v := .tuple #[.agg (ndArr 0 0), .bool false]) (by simp [results, Try.results72, go_sem, k0, k1]) rfl ⟨rfl, ?_, ?_⟩
            · exact HV.out.put (HV.out.put (HV.out.drewN HM4.out.1 _) hR _ _) hR _ _
            · exact ((HM4.out.2.drewN _).setCell (.inr (show w.heap.size ≤ w.heap.size + 1 by omega)) _).setCell (.inr (show w.heap.size ≤ w.heap.size + 1 by omega)) _
          · have h6' : x ≤ 96 - 2 ^ y.toNat := by omega
            have e := H.out
            rw [nodeN_yes h5' h6'] at e
            cases e
            clear h5 h6
            go_wp2_with fail
            go_quiet (fail)
            go_wp2_with fail
            refine bodyPost_ret (v := .tuple #[.agg (ndArr a r), .bool true]) (by simp [results, Try.results72, go_sem, k0, k1]) rfl ⟨rfl, ?_, ?_⟩
            · exact HV.out.put (HV.out.put (HV.out.drewN HM4.out.1 _) hR _ _) hR _ _
            · exact ((HM4.out.2.drewN _).setCell (.inr (show w.heap.size ≤ w.heap.size + 1 by omega)) _).setCell (.inr (show w.heap.size ≤ w.heap.size + 1 by omega)) _
  · rw [if_neg hk, Vp.run_ret] at h
    cases h
    have hk' : (c.kind != 2) = true := by simp [hk]
    have k0 := hbn.cell 0
    have k1 := hbn.cell 1
    simp only [List.getElem?_toArray, List.getElem?_cons_zero, List.getElem?_cons_succ] at k0 k1
    have f0 := hbn.frozen 0
    have f1 := hbn.frozen 1
    have HH := Lib.hid (And.intro hm0 ho0)
    clear hbc hbn hm0 ho0 hk hm V
    go_enter Try.func72, Try.ntmps72
    go_wp2_with fail
    refine bodyPost_ret (v := .tuple #[.agg (ndArr 0 0), .bool false]) (by simp [results, Try.results72, go_sem, k0, k1]) rfl ⟨rfl, ?_, ?_⟩
    · exact HH.out.1
    · exact HH.out.2
/-- whether it is fine -/
theorem cfine_is (V : VOk M T v fR fW Mem Ok S R) (hm : Mem w s) {c : Cp} {q : Bool} {s1 : σ} (h : (fineP c).run M s = (q, s1)) :
    Calls Try.prog 46 #[.iface T v, c.v] w fun e w' => e = .returned (.bool q) ∧ Mem w' s1 ∧ Only S w w' := by
  unfold fineP at h
  obtain ⟨⟨a, r, q'⟩, s2, h1⟩ : ∃ x s2, (nodeP c).run M s = (x, s2) := ⟨_, _, rfl⟩
  rw [Vp.run_bind_is h1, Vp.run_ret] at h
  cases h
  have hm0 := V.only0 hm ((Only.refl [] w).alloc (.cells c.arr CpT))
  have c1 := cnode_is V hm0 h1
  have HV := Lib.hid V
  clear hm hm0 h1 V
  go_enter Try.func46, Try.ntmps46
  go_wp2_with fail
  (with_reducible refine c1.mono ?_)
  clear c1
  rintro e w1 ⟨rfl, hm1, ho1⟩
  have hm2 := HV.out.only0 hm1 ((Only.refl [] w1).alloc (.cells (ndArr a r) NdT))
  have ho2 := (((Only.refl S w).alloc (.cells c.arr CpT)).trans ho1).alloc (.cells (ndArr a r) NdT)
  go_wp2_with fail
  go_ret
  exact ⟨rfl, hm2, ho2⟩
end
end Go.Proofs.Ytdkjfalhalepgaa
