/- What Recv of package endp does (layer 15), to any view. -/
import Derived.Test.YtgbcgcmcfklnjaaEndC
namespace Go.Proofs.Ytgbcgcmcfklnjaa
open Go.RowKit
section
variable {σ : Type} {M : Mach σ} {T : TypeId} {v : Value} {fR fW : FuncId} {Mem : World → σ → Prop} {Ok : σ → Prop} {S R : List Nat} {w : World} {s : σ}
theorem blk3 {g : Nat} {t : TypeId} {a b c : Value} (h : Blk w g t #[a, b, c]) : w.cell? ⟨g, 0, none⟩ = some a ∧ w.cell? ⟨g, 1, none⟩ = some b ∧ w.cell? ⟨g, 2, none⟩ = some c ∧ w.frozen? ⟨g, 0, none⟩ = false ∧ w.frozen? ⟨g, 1, none⟩ = false ∧ w.frozen? ⟨g, 2, none⟩ = false :=
  ⟨h.cell 0, h.cell 1, h.cell 2, h.frozen 0, h.frozen 1, h.frozen 2⟩
/-- the result's own block is written: of all else nothing turns -/
theorem put3 {w0 : World} (V : VOk M T v fR fW Mem Ok S R) (hm : Mem w s) (ho : Only S w0 w) {g : Nat} (hg : w0.heap.size ≤ g) (hR : g ∉ R) (a b c : Value) :
    Mem (((w.setCell ⟨g, 0, none⟩ a).setCell ⟨g, 1, none⟩ b).setCell ⟨g, 2, none⟩ c) s ∧ Only S w0 (((w.setCell ⟨g, 0, none⟩ a).setCell ⟨g, 1, none⟩ b).setCell ⟨g, 2, none⟩ c) :=
  ⟨V.put (V.put (V.put hm hR 0 a) hR 1 b) hR 2 c, ((ho.setCell (.inr hg) a).setCell (.inr hg) b).setCell (.inr hg) c⟩
set_option maxRecDepth 100000 in
theorem vrecv_is (V : VOk M T v fR fW Mem Ok S R) (hm : Mem w s) {o t n b x : Int} {q : Bool} {s1 : σ} (h : (erecvP o t).run M s = ((n, b, q, x), s1)) :
    Calls Try.prog 10 #[.iface T v, .int .i64 o, .int .i64 t] w fun e w' => e = .returned (.tuple #[replyV n b, .bool q, errV x]) ∧ Mem w' s1 ∧ Only S w w' := by
  unfold erecvP at h
  obtain ⟨qo, hqo⟩ : ∃ q, objB o 0 = q := ⟨_, rfl⟩
  obtain ⟨qt, hqt⟩ : ∃ q, objB t 0 = q := ⟨_, rfl⟩
  have cO := Lib.hid (eis_is hqo)
  have cT := Lib.hid (eis_is hqt)
  rw [hqo, hqt] at h
  have hr : w.heap.size ∉ R := V.fresh hm (Nat.le_refl _)
  have hs : w.heap.size ∉ S := V.freshS hm (Nat.le_refl _)
  have o0 : Only [] w (w.alloc (.cells #[.int .i64 0, .int .i64 0, .int .i64 0] 41)) := (Only.refl [] w).alloc _
  have hm0 := V.only0 hm o0
  have ho0 : Only S w (w.alloc (.cells #[.int .i64 0, .int .i64 0, .int .i64 0] 41)) := (Only.refl S w).alloc _
  have hb0 := Blk.new w 41 #[.int .i64 0, .int .i64 0, .int .i64 0]
  have HR := Lib.hid (And.intro hr hs)
  clear o0 hm hr hs
  cases qo with
  | false =>
    rw [if_neg (by simp), Vp.run_ret] at h
    cases h
    clear hqo hqt
    obtain ⟨k0, k1, k2, f0, f1, f2⟩ := blk3 hb0
    go_enter Try.func10, Try.ntmps10
    go_wp2_with ((with_reducible refine (cO.out _).mono ?_); rintro e w' ⟨rfl, rfl⟩)
    refine bodyPost_ret (v := .tuple #[replyV 0 0, .bool false, errV 2]) (by simp [results, Try.results10, go_sem, k0, k1, k2, replyV, errV]) rfl ⟨rfl, hm0, ho0⟩
  | true =>
    cases qt with
    | false =>
      rw [if_neg (by simp), Vp.run_ret] at h
      cases h
      clear hqo hqt
      obtain ⟨k0, k1, k2, f0, f1, f2⟩ := blk3 hb0
      go_enter Try.func10, Try.ntmps10
      go_wp2_with ((first | (with_reducible refine (cO.out _).mono ?_) | (with_reducible refine (cT.out _).mono ?_)); rintro e w' ⟨rfl, rfl⟩)
      refine bodyPost_ret (v := .tuple #[replyV 0 0, .bool false, errV 2]) (by simp [results, Try.results10, go_sem, k0, k1, k2, replyV, errV]) rfl ⟨rfl, hm0, ho0⟩
    | true =>
      have HB := Lib.hid (And.intro hb0 ho0)
      clear hb0 ho0
      have ho := objB_yes.1 hqo
      have ht := objB_yes.1 hqt
      rw [if_pos ⟨rfl, rfl⟩] at h
      obtain ⟨⟨r, p⟩, s2, h2⟩ : ∃ r s2, (refP t 6).run M s = (r, s2) := ⟨_, _, rfl⟩
      rw [Vp.run_bind_is h2] at h
      have c := ref_is V hm0 h2
      have HV := Lib.hid V
      cases p with
      | true =>
        rw [if_pos rfl, Vp.run_ret] at h
        cases h
        clear hqo hqt h2 V hm0
        go_enter Try.func10, Try.ntmps10
        go_wp2_with (first | ((first | (with_reducible refine (cO.out _).mono ?_) | (with_reducible refine (cT.out _).mono ?_)); rintro e w' ⟨rfl, rfl⟩))
        (with_reducible refine c.mono ?_)
        clear c cO cT
        rintro e w1 ⟨rfl, hm1, ho1⟩
        obtain ⟨k0, k1, k2, f0, f1, f2⟩ := blk3 (ho1.blk HB.out.1 HR.out.2)
        have HE := Lib.hid (put3 HV.out hm1 (HB.out.2.trans ho1) (Nat.le_refl _) HR.out.1 (.int .i64 0) (.int .i64 0) (.int .i64 0))
        clear hm1 ho1
        go_wp2_with fail
        refine bodyPost_ret (v := .tuple #[replyV 0 0, .bool false, errV 10]) (by simp [results, Try.results10, go_sem, k0, k1, k2, replyV, errV]) rfl ⟨rfl, HE.out.1, HE.out.2⟩
      | false =>
        rw [if_neg (by simp)] at h
        obtain ⟨⟨y, p⟩, s3, h3⟩ : ∃ r s3, (epopP o 1).run M s2 = (r, s3) := ⟨_, _, rfl⟩
        rw [Vp.run_bind_is h3] at h
        cases p with
        | false =>
          rw [if_neg (by simp)] at h
          obtain ⟨s4, h4⟩ : ∃ s4, (ewaitP o t 3).run M s3 = ((), s4) := ⟨_, rfl⟩
          rw [Vp.run_bind_is h4, Vp.run_ret] at h
          cases h
          have H := Lib.hid (And.intro h3 h4)
          clear hqo hqt h2 h3 h4 V hm0
          go_enter Try.func10, Try.ntmps10
          go_wp2_with (first | ((first | (with_reducible refine (cO.out _).mono ?_) | (with_reducible refine (cT.out _).mono ?_)); rintro e w' ⟨rfl, rfl⟩))
          (with_reducible refine c.mono ?_)
          clear c cO cT
          rintro e w1 ⟨rfl, hm1, ho1⟩
          have c := epop_is HV.out hm1 H.out.1
          go_wp2_with fail
          (with_reducible refine c.mono ?_)
          clear c
          rintro e w2 ⟨rfl, hm2, ho2⟩
          have c := ewait_is HV.out hm2 (by decide) H.out.2
          go_wp2_with fail
          (with_reducible refine c.mono ?_)
          clear c
          rintro e w3 ⟨rfl, hm3, ho3⟩
          have ho := (ho1.trans ho2).trans ho3
          obtain ⟨k0, k1, k2, f0, f1, f2⟩ := blk3 (ho.blk HB.out.1 HR.out.2)
          have HE := Lib.hid (put3 HV.out hm3 (HB.out.2.trans ho) (Nat.le_refl _) HR.out.1 (.int .i64 0) (.int .i64 0) (.int .i64 0))
          clear hm1 ho1 hm2 ho2 hm3 ho3 ho
          go_wp2_with fail
          refine bodyPost_ret (v := .tuple #[replyV 0 0, .bool false, errV 0]) (by simp [results, Try.results10, go_sem, k0, k1, k2, replyV, errV]) rfl ⟨rfl, HE.out.1, HE.out.2⟩
        | true =>
          have hy := epop_in h3
          rw [if_pos rfl] at h
          obtain ⟨a, s4, h4⟩ : ∃ a s4, (fieldP y 3).run M s3 = (a, s4) := ⟨_, _, rfl⟩
          rw [Vp.run_bind_is h4] at h
          obtain ⟨d, s5, h5⟩ : ∃ a s5, (fieldP y 4).run M s4 = (a, s5) := ⟨_, _, rfl⟩
          rw [Vp.run_bind_is h5] at h
          obtain ⟨m, s6, h6⟩ : ∃ a s6, (fieldP y 1).run M s5 = (a, s6) := ⟨_, _, rfl⟩
          rw [Vp.run_bind_is h6] at h
          obtain ⟨s7, h7⟩ : ∃ s7, (etookP t y m).run M s6 = ((), s7) := ⟨_, rfl⟩
          rw [Vp.run_bind_is h7, Vp.run_ret] at h
          cases h
          have H := Lib.hid (And.intro h3 (And.intro h4 (And.intro h5 (And.intro h6 h7))))
          clear hqo hqt h2 h3 h4 h5 h6 h7 V hm0
          go_enter Try.func10, Try.ntmps10
          go_wp2_with (first | ((first | (with_reducible refine (cO.out _).mono ?_) | (with_reducible refine (cT.out _).mono ?_)); rintro e w' ⟨rfl, rfl⟩))
          (with_reducible refine c.mono ?_)
          clear c cO cT
          rintro e w1 ⟨rfl, hm1, ho1⟩
          have c := epop_is HV.out hm1 H.out.1
          go_wp2_with fail
          (with_reducible refine c.mono ?_)
          clear c
          rintro e w2 ⟨rfl, hm2, ho2⟩
          have c := field_is HV.out hm2 H.out.2.1
          go_wp2_with fail
          (with_reducible refine c.mono ?_)
          clear c
          rintro e w3 ⟨rfl, hm3, ho3⟩
          have c := field_is HV.out hm3 H.out.2.2.1
          go_wp2_with fail
          (with_reducible refine c.mono ?_)
          clear c
          rintro e w4 ⟨rfl, hm4, ho4⟩
          have ho := ((ho1.trans ho2).trans ho3).trans ho4
          have hsz := HB.out.2.size
          have hb4 := (ho.blk HB.out.1 HR.out.2)
          have hR4 : w4.heap.size ∉ R := HV.out.fresh hm4 (Nat.le_refl _)
          have hS4 : w4.heap.size ∉ S := HV.out.freshS hm4 (Nat.le_refl _)
          have HX := Lib.hid (And.intro hb4 (And.intro (HB.out.2.trans ho) (And.intro hm4 (And.intro hR4 hS4))))
          clear hm1 ho1 hm2 ho2 hm3 ho3 hm4 ho4 ho hsz hb4 hR4 hS4
          go_upto_region 11 with fail
          have hb5 := HX.out.1.alloc (.cells #[.int .i64 0, .int .i64 n, .int .i64 b] 41)
          have hb6 := Blk.new w4 41 #[.int .i64 0, .int .i64 n, .int .i64 b]
          have hm5 := HV.out.only0 HX.out.2.2.1 ((Only.refl [] w4).alloc (.cells #[.int .i64 0, .int .i64 n, .int .i64 b] 41))
          have ho5 := HX.out.2.1.alloc (.cells #[.int .i64 0, .int .i64 n, .int .i64 b] 41)
          have hx := HX.out.2.2.2
          clear HX HB
          generalize w4.alloc (.cells #[.int .i64 0, .int .i64 n, .int .i64 b] 41) = w5 at *
          generalize w4.heap.size = g2 at *
          have HX := Lib.hid (And.intro hb5 (And.intro hb6 (And.intro ho5 hx)))
          have c := estt_is HV.out hm5 H.out.2.2.2.1
          clear hb5 hb6 hm5 ho5 hx
          go_upto_region 12 with fail
          (with_reducible refine c.mono ?_)
          clear c
          rintro e w6 ⟨rfl, hm6, ho6⟩
          obtain ⟨-, -, -, -, h7⟩ := H.out
          unfold etookP at h7
          by_cases m2 : m = 2
          · rw [if_pos m2] at h7
            subst m2
            have c := ewk_is HV.out hm6 (by decide) (by decide) h7
            clear h7 H
            go_wp2_with fail
            (with_reducible refine c.mono ?_)
            clear c
            rintro e w7 ⟨rfl, hmX, ho7⟩
            have ho := ho6.trans ho7
            clear hm6 ho6 ho7
            obtain ⟨k0, k1, k2, f0, f1, f2⟩ := blk3 (ho.blk HX.out.1 HR.out.2)
            obtain ⟨l0, l1, l2, -, -, -⟩ := blk3 (ho.blk HX.out.2.1 HX.out.2.2.2.2)
            have HE := Lib.hid (put3 HV.out hmX (HX.out.2.2.1.trans ho) (Nat.le_refl _) HR.out.1 (.int .i64 0) (.int .i64 n) (.int .i64 b))
            clear hmX ho
            go_wp2_with fail
            refine bodyPost_ret (v := .tuple #[replyV n b, .bool true, errV 0]) (by simp [results, Try.results10, go_sem, k0, k1, k2, replyV, errV]) rfl ⟨rfl, HE.out.1, HE.out.2⟩
          rw [if_neg m2] at h7
          by_cases m6 : m = 6
          · rw [if_pos m6] at h7
            subst m6
            obtain ⟨s8, h8⟩ : ∃ s8, (eonP y 0).run M s6 = ((), s8) := ⟨_, rfl⟩
            rw [Vp.run_bind_is h8] at h7
            have c := eson_is HV.out hm6 (by decide) (by decide) h8
            have H7 := Lib.hid h7
            clear h7 H h8 m2
            go_wp2_with fail
            (with_reducible refine c.mono ?_)
            clear c
            rintro e w7 ⟨rfl, hm7, ho7⟩
            have c := eowe_is HV.out hm7 (by omega) (by omega) (by omega) (by omega) H7.out
            go_wp2_with fail
            (with_reducible refine c.mono ?_)
            clear c
            rintro e w8 ⟨rfl, hmX, ho8⟩
            have ho := (ho6.trans ho7).trans ho8
            clear hm6 ho6 hm7 ho7 ho8
            obtain ⟨k0, k1, k2, f0, f1, f2⟩ := blk3 (ho.blk HX.out.1 HR.out.2)
            obtain ⟨l0, l1, l2, -, -, -⟩ := blk3 (ho.blk HX.out.2.1 HX.out.2.2.2.2)
            have HE := Lib.hid (put3 HV.out hmX (HX.out.2.2.1.trans ho) (Nat.le_refl _) HR.out.1 (.int .i64 0) (.int .i64 n) (.int .i64 b))
            clear hmX ho
            go_wp2_with fail
            refine bodyPost_ret (v := .tuple #[replyV n b, .bool true, errV 0]) (by simp [results, Try.results10, go_sem, k0, k1, k2, replyV, errV]) rfl ⟨rfl, HE.out.1, HE.out.2⟩
          rw [if_neg m6] at h7
          cases h7
          have hmX := hm6
          have ho := ho6
          clear hm6 ho6 H
          obtain ⟨k0, k1, k2, f0, f1, f2⟩ := blk3 (ho.blk HX.out.1 HR.out.2)
          obtain ⟨l0, l1, l2, -, -, -⟩ := blk3 (ho.blk HX.out.2.1 HX.out.2.2.2.2)
          have HE := Lib.hid (put3 HV.out hmX (HX.out.2.2.1.trans ho) (Nat.le_refl _) HR.out.1 (.int .i64 0) (.int .i64 n) (.int .i64 b))
          clear hmX ho
          go_wp2_with fail
          refine bodyPost_ret (v := .tuple #[replyV n b, .bool true, errV 0]) (by simp [results, Try.results10, go_sem, k0, k1, k2, replyV, errV]) rfl ⟨rfl, HE.out.1, HE.out.2⟩
end
end Go.Proofs.Ytgbcgcmcfklnjaa
