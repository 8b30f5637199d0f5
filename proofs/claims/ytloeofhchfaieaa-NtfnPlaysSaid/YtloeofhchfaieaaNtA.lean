/- What Signal, Wait, Poll of package ntfn do (layer 16), to any view. -/
import Derived.Test.YtloeofhchfaieaaJ14
import Derived.Test.YtloeofhchfaieaaJ12
namespace Go.Proofs.Ytloeofhchfaieaa
open Go.RowKit
theorem nis_any (i : Int) (w : World) : Calls Try.prog 21 #[.int .i64 i] w fun e w' => e = .returned (.bool (objB i 0)) ∧ w' = w := by
  obtain ⟨a, ha⟩ : ∃ a, objI i 0 = a := ⟨_, rfl⟩
  obtain ⟨q, hq⟩ : ∃ q, objB i 0 = q := ⟨_, rfl⟩
  rw [hq]
  have cO := Lib.hid (obj_is ha hq)
  clear ha hq
  go_enter Try.func21, Try.ntmps21
  go_wp2_with (go_at_call 33; (with_reducible refine (cO.out _).mono ?_); rintro e w' ⟨rfl, rfl⟩)
  go_ret
  exact ⟨rfl, rfl⟩
theorem nis_is {i : Int} {q : Bool} (h : objB i 0 = q) (w : World) : Calls Try.prog 21 #[.int .i64 i] w fun e w' => e = .returned (.bool q) ∧ w' = w := h ▸ nis_any i w
section
variable {σ : Type} {M : Mach σ} {T : TypeId} {v : Value} {fR fW : FuncId} {Mem : World → σ → Prop} {Ok : σ → Prop} {S R : List Nat} {w : World} {s : σ}
set_option maxRecDepth 100000 in
theorem ntake_is (V : VOk M T v fR fW Mem Ok S R) (hm : Mem w s) {o n : Int} {s1 : σ} (h : (ntakeP o).run M s = (n, s1)) :
    Calls Try.prog 31 #[.iface T v, .int .i64 o] w fun e w' => e = .returned (replyV n 0) ∧ Mem w' s1 ∧ Only S w w' := by
  unfold ntakeP at h
  obtain ⟨x, s2, h2⟩ : ∃ x s2, (fieldP o 1).run M s = (x, s2) := ⟨_, _, rfl⟩
  rw [Vp.run_bind_is h2] at h
  obtain ⟨s3, h3⟩ : ∃ s3, (putP o 1 0).run M s2 = ((), s3) := ⟨_, rfl⟩
  rw [Vp.run_bind_is h3, Vp.run_ret] at h
  cases h
  have hr : w.heap.size ∉ R := V.fresh hm (Nat.le_refl _)
  have hs : w.heap.size ∉ S := V.freshS hm (Nat.le_refl _)
  have o0 : Only [] w (w.alloc (.cells #[.int .i64 0, .int .i64 0, .int .i64 0] 38)) := (Only.refl [] w).alloc _
  have hm0 := V.only0 hm o0
  have ho0 : Only S w (w.alloc (.cells #[.int .i64 0, .int .i64 0, .int .i64 0] 38)) := (Only.refl S w).alloc _
  have hb0 := Blk.new w 38 #[.int .i64 0, .int .i64 0, .int .i64 0]
  have HR := Lib.hid (And.intro hr hs)
  have HB := Lib.hid (And.intro hb0 ho0)
  have c := field_is V hm0 h2
  have HV := Lib.hid V
  have H3 := Lib.hid h3
  clear o0 hm hr hs hb0 ho0 hm0 V h2 h3
  go_enter Try.func31, Try.ntmps31
  go_wp2_with fail
  (with_reducible refine c.mono ?_)
  clear c
  rintro e w1 ⟨rfl, hm1, ho1⟩
  have c := put_is HV.out hm1 (by decide) H3.out
  go_wp2_with fail
  (with_reducible refine c.mono ?_)
  clear c
  rintro e w2 ⟨rfl, hm2, ho2⟩
  have ho := ho1.trans ho2
  obtain ⟨k0, k1, k2, f0, f1, f2⟩ := blk3 (ho.blk HB.out.1 HR.out.2)
  have HE := Lib.hid (put3 HV.out hm2 (HB.out.2.trans ho) (Nat.le_refl _) HR.out.1 (.int .i64 0) (.int .i64 n) (.int .i64 0))
  clear hm1 ho1 hm2 ho2 ho
  go_wp2_with fail
  refine bodyPost_ret (v := replyV n 0) (by simp [results, Try.results31, go_sem, k0, k1, k2, replyV]) rfl ⟨rfl, HE.out.1, HE.out.2⟩
set_option maxRecDepth 100000 in
theorem vnpoll_is (V : VOk M T v fR fW Mem Ok S R) (hm : Mem w s) {o n x : Int} {s1 : σ} (h : (npollP o).run M s = ((n, x), s1)) :
    Calls Try.prog 14 #[.iface T v, .int .i64 o] w fun e w' => e = .returned (.tuple #[replyV n 0, errV x]) ∧ Mem w' s1 ∧ Only S w w' := by
  unfold npollP at h
  obtain ⟨qo, hqo⟩ : ∃ q, objB o 0 = q := ⟨_, rfl⟩
  have cO := Lib.hid (nis_is hqo)
  rw [hqo] at h
  have hr : w.heap.size ∉ R := V.fresh hm (Nat.le_refl _)
  have hs : w.heap.size ∉ S := V.freshS hm (Nat.le_refl _)
  have o0 : Only [] w (w.alloc (.cells #[.int .i64 0, .int .i64 0, .int .i64 0] 38)) := (Only.refl [] w).alloc _
  have hm0 := V.only0 hm o0
  have ho0 : Only S w (w.alloc (.cells #[.int .i64 0, .int .i64 0, .int .i64 0] 38)) := (Only.refl S w).alloc _
  have hb0 := Blk.new w 38 #[.int .i64 0, .int .i64 0, .int .i64 0]
  have HR := Lib.hid (And.intro hr hs)
  clear o0 hm hr hs
  cases qo with
  | false =>
    rw [if_neg (by simp), Vp.run_ret] at h
    cases h
    clear hqo
    obtain ⟨k0, k1, k2, f0, f1, f2⟩ := blk3 hb0
    go_enter Try.func14, Try.ntmps14
    go_wp2_with ((with_reducible refine (cO.out _).mono ?_); rintro e w' ⟨rfl, rfl⟩)
    refine bodyPost_ret (v := .tuple #[replyV 0 0, errV 2]) (by simp [results, Try.results14, go_sem, k0, k1, k2, replyV, errV]) rfl ⟨rfl, hm0, ho0⟩
  | true =>
    have HB := Lib.hid (And.intro hb0 ho0)
    clear hb0 ho0
    rw [if_pos rfl] at h
    obtain ⟨y, s2, h2⟩ : ∃ r s2, (ntakeP o).run M s = (r, s2) := ⟨_, _, rfl⟩
    rw [Vp.run_bind_is h2, Vp.run_ret] at h
    cases h
    have c := ntake_is V hm0 h2
    have HV := Lib.hid V
    clear hqo h2 V hm0
    go_enter Try.func14, Try.ntmps14
    go_wp2_with (first | ((with_reducible refine (cO.out _).mono ?_); rintro e w' ⟨rfl, rfl⟩))
    (with_reducible refine c.mono ?_)
    clear c cO
    rintro e w1 ⟨rfl, hm1, ho1⟩
    obtain ⟨k0, k1, k2, f0, f1, f2⟩ := blk3 (ho1.blk HB.out.1 HR.out.2)
    have HE := Lib.hid (put3 HV.out hm1 (HB.out.2.trans ho1) (Nat.le_refl _) HR.out.1 (.int .i64 0) (.int .i64 n) (.int .i64 0))
    clear hm1 ho1
    go_wp2_with fail
    refine bodyPost_ret (v := .tuple #[replyV n 0, errV 0]) (by simp [results, Try.results14, go_sem, k0, k1, k2, replyV, errV]) rfl ⟨rfl, HE.out.1, HE.out.2⟩
set_option maxRecDepth 100000 in
theorem vnwait_is (V : VOk M T v fR fW Mem Ok S R) (hm : Mem w s) {o t n x : Int} {q : Bool} {s1 : σ} (h : (nwaitP o t).run M s = ((n, q, x), s1)) :
    Calls Try.prog 12 #[.iface T v, .int .i64 o, .int .i64 t] w fun e w' => e = .returned (.tuple #[replyV n 0, .bool q, errV x]) ∧ Mem w' s1 ∧ Only S w w' := by
  unfold nwaitP at h
  obtain ⟨qo, hqo⟩ : ∃ q, objB o 0 = q := ⟨_, rfl⟩
  obtain ⟨qt, hqt⟩ : ∃ q, objB t 0 = q := ⟨_, rfl⟩
  have cO := Lib.hid (nis_is hqo)
  have cT := Lib.hid (nis_is hqt)
  rw [hqo, hqt] at h
  have hr : w.heap.size ∉ R := V.fresh hm (Nat.le_refl _)
  have hs : w.heap.size ∉ S := V.freshS hm (Nat.le_refl _)
  have o0 : Only [] w (w.alloc (.cells #[.int .i64 0, .int .i64 0, .int .i64 0] 38)) := (Only.refl [] w).alloc _
  have hm0 := V.only0 hm o0
  have ho0 : Only S w (w.alloc (.cells #[.int .i64 0, .int .i64 0, .int .i64 0] 38)) := (Only.refl S w).alloc _
  have hb0 := Blk.new w 38 #[.int .i64 0, .int .i64 0, .int .i64 0]
  have HR := Lib.hid (And.intro hr hs)
  clear o0 hm hr hs
  cases qo with
  | false =>
    rw [if_neg (by simp), Vp.run_ret] at h
    cases h
    clear hqo hqt
    obtain ⟨k0, k1, k2, f0, f1, f2⟩ := blk3 hb0
    go_enter Try.func12, Try.ntmps12
    go_wp2_with ((with_reducible refine (cO.out _).mono ?_); rintro e w' ⟨rfl, rfl⟩)
    refine bodyPost_ret (v := .tuple #[replyV 0 0, .bool false, errV 2]) (by simp [results, Try.results12, go_sem, k0, k1, k2, replyV, errV]) rfl ⟨rfl, hm0, ho0⟩
  | true =>
    cases qt with
    | false =>
      rw [if_neg (by simp), Vp.run_ret] at h
      cases h
      clear hqo hqt
      obtain ⟨k0, k1, k2, f0, f1, f2⟩ := blk3 hb0
      go_enter Try.func12, Try.ntmps12
      go_wp2_with ((first | (with_reducible refine (cO.out _).mono ?_) | (with_reducible refine (cT.out _).mono ?_)); rintro e w' ⟨rfl, rfl⟩)
      refine bodyPost_ret (v := .tuple #[replyV 0 0, .bool false, errV 2]) (by simp [results, Try.results12, go_sem, k0, k1, k2, replyV, errV]) rfl ⟨rfl, hm0, ho0⟩
    | true =>
      have HB := Lib.hid (And.intro hb0 ho0)
      clear hb0 ho0
      rw [if_pos ⟨rfl, rfl⟩] at h
      obtain ⟨y, s2, h2⟩ : ∃ r s2, (fieldP o 1).run M s = (r, s2) := ⟨_, _, rfl⟩
      rw [Vp.run_bind_is h2] at h
      have c := field_is V hm0 h2
      have HV := Lib.hid V
      clear h2 hm0 V hqo hqt
      by_cases hy : y = 0
      · subst hy
        rw [if_pos rfl] at h
        obtain ⟨s3, h3⟩ : ∃ s3, (eblockP o t 5).run M s2 = ((), s3) := ⟨_, rfl⟩
        rw [Vp.run_bind_is h3, Vp.run_ret] at h
        cases h
        have H := Lib.hid h3
        clear h3
        go_enter Try.func12, Try.ntmps12
        go_wp2_with (first | ((first | (with_reducible refine (cO.out _).mono ?_) | (with_reducible refine (cT.out _).mono ?_)); rintro e w' ⟨rfl, rfl⟩))
        (with_reducible refine c.mono ?_)
        clear c cO cT
        rintro e w1 ⟨rfl, hm1, ho1⟩
        have c := eblock_is HV.out hm1 (by decide) H.out
        go_wp2_with fail
        (with_reducible refine c.mono ?_)
        clear c
        rintro e w2 ⟨rfl, hm2, ho2⟩
        have ho := ho1.trans ho2
        obtain ⟨k0, k1, k2, f0, f1, f2⟩ := blk3 (ho.blk HB.out.1 HR.out.2)
        have HE := Lib.hid (put3 HV.out hm2 (HB.out.2.trans ho) (Nat.le_refl _) HR.out.1 (.int .i64 0) (.int .i64 0) (.int .i64 0))
        clear hm1 ho1 hm2 ho2 ho
        go_wp2_with fail
        refine bodyPost_ret (v := .tuple #[replyV 0 0, .bool false, errV 0]) (by simp [results, Try.results12, go_sem, k0, k1, k2, replyV, errV]) rfl ⟨rfl, HE.out.1, HE.out.2⟩
      · rw [if_neg hy] at h
        obtain ⟨z, s3, h3⟩ : ∃ r s3, (ntakeP o).run M s2 = (r, s3) := ⟨_, _, rfl⟩
        rw [Vp.run_bind_is h3, Vp.run_ret] at h
        cases h
        have H := Lib.hid h3
        clear h3
        go_enter Try.func12, Try.ntmps12
        go_wp2_with (first | ((first | (with_reducible refine (cO.out _).mono ?_) | (with_reducible refine (cT.out _).mono ?_)); rintro e w' ⟨rfl, rfl⟩))
        (with_reducible refine c.mono ?_)
        clear c cO cT
        rintro e w1 ⟨rfl, hm1, ho1⟩
        have c := ntake_is HV.out hm1 H.out
        go_wp2_with fail
        (with_reducible refine c.mono ?_)
        clear c
        rintro e w2 ⟨rfl, hm2, ho2⟩
        have ho := ho1.trans ho2
        obtain ⟨k0, k1, k2, f0, f1, f2⟩ := blk3 (ho.blk HB.out.1 HR.out.2)
        have HE := Lib.hid (put3 HV.out hm2 (HB.out.2.trans ho) (Nat.le_refl _) HR.out.1 (.int .i64 0) (.int .i64 n) (.int .i64 0))
        clear hm1 ho1 hm2 ho2 ho
        go_wp2_with fail
        refine bodyPost_ret (v := .tuple #[replyV n 0, .bool true, errV 0]) (by simp [results, Try.results12, go_sem, k0, k1, k2, replyV, errV]) rfl ⟨rfl, HE.out.1, HE.out.2⟩
theorem nsig_none (V : VOk M T v fR fW Mem Ok S R) (hm : Mem w s) {o : Int} (hq : objB o 0 = false) (b : Int) :
    Calls Try.prog 9 #[.iface T v, .int .i64 o, .int .i64 b] w fun e w' => e = .returned (errV 2) ∧ Mem w' s ∧ Only S w w' := by
  have cO := Lib.hid (nis_is hq)
  clear hq
  go_enter Try.func9, Try.ntmps9
  go_wp2_with ((with_reducible refine (cO.out _).mono ?_); rintro e w' ⟨rfl, rfl⟩)
  go_ret
  exact ⟨rfl, hm, Only.refl _ _⟩
set_option maxRecDepth 100000 in
theorem vnsig_is (V : VOk M T v fR fW Mem Ok S R) (hm : Mem w s) {o b x : Int} {s1 : σ} (hb : 0 ≤ b ∧ b < 65536) (h : (nsigP o b).run M s = (x, s1)) :
    Calls Try.prog 9 #[.iface T v, .int .i64 o, .int .i64 b] w fun e w' => e = .returned (errV x) ∧ Mem w' s1 ∧ Only S w w' := by
  unfold nsigP at h
  obtain ⟨qo, hqo⟩ : ∃ q, objB o 0 = q := ⟨_, rfl⟩
  cases qo with
  | false =>
    rw [hqo, if_neg (by simp), Vp.run_ret] at h
    cases h
    exact nsig_none V hm hqo b
  | true =>
    have cO := Lib.hid (nis_is hqo)
    have hbb := bits_badge hb.1 hb.2
    rw [hqo, if_pos rfl] at h
    clear hqo
    obtain ⟨⟨t, q⟩, s2, h2⟩ : ∃ r s2, (qpopP o).run M s = (r, s2) := ⟨_, _, rfl⟩
    rw [Vp.run_bind_is h2] at h
    have c := vpop_is V hm h2
    have HV := Lib.hid V
    clear h2 hm V
    cases q with
    | true =>
      rw [if_pos rfl] at h
      obtain ⟨s3, h3⟩ : ∃ s3, (ewakeP t b 0).run M s2 = ((), s3) := ⟨_, rfl⟩
      rw [Vp.run_bind_is h3, Vp.run_ret] at h
      cases h
      have H := Lib.hid h3
      clear h3
      go_enter Try.func9, Try.ntmps9
      go_wp2_with (first | ((with_reducible refine (cO.out _).mono ?_); rintro e w' ⟨rfl, rfl⟩))
      (with_reducible refine c.mono ?_)
      clear c cO
      rintro e w1 ⟨rfl, hm1, ho1⟩
      have c := ewk_is HV.out hm1 (by omega) (by decide) H.out
      go_wp2_with fail
      (with_reducible refine c.mono ?_)
      clear c
      rintro e w2 ⟨rfl, hm2, ho2⟩
      go_wp2_with fail
      go_ret
      exact ⟨rfl, hm2, ho1.trans ho2⟩
    | false =>
      rw [if_neg (by simp)] at h
      obtain ⟨y, s3, h3⟩ : ∃ x s3, (fieldP o 1).run M s2 = (x, s3) := ⟨_, _, rfl⟩
      rw [Vp.run_bind_is h3] at h
      obtain ⟨s4, h4⟩ : ∃ s4, (putP o 1 (orI y b)).run M s3 = ((), s4) := ⟨_, rfl⟩
      rw [Vp.run_bind_is h4, Vp.run_ret] at h
      cases h
      have H := Lib.hid (And.intro h3 h4)
      clear h3 h4
      go_enter Try.func9, Try.ntmps9
      go_wp2_with (first | ((with_reducible refine (cO.out _).mono ?_); rintro e w' ⟨rfl, rfl⟩))
      (with_reducible refine c.mono ?_)
      clear c cO
      rintro e w1 ⟨rfl, hm1, ho1⟩
      have c := field_is HV.out hm1 H.out.1
      obtain ⟨y0, y1⟩ := field_in HV.out hm1 H.out.1
      have ey := bits_orI y0 (by omega) hb.1 (by omega)
      have er := orI_top y0 y1 hb.1 hb.2
      generalize orI y b = z at *
      go_wp2_with fail
      (with_reducible refine c.mono ?_)
      clear c
      rintro e w2 ⟨rfl, hm2, ho2⟩
      have c := put_is HV.out hm2 (by omega) H.out.2
      go_wp2_with fail
      (with_reducible refine c.mono ?_)
      clear c
      rintro e w3 ⟨rfl, hm3, ho3⟩
      go_wp2_with fail
      go_ret
      exact ⟨rfl, hm3, (ho1.trans ho2).trans ho3⟩
end
end Go.Proofs.Ytloeofhchfaieaa
