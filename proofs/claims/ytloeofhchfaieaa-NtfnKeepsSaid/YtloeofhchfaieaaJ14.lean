/- What Wake, owe, settle, Block, wait, pop of package endp do (layer 15), to any view. -/
import Derived.Test.YtloeofhchfaieaaJ13
import Derived.Test.YtloeofhchfaieaaQueList
namespace Go.Proofs.Ytloeofhchfaieaa
open Go.RowKit
section
variable {σ : Type} {M : Mach σ} {T : TypeId} {v : Value} {fR fW : FuncId} {Mem : World → σ → Prop} {Ok : σ → Prop} {S R : List Nat} {w : World} {s : σ}
set_option maxRecDepth 100000 in
theorem ewk_is (V : VOk M T v fR fW Mem Ok S R) (hm : Mem w s) {t n b : Int} {s1 : σ} (hn : n ≤ 9223372036854775807) (hb : b ≤ 9223372036854775807) (h : (ewakeP t n b).run M s = ((), s1)) :
    Calls Try.prog 23 #[.iface T v, .int .i64 t, .int .i64 n, .int .i64 b] w fun e w' => e = .returned (.tuple #[]) ∧ Mem w' s1 ∧ Only S w w' := by
  unfold ewakeP at h
  obtain ⟨st, s2, h2⟩ : ∃ x s2, (fieldP t 1).run M s = (x, s2) := ⟨_, _, rfl⟩
  rw [Vp.run_bind_is h2] at h
  obtain ⟨s3, h3⟩ : ∃ s3, (if st = 4 then putP t 2 0 else .ret () : Vp Unit).run M s2 = ((), s3) := ⟨_, rfl⟩
  rw [Vp.run_bind_is h3] at h
  obtain ⟨s4, h4⟩ : ∃ s4, (putP t 1 1).run M s3 = ((), s4) := ⟨_, rfl⟩
  rw [Vp.run_bind_is h4] at h
  obtain ⟨s5, h5⟩ : ∃ s5, (eonP t 0).run M s4 = ((), s5) := ⟨_, rfl⟩
  rw [Vp.run_bind_is h5] at h
  have c := estt_is V hm h2
  have HV := Lib.hid V
  have H := Lib.hid (And.intro h4 (And.intro h5 (And.intro h (And.intro hn hb))))
  clear h h2 h4 h5 hm V hn hb
  by_cases h4 : st = 4
  · subst h4
    rw [if_pos rfl] at h3
    have H3 := Lib.hid h3
    clear h3
    go_enter Try.func23, Try.ntmps23
    go_wp2_with fail
    (with_reducible refine c.mono ?_)
    clear c
    rintro e w1 ⟨rfl, hm1, ho1⟩
    have c := put_is HV.out hm1 (by decide) H3.out
    go_wp2_with fail
    (with_reducible refine c.mono ?_)
    clear c
    rintro e w2 ⟨rfl, hm2, ho2⟩
    have c := put_is HV.out hm2 (by decide) H.out.1
    go_wp2_with fail
    (with_reducible refine c.mono ?_)
    clear c
    rintro e w3 ⟨rfl, hm3, ho3⟩
    have c := eson_is HV.out hm3 (by decide) (by decide) H.out.2.1
    have HO := Lib.hid ((ho1.trans ho2).trans ho3)
    clear hm1 ho1 hm2 ho2 hm3 ho3
    go_wp2_with fail
    (with_reducible refine c.mono ?_)
    clear c
    rintro e w4 ⟨rfl, hm4, ho4⟩
    have c := etell_is HV.out hm4 H.out.2.2.2.1 H.out.2.2.2.2 H.out.2.2.1
    go_wp2_with fail
    (with_reducible refine c.mono ?_)
    clear c
    rintro e w5 ⟨rfl, hm5, ho5⟩
    go_wp2_with fail
    go_end0
    exact ⟨rfl, hm5, (HO.out.trans ho4).trans ho5⟩
  · rw [if_neg h4] at h3
    cases h3
    go_enter Try.func23, Try.ntmps23
    go_wp2_with fail
    (with_reducible refine c.mono ?_)
    clear c
    rintro e w1 ⟨rfl, hm1, ho1⟩
    have c := put_is HV.out hm1 (by decide) H.out.1
    go_wp2_with fail
    (with_reducible refine c.mono ?_)
    clear c
    rintro e w3 ⟨rfl, hm3, ho3⟩
    have c := eson_is HV.out hm3 (by decide) (by decide) H.out.2.1
    have HO := Lib.hid (ho1.trans ho3)
    clear hm1 ho1 hm3 ho3
    go_wp2_with fail
    (with_reducible refine c.mono ?_)
    clear c
    rintro e w4 ⟨rfl, hm4, ho4⟩
    have c := etell_is HV.out hm4 H.out.2.2.2.1 H.out.2.2.2.2 H.out.2.2.1
    go_wp2_with fail
    (with_reducible refine c.mono ?_)
    clear c
    rintro e w5 ⟨rfl, hm5, ho5⟩
    go_wp2_with fail
    go_end0
    exact ⟨rfl, hm5, (HO.out.trans ho4).trans ho5⟩
set_option maxRecDepth 100000 in
theorem eblock_is (V : VOk M T v fR fW Mem Ok S R) (hm : Mem w s) {o t n : Int} {s1 : σ} (hn : n ≤ 9223372036854775807) (h : (eblockP o t n).run M s = ((), s1)) :
    Calls Try.prog 30 #[.iface T v, .int .i64 o, .int .i64 t, .int .i64 n] w fun e w' => e = .returned (.tuple #[]) ∧ Mem w' s1 ∧ Only S w w' := by
  unfold eblockP at h
  obtain ⟨qo, hqo⟩ : ∃ q, objB o 0 = q := ⟨_, rfl⟩
  obtain ⟨qt, hqt⟩ : ∃ q, objB t 0 = q := ⟨_, rfl⟩
  have cO := Lib.hid (eis_is hqo)
  have cT := Lib.hid (eis_is hqt)
  rw [hqo, hqt] at h
  cases qo with
  | false =>
    rw [if_neg (by simp), Vp.run_ret] at h
    cases h
    clear hqo hqt
    go_enter Try.func30, Try.ntmps30
    go_wp2_with ((with_reducible refine (cO.out _).mono ?_); rintro e w' ⟨rfl, rfl⟩)
    refine bodyPost_ret (results_none rfl _ _ _) rfl ?_
    exact ⟨rfl, hm, Only.refl _ _⟩
  | true =>
    cases qt with
    | false =>
      rw [if_neg (by simp), Vp.run_ret] at h
      cases h
      clear hqo hqt
      go_enter Try.func30, Try.ntmps30
      go_wp2_with ((first | (with_reducible refine (cO.out _).mono ?_) | (with_reducible refine (cT.out _).mono ?_)); rintro e w' ⟨rfl, rfl⟩)
      refine bodyPost_ret (results_none rfl _ _ _) rfl ?_
      exact ⟨rfl, hm, Only.refl _ _⟩
    | true =>
      have ho := objB_yes.1 hqo
      have ht := objB_yes.1 hqt
      rw [if_pos ⟨rfl, rfl⟩] at h
      obtain ⟨s2, h2⟩ : ∃ s2, (putP t 1 (max n 0)).run M s = ((), s2) := ⟨_, rfl⟩
      rw [Vp.run_bind_is h2] at h
      obtain ⟨s3, h3⟩ : ∃ s3, (eonP t (o + 1)).run M s2 = ((), s3) := ⟨_, rfl⟩
      rw [Vp.run_bind_is h3] at h
      obtain ⟨x, s4, h4⟩ : ∃ x s4, (qpushP o t).run M s3 = (x, s4) := ⟨_, _, rfl⟩
      rw [Vp.run_bind_is h4, Vp.run_ret] at h
      cases h
      have c := eput_is V hm rfl hn h2
      have HV := Lib.hid V
      have H := Lib.hid (And.intro h3 h4)
      clear hqo hqt h2 h3 h4 V hm
      go_enter Try.func30, Try.ntmps30
      go_wp2_with (first | ((first | (with_reducible refine (cO.out _).mono ?_) | (with_reducible refine (cT.out _).mono ?_)); rintro e w' ⟨rfl, rfl⟩))
      (with_reducible refine c.mono ?_)
      clear c cO cT
      rintro e w1 ⟨rfl, hm1, ho1⟩
      have c := eson_is HV.out hm1 (by omega) (by omega) H.out.1
      go_wp2_with fail
      (with_reducible refine c.mono ?_)
      clear c
      rintro e w2 ⟨rfl, hm2, ho2⟩
      have c := vpush_is HV.out hm2 H.out.2
      go_wp2_with fail
      (with_reducible refine c.mono ?_)
      clear c
      rintro e w3 ⟨rfl, hm3, ho3⟩
      go_wp2_with fail
      go_end0
      exact ⟨rfl, hm3, (ho1.trans ho2).trans ho3⟩
end
end Go.Proofs.Ytloeofhchfaieaa
/- What Send, Recv, Answer of package endp do (layer 15), to any view. -/
namespace Go.Proofs.Ytloeofhchfaieaa
open Go.RowKit
abbrev replyV (w b : Int) : Value := .agg #[.int .i64 0, .int .i64 w, .int .i64 b]
end Go.Proofs.Ytloeofhchfaieaa
/- What Recv of package endp does (layer 15), to any view. -/
namespace Go.Proofs.Ytloeofhchfaieaa
open Go.RowKit
section
variable {σ : Type} {M : Mach σ} {T : TypeId} {v : Value} {fR fW : FuncId} {Mem : World → σ → Prop} {Ok : σ → Prop} {S R : List Nat} {w : World} {s : σ}
theorem blk3 {g : Nat} {t : TypeId} {a b c : Value} (h : Blk w g t #[a, b, c]) : w.cell? ⟨g, 0, none⟩ = some a ∧ w.cell? ⟨g, 1, none⟩ = some b ∧ w.cell? ⟨g, 2, none⟩ = some c ∧ w.frozen? ⟨g, 0, none⟩ = false ∧ w.frozen? ⟨g, 1, none⟩ = false ∧ w.frozen? ⟨g, 2, none⟩ = false :=
  ⟨h.cell 0, h.cell 1, h.cell 2, h.frozen 0, h.frozen 1, h.frozen 2⟩
/-- the result's own block is written: of all else nothing turns -/
theorem put3 {w0 : World} (V : VOk M T v fR fW Mem Ok S R) (hm : Mem w s) (ho : Only S w0 w) {g : Nat} (hg : w0.heap.size ≤ g) (hR : g ∉ R) (a b c : Value) :
    Mem (((w.setCell ⟨g, 0, none⟩ a).setCell ⟨g, 1, none⟩ b).setCell ⟨g, 2, none⟩ c) s ∧ Only S w0 (((w.setCell ⟨g, 0, none⟩ a).setCell ⟨g, 1, none⟩ b).setCell ⟨g, 2, none⟩ c) :=
  ⟨V.put (V.put (V.put hm hR 0 a) hR 1 b) hR 2 c, ((ho.setCell (.inr hg) a).setCell (.inr hg) b).setCell (.inr hg) c⟩
end
end Go.Proofs.Ytloeofhchfaieaa
