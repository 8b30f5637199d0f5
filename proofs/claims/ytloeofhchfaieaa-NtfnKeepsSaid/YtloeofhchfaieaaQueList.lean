/- What List, Pop, Remove, Push of package queue do (layer 14), to any view. -/
import Derived.Test.YtloeofhchfaieaaQueWay
import Derived.Test.YtloeofhchfaieaaJ1
namespace Go.Proofs.Ytloeofhchfaieaa
open Go.RowKit
section
variable {σ : Type} {M : Mach σ} {T : TypeId} {v : Value} {fR fW : FuncId} {Mem : World → σ → Prop} {Ok : σ → Prop} {S R : List Nat} {w : World} {s : σ}
theorem ref_in {o f y : Int} {s1 : σ} (h : (refP o f).run M s = ((y, true), s1)) : 0 ≤ o ∧ o < 32 := by
  unfold refP fieldP at h
  by_cases hb : objB o f = true
  · have := objB_yes.1 hb
    omega
  · rw [if_neg hb] at h
    have h : (if belowB ((0 : Int) - 1) 32 = true then ((0 : Int) - 1, true) else (0, false)) = (y, true) := congrArg Prod.fst h
    rw [if_neg (by decide)] at h
    cases h
/-- all that way tells are objects; so is the first, if any is behind it -/
theorem way_in : ∀ {n : Nat} {o : Int} {s s1 : σ} {L : List Int}, (qwayF n o).run M s = (L, s1) → ∀ p b, L = p ++ b → b ≠ [] → 0 ≤ lst o p ∧ lst o p < 32 := by
  intro n
  induction n with
  | zero =>
    intro o s s1 L h p b hL hb
    cases h
    exact absurd (List.append_eq_nil_iff.1 hL.symm).2 hb
  | succ n ih =>
    intro o s s1 L h p b hL hb
    obtain ⟨⟨x, c⟩, s2, h2⟩ : ∃ r s2, (refP o 2).run M s = (r, s2) := ⟨_, _, rfl⟩
    cases c with
    | false =>
      rw [qwayF_none h2] at h
      cases h
      exact absurd (List.append_eq_nil_iff.1 hL.symm).2 hb
    | true =>
      obtain ⟨l, s3, h3⟩ : ∃ l s3, (qwayF n x).run M s2 = (l, s3) := ⟨_, _, rfl⟩
      rw [qwayF_more h2 h3] at h
      cases h
      cases p with
      | nil => exact ref_in h2
      | cons y p =>
        injection hL with e1 e2
        subst e1
        exact ih h3 p b e2 hb
set_option maxRecDepth 100000 in
theorem vpop_is (V : VOk M T v fR fW Mem Ok S R) (hm : Mem w s) {o x : Int} {b : Bool} {s1 : σ} (h : (qpopP o).run M s = ((x, b), s1)) :
    Calls Try.prog 22 #[.iface T v, .int .i64 o] w fun e w' => e = .returned (.tuple #[.int .i64 x, .bool b]) ∧ Mem w' s1 ∧ Only S w w' := by
  obtain ⟨⟨y, b2⟩, s2, h2⟩ : ∃ r s2, (refP o 2).run M s = (r, s2) := ⟨_, _, rfl⟩
  unfold qpopP at h
  rw [Vp.run_bind_is h2] at h
  have c := ref_is V hm h2
  cases b2 with
  | false =>
    rw [if_neg (by simp), Vp.run_ret] at h
    cases h
    clear hm h2
    go_enter Try.func22, Try.ntmps22
    go_wp2_with ((with_reducible refine c.mono ?_); clear c; rintro e w1 ⟨rfl, hm1, ho1⟩)
    go_ret2
    exact ⟨rfl, hm1, ho1⟩
  | true =>
    obtain ⟨s3, h3⟩ : ∃ s3, (qleaveP o o y).run M s2 = ((), s3) := ⟨_, rfl⟩
    rw [if_pos rfl, Vp.run_bind_is h3, Vp.run_ret] at h
    cases h
    have ho := ref_in h2
    have HV := Lib.hid V
    have H3 := Lib.hid h3
    clear hm h2 h3 V
    go_enter Try.func22, Try.ntmps22
    go_wp2_with fail
    (with_reducible refine c.mono ?_)
    clear c
    rintro e w1 ⟨rfl, hm1, ho1⟩
    have c2 := qleave_is HV.out hm1 ho.1 (by omega) H3.out
    clear hm1
    go_wp2_with fail
    (with_reducible refine c2.mono ?_)
    clear c2
    rintro e w2 ⟨rfl, hm2, ho2⟩
    go_wp2_with fail
    go_ret2
    exact ⟨rfl, hm2, ho1.trans ho2⟩
set_option maxRecDepth 100000 in
theorem vremove_is (V : VOk M T v fR fW Mem Ok S R) (hm : Mem w s) {o t : Int} {b : Bool} {s1 : σ} (h : (qremP o t).run M s = (b, s1)) :
    Calls Try.prog 44 #[.iface T v, .int .i64 o, .int .i64 t] w fun e w' => e = .returned (.bool b) ∧ Mem w' s1 ∧ Only S w w' := by
  obtain ⟨L, s2, h2⟩ : ∃ r s2, (qwayF 32 o).run M s = (r, s2) := ⟨_, _, rfl⟩
  unfold qremP at h
  rw [Vp.run_bind_is h2] at h
  have hlen := qwayF_len (M := M) 32 o s
  rw [h2] at hlen
  have hlen : L.length ≤ 32 := hlen
  have hin := way_in h2
  have c := way_is V hm h2
  have HV := Lib.hid V
  have H := Lib.hid (And.intro h hin)
  clear hm h2 h V hin
  go_enter Try.func44, Try.ntmps44
  go_wp2_with fail
  (with_reducible refine c.mono ?_)
  clear c
  rintro e w1 ⟨u, rfl, hown, hm1, ho1⟩
  obtain ⟨g, cp, rfl, hcl, hb, hg, hc⟩ := way_cells hown
  have HR := Lib.hid (And.intro hc (And.intro hm1 ho1))
  clear hown hm1 ho1 hb
  have hcp : (cp = 1 ∧ L = []) ∨ ¬ cp = 1 := by
    by_cases e : cp = 1
    · exact .inl ⟨e, List.eq_nil_of_length_eq_zero (by omega)⟩
    · exact .inr e
  rcases hcp with ⟨rfl, rfl⟩ | hcp
  · have ci := index_is w1 (some ⟨g, 0, none⟩) [] 0 t (by simp) (fun k x hx => by simp at hx)
    rw [List.length_nil] at ci
    obtain ⟨h, -⟩ := H.out
    cases h
    clear hc hcl
    go_wp2_with fail
    (with_reducible refine ci.mono ?_)
    clear ci
    rintro e w2 ⟨z, rfl, hw, hz⟩
    subst hw
    obtain rfl : z = -1 := by
      rcases hz with ⟨hz, -⟩ | ⟨p, b, e, -⟩
      · exact hz
      · simp at e
    clear hz
    go_wp2_with fail
    go_ret
    exact ⟨rfl, HR.out.2⟩
  · have ci := index_is w1 (some ⟨g, 1, none⟩) L (cp - 1) t (by omega) (fun k x hx => ⟨g, 1, rfl, hg, by rw [Nat.add_comm]; exact hc (k + 1) x hx⟩)
    clear hc
    go_wp2_with fail
    (with_reducible refine ci.mono ?_)
    clear ci
    rintro e w2 ⟨z, rfl, hw, hz⟩
    subst hw
    rcases hz with ⟨rfl, hz⟩ | ⟨p, b2, hL, htp, rfl⟩
    · obtain ⟨h, -⟩ := H.out
      rw [splQ_none.2 hz] at h
      cases h
      go_wp2_with fail
      go_ret
      exact ⟨rfl, HR.out.2⟩
    · obtain ⟨h, hin⟩ := H.out
      rw [hL, splQ_app htp] at h
      have hl := hin p (t :: b2) hL (by simp)
      obtain ⟨s3, h3⟩ : ∃ s3, (qleaveP o (lst o p) t).run M s2 = ((), s3) := ⟨_, rfl⟩
      have h : ((qleaveP o (lst o p) t).bind fun _ => .ret true).run M s2 = (b, s1) := h
      rw [Vp.run_bind_is h3, Vp.run_ret] at h
      cases h
      have c2 := qleave_is HV.out HR.out.2.1 hl.1 (by omega) h3
      have hcell := HR.out.1 p.length (lst o p) (by rw [hL]; exact lst_get p o (t :: b2))
      have hpl : p.length < L.length := by rw [hL]; simp
      have hp0 : ¬ (p.length : Int) < 0 := by omega
      have hp1 : (0 : Int) ≤ (p.length : Int) := by omega
      have hp2 : (p.length : Int) < (L.length : Int) + 1 := by omega
      clear h3
      go_wp2_with fail
      (with_reducible refine c2.mono ?_)
      clear c2
      rintro e w3 ⟨rfl, hm3, ho3⟩
      go_wp2_with fail
      go_ret
      exact ⟨rfl, hm3, HR.out.2.2.trans ho3⟩
set_option maxRecDepth 100000 in
theorem vpush_is (V : VOk M T v fR fW Mem Ok S R) (hm : Mem w s) {o t n : Int} {s1 : σ} (h : (qpushP o t).run M s = (n, s1)) :
    Calls Try.prog 40 #[.iface T v, .int .i64 o, .int .i64 t] w fun e w' => e = .returned (errV n) ∧ Mem w' s1 ∧ Only S w w' := by
  unfold qpushP at h
  obtain ⟨qo, hqo⟩ : ∃ q, objB o 0 = q := ⟨_, rfl⟩
  obtain ⟨qt, hqt⟩ : ∃ q, objB t 0 = q := ⟨_, rfl⟩
  have cO := Lib.hid (qis_is hqo)
  have cT := Lib.hid (qis_is hqt)
  rw [hqo, hqt] at h
  cases qo with
  | false =>
    rw [if_neg (by simp), Vp.run_ret] at h
    cases h
    clear hqo hqt
    go_enter Try.func40, Try.ntmps40
    go_wp2_with ((with_reducible refine (cO.out _).mono ?_); rintro e w' ⟨rfl, rfl⟩)
    go_ret
    exact ⟨rfl, hm, Only.refl _ _⟩
  | true =>
    cases qt with
    | false =>
      rw [if_neg (by simp), Vp.run_ret] at h
      cases h
      clear hqo hqt
      go_enter Try.func40, Try.ntmps40
      go_wp2_with ((first | (with_reducible refine (cO.out _).mono ?_) | (with_reducible refine (cT.out _).mono ?_)); rintro e w' ⟨rfl, rfl⟩)
      go_ret
      exact ⟨rfl, hm, Only.refl _ _⟩
    | true =>
      have ho := objB_yes.1 hqo
      have ht := objB_yes.1 hqt
      rw [if_pos ⟨rfl, rfl⟩] at h
      obtain ⟨b, s2, h2⟩ : ∃ b s2, (qremP o t).run M s = (b, s2) := ⟨_, _, rfl⟩
      rw [Vp.run_bind_is h2] at h
      obtain ⟨L, s3, h3⟩ : ∃ r s3, (qwayF 32 o).run M s2 = (r, s3) := ⟨_, _, rfl⟩
      rw [Vp.run_bind_is h3] at h
      obtain ⟨s4, h4⟩ : ∃ s4, (putP (lst o L) 2 (t + 1)).run M s3 = ((), s4) := ⟨_, rfl⟩
      rw [Vp.run_bind_is h4] at h
      obtain ⟨s5, h5⟩ : ∃ s5, (putP o 3 (t + 1)).run M s4 = ((), s5) := ⟨_, rfl⟩
      rw [Vp.run_bind_is h5] at h
      have hlen := qwayF_len (M := M) 32 o s2
      rw [h3] at hlen
      have hlen : L.length ≤ 32 := hlen
      have c1 := vremove_is V hm h2
      have HV := Lib.hid V
      have H := Lib.hid (And.intro h3 (And.intro h4 (And.intro h5 h)))
      clear hqo hqt h2 h3 h4 h5 h V hm
      go_enter Try.func40, Try.ntmps40
      go_wp2_with (first | ((first | (with_reducible refine (cO.out _).mono ?_) | (with_reducible refine (cT.out _).mono ?_)); rintro e w' ⟨rfl, rfl⟩))
      (with_reducible refine c1.mono ?_)
      clear c1 cO cT
      rintro e w1 ⟨rfl, hm1, ho1⟩
      have c2 := way_is HV.out hm1 H.out.1
      clear hm1
      go_wp2_with fail
      (with_reducible refine c2.mono ?_)
      clear c2
      rintro e w2 ⟨u, rfl, hown, hm2, ho2⟩
      obtain ⟨g, cp, rfl, hcl, hb, hg, hc⟩ := way_cells hown
      have hcell := hc L.length (lst o L) (by have := lst_get L o []; rwa [List.append_nil] at this)
      have c3 := put_is HV.out hm2 (by omega) H.out.2.1
      have HO := Lib.hid (ho1.trans ho2)
      have hx1 : ((L.length + 1 : Nat) : Int) - 1 = (L.length : Int) := by omega
      have hx2 : ((L.length : Int) + 1) - 1 = (L.length : Int) := by omega
      have hx3 : (0 : Int) ≤ (L.length : Int) := by omega
      have hx4 : (L.length : Int) < (L.length : Int) + 1 := by omega
      clear hown hc hb hm2 ho1 ho2
      go_wp2_with fail
      (with_reducible refine c3.mono ?_)
      clear c3
      rintro e w3 ⟨rfl, hm3, ho3⟩
      have c4 := put_is HV.out hm3 (by omega) H.out.2.2.1
      have HO3 := Lib.hid (HO.out.trans ho3)
      clear hm3 ho3
      go_wp2_with fail
      (with_reducible refine c4.mono ?_)
      clear c4
      rintro e w4 ⟨rfl, hm4, ho4⟩
      have HO4 := Lib.hid (And.intro hm4 (HO3.out.trans ho4))
      clear hm4 ho4
      obtain ⟨-, -, -, h⟩ := H.out
      by_cases hto : t = o
      · rw [if_pos hto] at h
        cases h
        subst hto
        go_wp2_with fail
        go_ret
        exact ⟨rfl, HO4.out⟩
      · rw [if_neg hto] at h
        obtain ⟨s6, h6⟩ : ∃ s6, (putP t 2 0).run M s5 = ((), s6) := ⟨_, rfl⟩
        rw [Vp.run_bind_is h6] at h
        cases h
        have c5 := put_is HV.out HO4.out.1 (by omega) h6
        clear h6
        go_wp2_with fail
        (with_reducible refine c5.mono ?_)
        clear c5
        rintro e w5 ⟨rfl, hm5, ho5⟩
        go_wp2_with fail
        go_ret
        exact ⟨rfl, hm5, HO4.out.2.trans ho5⟩
end
end Go.Proofs.Ytloeofhchfaieaa
