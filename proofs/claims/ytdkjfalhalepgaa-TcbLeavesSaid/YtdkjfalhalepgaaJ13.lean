/- An error by its number. -/
import Derived.Test.YtdkjfalhalepgaaRows
import Derived.WalkKit
import Derived.Test.YtdkjfalhalepgaaQueWay
import Derived.Test.YtdkjfalhalepgaaJ12
namespace Go.Proofs.Ytdkjfalhalepgaa
open Go.RowKit
/-- an error of that number; 0: none -/
def errV (n : Int) : Value := if n = 0 then .nilIface else .iface 70 (.int .i64 n)
theorem errV_nil : errV 0 = .nilIface := rfl
end Go.Proofs.Ytdkjfalhalepgaa
/- What List, Pop, Remove, Push of package queue do (layer 14), to any view. -/
namespace Go.Proofs.Ytdkjfalhalepgaa
open Go.RowKit
section
variable {σ : Type} {M : Mach σ} {T : TypeId} {v : Value} {fR fW : FuncId} {Mem : World → σ → Prop} {Ok : σ → Prop} {S R : List Nat} {w : World} {s : σ}
theorem ref_in {o f y : Int} {s1 : σ} (h : (refP o f).run M s = ((y, true), s1)) : 0 ≤ o ∧ o < 32 := by
  unfold refP fieldP at h
  by_cases hb : objB o f = true
  · have := objB_yes.1 hb
    omega
  · rw [if_neg hb] at h
    have h : (if belowB ((0 : Int) - 1) 32 = true then ((0 : Int) - 1, true) else (0, false)) = (y, true) := congrArg Prod.fst h
    rw [if_neg (by decide)] at h
    cases h
/-- all that way tells are objects; so is the first, if any is behind it -/
theorem way_in : ∀ {n : Nat} {o : Int} {s s1 : σ} {L : List Int}, (qwayF n o).run M s = (L, s1) → ∀ p b, L = p ++ b → b ≠ [] → 0 ≤ lst o p ∧ lst o p < 32 := by
  intro n
  induction n with
  | zero =>
    intro o s s1 L h p b hL hb
    cases h
    exact absurd (List.append_eq_nil_iff.1 hL.symm).2 hb
  | succ n ih =>
    intro o s s1 L h p b hL hb
    obtain ⟨⟨x, c⟩, s2, h2⟩ : ∃ r s2, (refP o 2).run M s = (r, s2) := ⟨_, _, rfl⟩
    cases c with
    | false =>
      rw [qwayF_none h2] at h
      cases h
      exact absurd (List.append_eq_nil_iff.1 hL.symm).2 hb
    | true =>
      obtain ⟨l, s3, h3⟩ : ∃ l s3, (qwayF n x).run M s2 = (l, s3) := ⟨_, _, rfl⟩
      rw [qwayF_more h2 h3] at h
      cases h
      cases p with
      | nil => exact ref_in h2
      | cons y p =>
        injection hL with e1 e2
        subst e1
        exact ih h3 p b e2 hb
set_option maxRecDepth 100000 in
theorem vlist_is (V : VOk M T v fR fW Mem Ok S R) (hm : Mem w s) {o : Int} {L : List Int} {s1 : σ} (h : (qwayF 32 o).run M s = (L, s1)) :
    Calls Try.prog 31 #[.iface T v, .int .i64 o] w fun e w' => ∃ u, e = .returned u ∧ MadeW w' w.heap.size u L ∧ Mem w' s1 ∧ Only S w w' := by
  have c := way_is V hm h
  clear h hm
  go_enter Try.func31, Try.ntmps31
  go_wp2_with fail
  (with_reducible refine c.mono ?_)
  clear c
  rintro e w1 ⟨u, rfl, hown, hm1, ho1⟩
  obtain ⟨g, cp, rfl, hcl, hb, hg, hc⟩ := way_cells hown
  have HR := Lib.hid (And.intro hc (And.intro hb (And.intro hm1 ho1)))
  clear hown hc hb hm1 ho1
  by_cases hcp : cp = 1
  · obtain rfl : L = [] := List.eq_nil_of_length_eq_zero (by omega)
    subst hcp
    go_wp2_with fail
    go_ret
    exact ⟨_, rfl, ⟨_, _, rfl, fun k x hx => by simp at hx⟩, HR.out.2.2⟩
  · go_wp2_with fail
    go_ret
    exact ⟨_, rfl, ⟨_, _, rfl, fun k x hx => ⟨g, 1, rfl, HR.out.2.1, hg, by rw [Nat.add_comm]; exact HR.out.1 (k + 1) x hx⟩⟩, HR.out.2.2⟩
set_option maxRecDepth 100000 in
theorem vpop_is (V : VOk M T v fR fW Mem Ok S R) (hm : Mem w s) {o x : Int} {b : Bool} {s1 : σ} (h : (qpopP o).run M s = ((x, b), s1)) :
    Calls Try.prog 75 #[.iface T v, .int .i64 o] w fun e w' => e = .returned (.tuple #[.int .i64 x, .bool b]) ∧ Mem w' s1 ∧ Only S w w' := by
  obtain ⟨⟨y, b2⟩, s2, h2⟩ : ∃ r s2, (refP o 2).run M s = (r, s2) := ⟨_, _, rfl⟩
  unfold qpopP at h
  rw [Vp.run_bind_is h2] at h
  have c := ref_is V hm h2
  cases b2 with
  | false =>
    rw [if_neg (by simp), Vp.run_ret] at h
    cases h
    clear hm h2
    go_enter Try.func75, Try.ntmps75
    go_wp2_with ((with_reducible refine c.mono ?_); clear c; rintro e w1 ⟨rfl, hm1, ho1⟩)
    go_ret2
    exact ⟨rfl, hm1, ho1⟩
  | true =>
    obtain ⟨s3, h3⟩ : ∃ s3, (qleaveP o o y).run M s2 = ((), s3) := ⟨_, rfl⟩
    rw [if_pos rfl, Vp.run_bind_is h3, Vp.run_ret] at h
    cases h
    have ho := ref_in h2
    have HV := Lib.hid V
    have H3 := Lib.hid h3
    clear hm h2 h3 V
    go_enter Try.func75, Try.ntmps75
    go_wp2_with fail
    (with_reducible refine c.mono ?_)
    clear c
    rintro e w1 ⟨rfl, hm1, ho1⟩
    have c2 := qleave_is HV.out hm1 ho.1 (by omega) H3.out
    clear hm1
    go_wp2_with fail
    (with_reducible refine c2.mono ?_)
    clear c2
    rintro e w2 ⟨rfl, hm2, ho2⟩
    go_wp2_with fail
    go_ret2
    exact ⟨rfl, hm2, ho1.trans ho2⟩
set_option maxRecDepth 100000 in
theorem vremove_is (V : VOk M T v fR fW Mem Ok S R) (hm : Mem w s) {o t : Int} {b : Bool} {s1 : σ} (h : (qremP o t).run M s = (b, s1)) :
    Calls Try.prog 82 #[.iface T v, .int .i64 o, .int .i64 t] w fun e w' => e = .returned (.bool b) ∧ Mem w' s1 ∧ Only S w w' := by
  obtain ⟨L, s2, h2⟩ : ∃ r s2, (qwayF 32 o).run M s = (r, s2) := ⟨_, _, rfl⟩
  unfold qremP at h
  rw [Vp.run_bind_is h2] at h
  have hlen := qwayF_len (M := M) 32 o s
  rw [h2] at hlen
  have hlen : L.length ≤ 32 := hlen
  have hin := way_in h2
  have c := way_is V hm h2
  have HV := Lib.hid V
  have H := Lib.hid (And.intro h hin)
  clear hm h2 h V hin
  go_enter Try.func82, Try.ntmps82
  go_wp2_with fail
  (with_reducible refine c.mono ?_)
  clear c
  rintro e w1 ⟨u, rfl, hown, hm1, ho1⟩
  obtain ⟨g, cp, rfl, hcl, hb, hg, hc⟩ := way_cells hown
  have HR := Lib.hid (And.intro hc (And.intro hm1 ho1))
  clear hown hm1 ho1 hb
  have hcp : (cp = 1 ∧ L = []) ∨ ¬ cp = 1 := by
    by_cases e : cp = 1
    · exact .inl ⟨e, List.eq_nil_of_length_eq_zero (by omega)⟩
    · exact .inr e
  rcases hcp with ⟨rfl, rfl⟩ | hcp
  · have ci := index_is w1 (some ⟨g, 0, none⟩) [] 0 t (by simp) (fun k x hx => by simp at hx)
    rw [List.length_nil] at ci
    obtain ⟨h, -⟩ := H.out
    cases h
    clear hc hcl
    go_wp2_with fail
    (with_reducible refine ci.mono ?_)
    clear ci
    rintro e w2 ⟨z, rfl, hw, hz⟩
    subst hw
    obtain rfl : z = -1 := by
      rcases hz with ⟨hz, -⟩ | ⟨p, b, e, -⟩
      · exact hz
      · simp at e
    clear hz
    go_wp2_with fail
    go_ret
    exact ⟨rfl, HR.out.2⟩
  · have ci := index_is w1 (some ⟨g, 1, none⟩) L (cp - 1) t (by omega) (fun k x hx => ⟨g, 1, rfl, hg, by rw [Nat.add_comm]; exact hc (k + 1) x hx⟩)
    clear hc
    go_wp2_with fail
    (with_reducible refine ci.mono ?_)
    clear ci
    rintro e w2 ⟨z, rfl, hw, hz⟩
    subst hw
    rcases hz with ⟨rfl, hz⟩ | ⟨p, b2, hL, htp, rfl⟩
    · obtain ⟨h, -⟩ := H.out
      rw [splQ_none.2 hz] at h
      cases h
      go_wp2_with fail
      go_ret
      exact ⟨rfl, HR.out.2⟩
    · obtain ⟨h, hin⟩ := H.out
      rw [hL, splQ_app htp] at h
      have hl := hin p (t :: b2) hL (by simp)
      obtain ⟨s3, h3⟩ : ∃ s3, (qleaveP o (lst o p) t).run M s2 = ((), s3) := ⟨_, rfl⟩
      have h : ((qleaveP o (lst o p) t).bind fun _ => .ret true).run M s2 = (b, s1) := h
      rw [Vp.run_bind_is h3, Vp.run_ret] at h
      cases h
      have c2 := qleave_is HV.out HR.out.2.1 hl.1 (by omega) h3
      have hcell := HR.out.1 p.length (lst o p) (by rw [hL]; exact lst_get p o (t :: b2))
      have hpl : p.length < L.length := by rw [hL]; simp
      have hp0 : ¬ (p.length : Int) < 0 := by omega
      have hp1 : (0 : Int) ≤ (p.length : Int) := by omega
      have hp2 : (p.length : Int) < (L.length : Int) + 1 := by omega
      clear h3
      go_wp2_with fail
      (with_reducible refine c2.mono ?_)
      clear c2
      rintro e w3 ⟨rfl, hm3, ho3⟩
      go_wp2_with fail
      go_ret
      exact ⟨rfl, hm3, HR.out.2.2.trans ho3⟩
set_option maxRecDepth 100000 in
theorem vpush_is (V : VOk M T v fR fW Mem Ok S R) (hm : Mem w s) {o t n : Int} {s1 : σ} (h : (qpushP o t).run M s = (n, s1)) :
    Calls Try.prog 80 #[.iface T v, .int .i64 o, .int .i64 t] w fun e w' => e = .returned (errV n) ∧ Mem w' s1 ∧ Only S w w' := by
  unfold qpushP at h
  obtain ⟨qo, hqo⟩ : ∃ q, objB o 0 = q := ⟨_, rfl⟩
  obtain ⟨qt, hqt⟩ : ∃ q, objB t 0 = q := ⟨_, rfl⟩
  have cO := Lib.hid (qis_is hqo)
  have cT := Lib.hid (qis_is hqt)
  rw [hqo, hqt] at h
  cases qo with
  | false =>
    rw [if_neg (by simp), Vp.run_ret] at h
    cases h
    clear hqo hqt
    go_enter Try.func80, Try.ntmps80
    go_wp2_with ((with_reducible refine (cO.out _).mono ?_); rintro e w' ⟨rfl, rfl⟩)
    go_ret
    exact ⟨rfl, hm, Only.refl _ _⟩
  | true =>
    cases qt with
    | false =>
      rw [if_neg (by simp), Vp.run_ret] at h
      cases h
      clear hqo hqt
      go_enter Try.func80, Try.ntmps80
      go_wp2_with ((first | (with_reducible refine (cO.out _).mono ?_) | (with_reducible refine (cT.out _).mono ?_)); rintro e w' ⟨rfl, rfl⟩)
      go_ret
      exact ⟨rfl, hm, Only.refl _ _⟩
    | true =>
      have ho := objB_yes.1 hqo
      have ht := objB_yes.1 hqt
      rw [if_pos ⟨rfl, rfl⟩] at h
      obtain ⟨b, s2, h2⟩ : ∃ b s2, (qremP o t).run M s = (b, s2) := ⟨_, _, rfl⟩
      rw [Vp.run_bind_is h2] at h
      obtain ⟨L, s3, h3⟩ : ∃ r s3, (qwayF 32 o).run M s2 = (r, s3) := ⟨_, _, rfl⟩
      rw [Vp.run_bind_is h3] at h
      obtain ⟨s4, h4⟩ : ∃ s4, (putP (lst o L) 2 (t + 1)).run M s3 = ((), s4) := ⟨_, rfl⟩
      rw [Vp.run_bind_is h4] at h
      obtain ⟨s5, h5⟩ : ∃ s5, (putP o 3 (t + 1)).run M s4 = ((), s5) := ⟨_, rfl⟩
      rw [Vp.run_bind_is h5] at h
      have hlen := qwayF_len (M := M) 32 o s2
      rw [h3] at hlen
      have hlen : L.length ≤ 32 := hlen
      have c1 := vremove_is V hm h2
      have HV := Lib.hid V
      have H := Lib.hid (And.intro h3 (And.intro h4 (And.intro h5 h)))
      clear hqo hqt h2 h3 h4 h5 h V hm
      go_enter Try.func80, Try.ntmps80
      go_wp2_with (first | ((first | (with_reducible refine (cO.out _).mono ?_) | (with_reducible refine (cT.out _).mono ?_)); rintro e w' ⟨rfl, rfl⟩))
      (with_reducible refine c1.mono ?_)
      clear c1 cO cT
      rintro e w1 ⟨rfl, hm1, ho1⟩
      have c2 := way_is HV.out hm1 H.out.1
      clear hm1
      go_wp2_with fail
      (with_reducible refine c2.mono ?_)
      clear c2
      rintro e w2 ⟨u, rfl, hown, hm2, ho2⟩
      obtain ⟨g, cp, rfl, hcl, hb, hg, hc⟩ := way_cells hown
      have hcell := hc L.length (lst o L) (by have := lst_get L o []; rwa [List.append_nil] at this)
      have c3 := put_is HV.out hm2 (by omega) H.out.2.1
      have HO := Lib.hid (ho1.trans ho2)
      have hx1 : ((L.length + 1 : Nat) : Int) - 1 = (L.length : Int) := by omega
      have hx2 : ((L.length : Int) + 1) - 1 = (L.length : Int) := by omega
      have hx3 : (0 : Int) ≤ (L.length : Int) := by omega
      have hx4 : (L.length : Int) < (L.length : Int) + 1 := by omega
      clear hown hc hb hm2 ho1 ho2
      go_wp2_with fail
      (with_reducible refine c3.mono ?_)
      clear c3
      rintro e w3 ⟨rfl, hm3, ho3⟩
      have c4 := put_is HV.out hm3 (by omega) H.out.2.2.1
      have HO3 := Lib.hid (HO.out.trans ho3)
      clear hm3 ho3
      go_wp2_with fail
      (with_reducible refine c4.mono ?_)
      clear c4
      rintro e w4 ⟨rfl, hm4, ho4⟩
      have HO4 := Lib.hid (And.intro hm4 (HO3.out.trans ho4))
      clear hm4 ho4
      obtain ⟨-, -, -, h⟩ := H.out
      by_cases hto : t = o
      · rw [if_pos hto] at h
        cases h
        subst hto
        go_wp2_with fail
        go_ret
        exact ⟨rfl, HO4.out⟩
      · rw [if_neg hto] at h
        obtain ⟨s6, h6⟩ : ∃ s6, (putP t 2 0).run M s5 = ((), s6) := ⟨_, rfl⟩
        rw [Vp.run_bind_is h6] at h
        cases h
        have c5 := put_is HV.out HO4.out.1 (by omega) h6
        clear h6
        go_wp2_with fail
        (with_reducible refine c5.mono ?_)
        clear c5
        rintro e w5 ⟨rfl, hm5, ho5⟩
        go_wp2_with fail
        go_ret
        exact ⟨rfl, hm5, HO4.out.2.trans ho5⟩
end
end Go.Proofs.Ytdkjfalhalepgaa
/- What Wake, owe, settle, Block, wait, pop of package endp do (layer 15), to any view. -/
namespace Go.Proofs.Ytdkjfalhalepgaa
open Go.RowKit
section
variable {σ : Type} {M : Mach σ} {T : TypeId} {v : Value} {fR fW : FuncId} {Mem : World → σ → Prop} {Ok : σ → Prop} {S R : List Nat} {w : World} {s : σ}
set_option maxRecDepth 100000 in
theorem ewk_is (V : VOk M T v fR fW Mem Ok S R) (hm : Mem w s) {t n b : Int} {s1 : σ} (hn : n ≤ 9223372036854775807) (hb : b ≤ 9223372036854775807) (h : (ewakeP t n b).run M s = ((), s1)) :
    Calls Try.prog 40 #[.iface T v, .int .i64 t, .int .i64 n, .int .i64 b] w fun e w' => e = .returned (.tuple #[]) ∧ Mem w' s1 ∧ Only S w w' := by
  unfold ewakeP at h
  obtain ⟨st, s2, h2⟩ : ∃ x s2, (fieldP t 1).run M s = (x, s2) := ⟨_, _, rfl⟩
  rw [Vp.run_bind_is h2] at h
  obtain ⟨s3, h3⟩ : ∃ s3, (if st = 4 then putP t 2 0 else .ret () : Vp Unit).run M s2 = ((), s3) := ⟨_, rfl⟩
  rw [Vp.run_bind_is h3] at h
  obtain ⟨s4, h4⟩ : ∃ s4, (putP t 1 1).run M s3 = ((), s4) := ⟨_, rfl⟩
  rw [Vp.run_bind_is h4] at h
  obtain ⟨s5, h5⟩ : ∃ s5, (eonP t 0).run M s4 = ((), s5) := ⟨_, rfl⟩
  rw [Vp.run_bind_is h5] at h
  have c := estt_is V hm h2
  have HV := Lib.hid V
  have H := Lib.hid (And.intro h4 (And.intro h5 (And.intro h (And.intro hn hb))))
  clear h h2 h4 h5 hm V hn hb
  by_cases h4 : st = 4
  · subst h4
    rw [if_pos rfl] at h3
    have H3 := Lib.hid h3
    clear h3
    go_enter Try.func40, Try.ntmps40
    go_wp2_with fail
    (with_reducible refine c.mono ?_)
    clear c
    rintro e w1 ⟨rfl, hm1, ho1⟩
    have c := put_is HV.out hm1 (by decide) H3.out
    go_wp2_with fail
    (with_reducible refine c.mono ?_)
    clear c
    rintro e w2 ⟨rfl, hm2, ho2⟩
    have c := put_is HV.out hm2 (by decide) H.out.1
    go_wp2_with fail
    (with_reducible refine c.mono ?_)
    clear c
    rintro e w3 ⟨rfl, hm3, ho3⟩
    have c := eson_is HV.out hm3 (by decide) (by decide) H.out.2.1
    have HO := Lib.hid ((ho1.trans ho2).trans ho3)
    clear hm1 ho1 hm2 ho2 hm3 ho3
    go_wp2_with fail
    (with_reducible refine c.mono ?_)
    clear c
    rintro e w4 ⟨rfl, hm4, ho4⟩
    have c := etell_is HV.out hm4 H.out.2.2.2.1 H.out.2.2.2.2 H.out.2.2.1
    go_wp2_with fail
    (with_reducible refine c.mono ?_)
    clear c
    rintro e w5 ⟨rfl, hm5, ho5⟩
    go_wp2_with fail
    go_end0
    exact ⟨rfl, hm5, (HO.out.trans ho4).trans ho5⟩
  · rw [if_neg h4] at h3
    cases h3
    go_enter Try.func40, Try.ntmps40
    go_wp2_with fail
    (with_reducible refine c.mono ?_)
    clear c
    rintro e w1 ⟨rfl, hm1, ho1⟩
    have c := put_is HV.out hm1 (by decide) H.out.1
    go_wp2_with fail
    (with_reducible refine c.mono ?_)
    clear c
    rintro e w3 ⟨rfl, hm3, ho3⟩
    have c := eson_is HV.out hm3 (by decide) (by decide) H.out.2.1
    have HO := Lib.hid (ho1.trans ho3)
    clear hm1 ho1 hm3 ho3
    go_wp2_with fail
    (with_reducible refine c.mono ?_)
    clear c
    rintro e w4 ⟨rfl, hm4, ho4⟩
    have c := etell_is HV.out hm4 H.out.2.2.2.1 H.out.2.2.2.2 H.out.2.2.1
    go_wp2_with fail
    (with_reducible refine c.mono ?_)
    clear c
    rintro e w5 ⟨rfl, hm5, ho5⟩
    go_wp2_with fail
    go_end0
    exact ⟨rfl, hm5, (HO.out.trans ho4).trans ho5⟩
theorem eowe_is (V : VOk M T v fR fW Mem Ok S R) (hm : Mem w s) {t c : Int} {s1 : σ} (ht : t ≤ 4611686018427387904) (ht0 : 0 ≤ t) (hc0 : 0 ≤ c) (hc : c ≤ 4611686018427387904) (h : (eoweP t c).run M s = ((), s1)) :
    Calls Try.prog 51 #[.iface T v, .int .i64 t, .int .i64 c] w fun e w' => e = .returned (.tuple #[]) ∧ Mem w' s1 ∧ Only S w w' := by
  unfold eoweP at h
  obtain ⟨s2, h2⟩ : ∃ s2, (putP c 1 4).run M s = ((), s2) := ⟨_, rfl⟩
  rw [Vp.run_bind_is h2] at h
  obtain ⟨s3, h3⟩ : ∃ s3, (putP c 2 (t + 1)).run M s2 = ((), s3) := ⟨_, rfl⟩
  rw [Vp.run_bind_is h3] at h
  have k := put_is V hm (by decide) h2
  have HV := Lib.hid V
  have H := Lib.hid (And.intro h3 h)
  clear h h2 h3 hm V
  go_enter Try.func51, Try.ntmps51
  go_wp2_with fail
  (with_reducible refine k.mono ?_)
  clear k
  rintro e w1 ⟨rfl, hm1, ho1⟩
  have k := put_is HV.out hm1 (by omega) H.out.1
  go_wp2_with fail
  (with_reducible refine k.mono ?_)
  clear k
  rintro e w2 ⟨rfl, hm2, ho2⟩
  have k := put_is HV.out hm2 (by omega) H.out.2
  go_wp2_with fail
  (with_reducible refine k.mono ?_)
  clear k
  rintro e w3 ⟨rfl, hm3, ho3⟩
  go_wp2_with fail
  go_end0
  exact ⟨rfl, hm3, (ho1.trans ho2).trans ho3⟩
set_option maxRecDepth 100000 in
theorem esettle_is (V : VOk M T v fR fW Mem Ok S R) (hm : Mem w s) {o : Int} {s1 : σ} (h : (esettleP o).run M s = ((), s1)) :
    Calls Try.prog 76 #[.iface T v, .int .i64 o] w fun e w' => e = .returned (.tuple #[]) ∧ Mem w' s1 ∧ Only S w w' := by
  unfold esettleP at h
  obtain ⟨L, s2, h2⟩ : ∃ x s2, (qwayF 32 o).run M s = (x, s2) := ⟨_, _, rfl⟩
  rw [Vp.run_bind_is h2] at h
  have k := vlist_is V hm h2
  have HV := Lib.hid V
  have hlen := qwayF_len (M := M) 32 o s
  rw [h2] at hlen
  have hlen : L.length ≤ 32 := hlen
  clear h2 hm V
  by_cases hL : L = []
  · subst hL
    rw [if_pos rfl] at h
    have H := Lib.hid h
    clear h
    go_enter Try.func76, Try.ntmps76
    go_wp2_with fail
    (with_reducible refine k.mono ?_)
    clear k
    rintro e w1 ⟨u, rfl, ⟨A, cp, rfl, hc⟩, hm1, ho1⟩
    clear hc
    have c := put_is HV.out hm1 (by decide) H.out
    go_wp2_with fail
    (with_reducible refine c.mono ?_)
    clear c
    rintro e w2 ⟨rfl, hm2, ho2⟩
    go_wp2_with fail
    go_end0
    exact ⟨rfl, hm2, ho1.trans ho2⟩
  · rw [if_neg hL] at h
    cases h
    have hl0 : ¬ L.length = 0 := fun e => hL (List.eq_nil_of_length_eq_zero e)
    have hl1 : ¬ (L.length : Int) = 0 := by omega
    clear hL
    go_enter Try.func76, Try.ntmps76
    go_wp2_with fail
    (with_reducible refine k.mono ?_)
    clear k
    rintro e w1 ⟨u, rfl, ⟨A, cp, rfl, hc⟩, hm1, ho1⟩
    clear hc
    go_wp2_with fail
    go_end0
    exact ⟨rfl, hm1, ho1⟩
set_option maxRecDepth 100000 in
theorem eblock_is (V : VOk M T v fR fW Mem Ok S R) (hm : Mem w s) {o t n : Int} {s1 : σ} (hn : n ≤ 9223372036854775807) (h : (eblockP o t n).run M s = ((), s1)) :
    Calls Try.prog 61 #[.iface T v, .int .i64 o, .int .i64 t, .int .i64 n] w fun e w' => e = .returned (.tuple #[]) ∧ Mem w' s1 ∧ Only S w w' := by
  unfold eblockP at h
  obtain ⟨qo, hqo⟩ : ∃ q, objB o 0 = q := ⟨_, rfl⟩
  obtain ⟨qt, hqt⟩ : ∃ q, objB t 0 = q := ⟨_, rfl⟩
  have cO := Lib.hid (eis_is hqo)
  have cT := Lib.hid (eis_is hqt)
  rw [hqo, hqt] at h
  cases qo with
  | false =>
    rw [if_neg (by simp), Vp.run_ret] at h
    cases h
    clear hqo hqt
    go_enter Try.func61, Try.ntmps61
    go_wp2_with ((with_reducible refine (cO.out _).mono ?_); rintro e w' ⟨rfl, rfl⟩)
    refine bodyPost_ret (results_none rfl _ _ _) rfl ?_
    exact ⟨rfl, hm, Only.refl _ _⟩
  | true =>
    cases qt with
    | false =>
      rw [if_neg (by simp), Vp.run_ret] at h
      cases h
      clear hqo hqt
      go_enter Try.func61, Try.ntmps61
      go_wp2_with ((first | (with_reducible refine (cO.out _).mono ?_) | (with_reducible refine (cT.out _).mono ?_)); rintro e w' ⟨rfl, rfl⟩)
      refine bodyPost_ret (results_none rfl _ _ _) rfl ?_
      exact ⟨rfl, hm, Only.refl _ _⟩
    | true =>
      have ho := objB_yes.1 hqo
      have ht := objB_yes.1 hqt
      rw [if_pos ⟨rfl, rfl⟩] at h
      obtain ⟨s2, h2⟩ : ∃ s2, (putP t 1 (max n 0)).run M s = ((), s2) := ⟨_, rfl⟩
      rw [Vp.run_bind_is h2] at h
      obtain ⟨s3, h3⟩ : ∃ s3, (eonP t (o + 1)).run M s2 = ((), s3) := ⟨_, rfl⟩
      rw [Vp.run_bind_is h3] at h
      obtain ⟨x, s4, h4⟩ : ∃ x s4, (qpushP o t).run M s3 = (x, s4) := ⟨_, _, rfl⟩
      rw [Vp.run_bind_is h4, Vp.run_ret] at h
      cases h
      have c := eput_is V hm rfl hn h2
      have HV := Lib.hid V
      have H := Lib.hid (And.intro h3 h4)
      clear hqo hqt h2 h3 h4 V hm
      go_enter Try.func61, Try.ntmps61
      go_wp2_with (first | ((first | (with_reducible refine (cO.out _).mono ?_) | (with_reducible refine (cT.out _).mono ?_)); rintro e w' ⟨rfl, rfl⟩))
      (with_reducible refine c.mono ?_)
      clear c cO cT
      rintro e w1 ⟨rfl, hm1, ho1⟩
      have c := eson_is HV.out hm1 (by omega) (by omega) H.out.1
      go_wp2_with fail
      (with_reducible refine c.mono ?_)
      clear c
      rintro e w2 ⟨rfl, hm2, ho2⟩
      have c := vpush_is HV.out hm2 H.out.2
      go_wp2_with fail
      (with_reducible refine c.mono ?_)
      clear c
      rintro e w3 ⟨rfl, hm3, ho3⟩
      go_wp2_with fail
      go_end0
      exact ⟨rfl, hm3, (ho1.trans ho2).trans ho3⟩
theorem ewait_is (V : VOk M T v fR fW Mem Ok S R) (hm : Mem w s) {o t n : Int} {s1 : σ} (hn : n ≤ 9223372036854775807) (h : (ewaitP o t n).run M s = ((), s1)) :
    Calls Try.prog 53 #[.iface T v, .int .i64 o, .int .i64 t, .int .i64 n] w fun e w' => e = .returned (.tuple #[]) ∧ Mem w' s1 ∧ Only S w w' := by
  unfold ewaitP at h
  obtain ⟨s2, h2⟩ : ∃ s2, (eblockP o t n).run M s = ((), s2) := ⟨_, rfl⟩
  rw [Vp.run_bind_is h2] at h
  obtain ⟨x, hx⟩ : ∃ x, esideI n = x := ⟨_, rfl⟩
  have hx1 : x ≤ 2 := by rw [← hx]; unfold esideI; repeat' split <;> omega
  have cS := Lib.hid (eside_is hx)
  rw [hx] at h
  have c := eblock_is V hm hn h2
  have HV := Lib.hid V
  have H := Lib.hid h
  clear h h2 hm V hx
  go_enter Try.func53, Try.ntmps53
  go_wp2_with fail
  (with_reducible refine c.mono ?_)
  clear c
  rintro e w1 ⟨rfl, hm1, ho1⟩
  go_wp2_with fail
  (with_reducible refine (cS.out _).mono ?_)
  rintro e w2 ⟨rfl, hw⟩
  subst hw
  have c := put_is HV.out hm1 (by omega) H.out
  go_wp2_with fail
  (with_reducible refine c.mono ?_)
  clear c
  rintro e w2 ⟨rfl, hm2, ho2⟩
  go_wp2_with fail
  go_end0
  exact ⟨rfl, hm2, ho1.trans ho2⟩
set_option maxRecDepth 100000 in
theorem epop_is (V : VOk M T v fR fW Mem Ok S R) (hm : Mem w s) {o sd x : Int} {b : Bool} {s1 : σ} (h : (epopP o sd).run M s = ((x, b), s1)) :
    Calls Try.prog 50 #[.iface T v, .int .i64 o, .int .i64 sd] w fun e w' => e = .returned (.tuple #[.int .i64 x, .bool b]) ∧ Mem w' s1 ∧ Only S w w' := by
  unfold epopP at h
  obtain ⟨y, s2, h2⟩ : ∃ x s2, (fieldP o 1).run M s = (x, s2) := ⟨_, _, rfl⟩
  rw [Vp.run_bind_is h2] at h
  have c := field_is V hm h2
  have HV := Lib.hid V
  clear h2 hm V
  by_cases hy : y = sd
  · rw [if_pos hy] at h
    subst hy
    obtain ⟨⟨z, q⟩, s3, h3⟩ : ∃ r s3, (qpopP o).run M s2 = (r, s3) := ⟨_, _, rfl⟩
    rw [Vp.run_bind_is h3] at h
    cases q with
    | false =>
      rw [if_neg (by simp), Vp.run_ret] at h
      cases h
      have H := Lib.hid h3
      clear h3
      go_enter Try.func50, Try.ntmps50
      go_wp2_with fail
      (with_reducible refine c.mono ?_)
      clear c
      rintro e w1 ⟨rfl, hm1, ho1⟩
      have c := vpop_is HV.out hm1 H.out
      go_wp2_with fail
      (with_reducible refine c.mono ?_)
      clear c
      rintro e w2 ⟨rfl, hm2, ho2⟩
      go_wp2_with fail
      go_ret2
      exact ⟨rfl, hm2, ho1.trans ho2⟩
    | true =>
      obtain ⟨s4, h4⟩ : ∃ s4, (esettleP o).run M s3 = ((), s4) := ⟨_, rfl⟩
      rw [if_pos rfl, Vp.run_bind_is h4, Vp.run_ret] at h
      cases h
      have H := Lib.hid (And.intro h3 h4)
      clear h3 h4
      go_enter Try.func50, Try.ntmps50
      go_wp2_with fail
      (with_reducible refine c.mono ?_)
      clear c
      rintro e w1 ⟨rfl, hm1, ho1⟩
      have c := vpop_is HV.out hm1 H.out.1
      go_wp2_with fail
      (with_reducible refine c.mono ?_)
      clear c
      rintro e w2 ⟨rfl, hm2, ho2⟩
      have c := esettle_is HV.out hm2 H.out.2
      go_wp2_with fail
      (with_reducible refine c.mono ?_)
      clear c
      rintro e w3 ⟨rfl, hm3, ho3⟩
      go_wp2_with fail
      go_ret2
      exact ⟨rfl, hm3, (ho1.trans ho2).trans ho3⟩
  · rw [if_neg hy, Vp.run_ret] at h
    cases h
    go_enter Try.func50, Try.ntmps50
    go_wp2_with fail
    (with_reducible refine c.mono ?_)
    clear c
    rintro e w1 ⟨rfl, hm1, ho1⟩
    go_wp2_with fail
    go_ret2
    exact ⟨rfl, hm1, ho1⟩
end
end Go.Proofs.Ytdkjfalhalepgaa
/- What Is of package lay answers (layer 9), of any view: whether an object is of a kind. -/
namespace Go.Proofs.Ytdkjfalhalepgaa
open Go.RowKit
section
variable {σ : Type} {M : Mach σ} {T : TypeId} {v : Value} {fR fW : FuncId} {Mem : World → σ → Prop} {Ok : σ → Prop} {S R : List Nat} {w : World} {s : σ}
theorem is_any (V : VOk M T v fR fW Mem Ok S R) (hm : Mem w s) (o k : Int) (hk : k ≤ 9223372036854775807) :
    Calls Try.prog 66 #[.iface T v, .int .i64 o, .int .i64 k] w fun e w' => e = .returned (.bool ((isP o k).run M s).1) ∧ Mem w' ((isP o k).run M s).2 ∧ Only S w w' := by
  have mR := V.mR
  have nR := V.nR
  have eR := V.eR
  unfold isP
  obtain ⟨a, ha⟩ : ∃ a, objI o 0 = a := ⟨_, rfl⟩
  cases hb : objB o 0 with
  | false =>
    rw [Vp.run_no (by simp), Vp.run_ret]
    have cO := Lib.hid (obj_is ha hb)
    clear hb ha
    go_enter Try.func66, Try.ntmps66
    go_wp2_with (go_at_call 70; (with_reducible refine (cO.out _).mono ?_); rintro e w' ⟨rfl, rfl⟩)
    go_ret
    exact ⟨rfl, hm, Only.refl _ _⟩
  | true =>
    have cO := Lib.hid (obj_is ha hb)
    by_cases h0 : 0 ≤ k
    · rw [Vp.run_yes ⟨rfl, h0⟩, Vp.run_rd, Vp.run_ret, ha]
      have hr := V.rng s a (V.ok w s hm)
      have cR := V.rd w s a hm
      obtain ⟨x, s1, hrd⟩ : ∃ x s1, M.rd s a = (x, s1) := ⟨_, _, rfl⟩
      rw [hrd] at hr cR ⊢
      have h1 : 0 ≤ x := hr.1
      have h2 : x ≤ 18446744073709551615 := hr.2
      clear hb ha hm hrd hr
      go_enter Try.func66, Try.ntmps66
      go_wp2_with (first | (go_at_call 70; (with_reducible refine (cO.out _).mono ?_); rintro e w' ⟨rfl, rfl⟩) | ((with_reducible refine cR.mono ?_); clear cR; rintro e w1 ⟨rfl, hm1, ho1⟩))
      go_ret
      exact ⟨rfl, hm1, ho1⟩
    · rw [Vp.run_no (by simpa using h0), Vp.run_ret]
      have h0' : k < 0 := by omega
      clear hb ha h0
      go_enter Try.func66, Try.ntmps66
      go_wp2_with (go_at_call 70; (with_reducible refine (cO.out _).mono ?_); rintro e w' ⟨rfl, rfl⟩)
      go_ret
      exact ⟨rfl, hm, Only.refl _ _⟩
theorem is_is (V : VOk M T v fR fW Mem Ok S R) (hm : Mem w s) {o k : Int} {q : Bool} {s1 : σ} (hk : k ≤ 9223372036854775807) (h : (isP o k).run M s = (q, s1)) :
    Calls Try.prog 66 #[.iface T v, .int .i64 o, .int .i64 k] w fun e w' => e = .returned (.bool q) ∧ Mem w' s1 ∧ Only S w w' := by
  have q := is_any V hm o k hk
  rwa [h] at q
end
end Go.Proofs.Ytdkjfalhalepgaa
