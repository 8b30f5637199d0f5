/- What forgive, leave, Cancel of package endp do (layer 15), to any view. -/
import Derived.Test.YtdkjfalhalepgaaJ13
import Derived.Test.YtdkjfalhalepgaaRows
import Derived.Test.YtdkjfalhalepgaaJ1
import Derived.WalkKit
import Derived.WalkSpells
import Derived.WalkLawsBesides
import Derived.Handy
import Derived.BigQuiet
import Derived.Deep.QuietTactic
import Derived.RegionTactic
import Derived.Lib.IfaceEq
import Derived.Lib.Hide
import Derived.Deep.Light
import Derived.Outline
namespace Go.Proofs.Ytdkjfalhalepgaa
open Go.RowKit
section
variable {σ : Type} {M : Mach σ} {T : TypeId} {v : Value} {fR fW : FuncId} {Mem : World → σ → Prop} {Ok : σ → Prop} {S R : List Nat} {w : World} {s : σ}
set_option maxRecDepth 100000 in
theorem eforg_is (V : VOk M T v fR fW Mem Ok S R) (hm : Mem w s) {c : Int} {s1 : σ} (hc0 : 0 ≤ c) (hc : c ≤ 4611686018427387904) (h : (eforgP c).run M s = ((), s1)) :
    Calls Try.prog 68 #[.iface T v, .int .i64 c] w fun e w' => e = .returned (.tuple #[]) ∧ Mem w' s1 ∧ Only S w w' := by
  unfold eforgP at h
  obtain ⟨⟨t, q⟩, s2, h2⟩ : ∃ r s2, (refP c 2).run M s = (r, s2) := ⟨_, _, rfl⟩
  rw [Vp.run_bind_is h2] at h
  have k := ref_is V hm h2
  have HV := Lib.hid V
  clear h2 hm V
  cases q with
  | false =>
    rw [if_neg (by simp), Vp.run_bind_is (Vp.run_ret ())] at h
    have H := Lib.hid h
    clear h
    go_enter Try.func68, Try.ntmps68
    go_wp2_with fail
    (with_reducible refine k.mono ?_)
    clear k
    rintro e w1 ⟨rfl, hm1, ho1⟩
    have k := put_is HV.out hm1 (by decide) H.out
    go_wp2_with fail
    (with_reducible refine k.mono ?_)
    clear k
    rintro e w2 ⟨rfl, hm2, ho2⟩
    go_wp2_with fail
    go_end0
    exact ⟨rfl, hm2, ho1.trans ho2⟩
  | true =>
    rw [if_pos rfl] at h
    obtain ⟨x, s3, h3⟩ : ∃ x s3, (fieldP t 6).run M s2 = (x, s3) := ⟨_, _, rfl⟩
    obtain ⟨s4, h4⟩ : ∃ s4, (if x = c + 1 then putP t 6 0 else .ret () : Vp Unit).run M s3 = ((), s4) := ⟨_, rfl⟩
    have h34 : ((fieldP t 6).bind fun x => if x = c + 1 then putP t 6 0 else .ret ()).run M s2 = ((), s4) := by rw [Vp.run_bind_is h3, h4]
    rw [Vp.run_bind_is h34] at h
    clear h34
    by_cases hx : x = c + 1
    · rw [if_pos hx] at h4
      have hxq : (x == c + 1) = true := by simpa using hx
      have H := Lib.hid (And.intro h3 (And.intro h4 h))
      clear h h3 h4 hx
      go_enter Try.func68, Try.ntmps68
      go_wp2_with fail
      (with_reducible refine k.mono ?_)
      clear k
      rintro e w1 ⟨rfl, hm1, ho1⟩
      have k := field_is HV.out hm1 H.out.1
      go_wp2_with fail
      (with_reducible refine k.mono ?_)
      clear k
      rintro e w2 ⟨rfl, hm2, ho2⟩
      have k := put_is HV.out hm2 (by decide) H.out.2.1
      have HO := Lib.hid (ho1.trans ho2)
      clear hm1 ho1 hm2 ho2
      go_wp2_with fail
      (with_reducible refine k.mono ?_)
      clear k
      rintro e w3 ⟨rfl, hm3, ho3⟩
      have k := put_is HV.out hm3 (by decide) H.out.2.2
      go_wp2_with fail
      (with_reducible refine k.mono ?_)
      clear k
      rintro e w4 ⟨rfl, hm4, ho4⟩
      go_wp2_with fail
      go_end0
      exact ⟨rfl, hm4, (HO.out.trans ho3).trans ho4⟩
    · rw [if_neg hx] at h4
      cases h4
      have hxq : (x == c + 1) = false := by simpa using hx
      have H := Lib.hid (And.intro h3 h)
      clear h h3 hx
      go_enter Try.func68, Try.ntmps68
      go_wp2_with fail
      (with_reducible refine k.mono ?_)
      clear k
      rintro e w1 ⟨rfl, hm1, ho1⟩
      have k := field_is HV.out hm1 H.out.1
      go_wp2_with fail
      (with_reducible refine k.mono ?_)
      clear k
      rintro e w2 ⟨rfl, hm2, ho2⟩
      have k := put_is HV.out hm2 (by decide) H.out.2
      go_wp2_with fail
      (with_reducible refine k.mono ?_)
      clear k
      rintro e w3 ⟨rfl, hm3, ho3⟩
      go_wp2_with fail
      go_end0
      exact ⟨rfl, hm3, (ho1.trans ho2).trans ho3⟩
set_option maxRecDepth 100000 in
theorem eleave_is (V : VOk M T v fR fW Mem Ok S R) (hm : Mem w s) {t : Int} {s1 : σ} (h : (eleaveP t).run M s = ((), s1)) :
    Calls Try.prog 67 #[.iface T v, .int .i64 t] w fun e w' => e = .returned (.tuple #[]) ∧ Mem w' s1 ∧ Only S w w' := by
  unfold eleaveP at h
  obtain ⟨⟨o, q⟩, s2, h2⟩ : ∃ r s2, (eonQ t).run M s = (r, s2) := ⟨_, _, rfl⟩
  rw [Vp.run_bind_is h2] at h
  have k := eonq_is V hm h2
  have HV := Lib.hid V
  clear h2 hm V
  cases q with
  | false =>
    rw [if_neg (by simp)] at h
    cases h
    go_enter Try.func67, Try.ntmps67
    go_wp2_with fail
    (with_reducible refine k.mono ?_)
    clear k
    rintro e w1 ⟨rfl, hm1, ho1⟩
    go_wp2_with fail
    refine bodyPost_ret (results_none rfl _ _ _) rfl ?_
    exact ⟨rfl, hm1, ho1⟩
  | true =>
    rw [if_pos rfl] at h
    obtain ⟨b, s3, h3⟩ : ∃ x s3, (eisP o t).run M s2 = (x, s3) := ⟨_, _, rfl⟩
    rw [Vp.run_bind_is h3] at h
    obtain ⟨c, s4, h4⟩ : ∃ x s4, (qremP o t).run M s3 = (x, s4) := ⟨_, _, rfl⟩
    rw [Vp.run_bind_is h4] at h
    have H := Lib.hid (And.intro h4 h)
    clear h4 h
    have HE : ∀ (w1 : World), Mem w1 s3 → Only S w w1 → Calls Try.prog 82 #[.iface T v, .int .i64 o, .int .i64 t] w1 fun e w' => e = .returned (.bool c) ∧ Mem w' s4 ∧ Only S w w' := fun w1 hm1 ho1 => (vremove_is HV.out hm1 H.out.1).mono fun _ _ ⟨a, b, d⟩ => ⟨a, b, ho1.trans d⟩
    have HC := Lib.hid HE
    clear HE
    unfold eisP at h3
    obtain ⟨qi, s5, h5⟩ : ∃ x s5, (isP o 3).run M s2 = (x, s5) := ⟨_, _, rfl⟩
    rw [Vp.run_bind_is h5] at h3
    cases qi with
    | true =>
      rw [if_pos rfl] at h3
      cases h3
      have h := H.out.2
      rw [if_pos rfl] at h
      have H2 := Lib.hid (And.intro h5 h)
      clear h5 h
      go_enter Try.func67, Try.ntmps67
      go_wp2_with fail
      (with_reducible refine k.mono ?_)
      clear k
      rintro e w1 ⟨rfl, hm1, ho1⟩
      have k := is_is HV.out hm1 (by decide) H2.out.1
      go_wp2_with fail
      (with_reducible refine k.mono ?_)
      clear k
      rintro e w2 ⟨rfl, hm2, ho2⟩
      have k := HC.out _ hm2 (ho1.trans ho2)
      clear hm1 ho1 hm2 ho2
      go_wp2_with fail
      (with_reducible refine k.mono ?_)
      clear k
      rintro e w3 ⟨rfl, hm3, ho3⟩
      have k := esettle_is HV.out hm3 H2.out.2
      go_wp2_with fail
      (with_reducible refine k.mono ?_)
      clear k
      rintro e w4 ⟨rfl, hm4, ho4⟩
      go_wp2_with fail
      go_end0
      exact ⟨rfl, hm4, ho3.trans ho4⟩
    | false =>
      rw [if_neg (by simp)] at h3
      obtain ⟨f, s6, h6⟩ : ∃ x s6, (fieldP o 1).run M s5 = (x, s6) := ⟨_, _, rfl⟩
      rw [Vp.run_bind_is h6] at h3
      obtain ⟨n, s7, h7⟩ : ∃ x s7, (fieldP t 1).run M s6 = (x, s7) := ⟨_, _, rfl⟩
      rw [Vp.run_bind_is h7, Vp.run_ret] at h3
      obtain ⟨x, hx⟩ : ∃ x, esideI n = x := ⟨_, rfl⟩
      rw [hx] at h3
      have cS := Lib.hid (eside_is hx)
      cases h3
      have H2 := Lib.hid (And.intro h5 (And.intro h6 h7))
      clear h5 h6 h7 hx
      go_enter Try.func67, Try.ntmps67
      go_wp2_with fail
      (with_reducible refine k.mono ?_)
      clear k
      rintro e w1 ⟨rfl, hm1, ho1⟩
      have k := is_is HV.out hm1 (by decide) H2.out.1
      go_wp2_with fail
      (with_reducible refine k.mono ?_)
      clear k
      rintro e w2 ⟨rfl, hm2, ho2⟩
      have k := field_is HV.out hm2 H2.out.2.1
      have HO := Lib.hid (ho1.trans ho2)
      clear hm1 ho1 hm2 ho2
      go_wp2_with fail
      (with_reducible refine k.mono ?_)
      clear k
      rintro e w3 ⟨rfl, hm3, ho3⟩
      have k := estt_is HV.out hm3 H2.out.2.2
      go_wp2_with fail
      (with_reducible refine k.mono ?_)
      clear k
      rintro e w4 ⟨rfl, hm4, ho4⟩
      have k := HC.out _ hm4 ((HO.out.trans ho3).trans ho4)
      clear hm3 ho3 hm4 ho4
      go_wp2_with fail
      (with_reducible refine (cS.out _).mono ?_)
      rintro e w5 ⟨rfl, hw⟩
      subst hw
      by_cases hf : f = x
      · have h := H.out.2
        rw [hf, if_pos (by simp)] at h
        have hfq : (f == x) = true := by simpa using hf
        have H3 := Lib.hid h
        clear h hf
        go_wp2_with fail
        (with_reducible refine k.mono ?_)
        clear k
        rintro e w6 ⟨rfl, hm6, ho6⟩
        have k := esettle_is HV.out hm6 H3.out
        go_wp2_with fail
        (with_reducible refine k.mono ?_)
        clear k
        rintro e w7 ⟨rfl, hm7, ho7⟩
        go_wp2_with fail
        go_end0
        exact ⟨rfl, hm7, ho6.trans ho7⟩
      · have hfq : (f == x) = false := by simpa using hf
        have h := H.out.2
        rw [hfq, if_neg (by simp)] at h
        have h := (congrArg Prod.snd h : s4 = s1)
        subst h
        clear hf
        go_wp2_with fail
        (with_reducible refine k.mono ?_)
        clear k
        rintro e w6 ⟨rfl, hm6, ho6⟩
        go_wp2_with fail
        go_end0
        exact ⟨rfl, hm6, ho6⟩
set_option maxRecDepth 100000 in
theorem ecanc_is (V : VOk M T v fR fW Mem Ok S R) (hm : Mem w s) {t : Int} {s1 : σ} (ht0 : 0 ≤ t) (ht : t ≤ 4611686018427387904) (h : (ecancP t).run M s = ((), s1)) :
    Calls Try.prog 37 #[.iface T v, .int .i64 t] w fun e w' => e = .returned (.tuple #[]) ∧ Mem w' s1 ∧ Only S w w' := by
  unfold ecancP at h
  obtain ⟨n, s2, h2⟩ : ∃ r s2, (fieldP t 1).run M s = (r, s2) := ⟨_, _, rfl⟩
  rw [Vp.run_bind_is h2] at h
  obtain ⟨s3, h3⟩ : ∃ s3, (if n = 2 ∨ n = 3 ∨ n = 6 ∨ n = 5 then eleaveP t else if n = 4 then eforgP t else .ret () : Vp Unit).run M s2 = ((), s3) := ⟨_, rfl⟩
  rw [Vp.run_bind_is h3] at h
  obtain ⟨s4, h4⟩ : ∃ s4, (putP t 1 0).run M s3 = ((), s4) := ⟨_, rfl⟩
  rw [Vp.run_bind_is h4] at h
  have k := estt_is V hm h2
  have HV := Lib.hid V
  have H := Lib.hid (And.intro h4 h)
  clear h2 hm V h4 h
  by_cases n2 : n = 2
  · subst n2
    rw [if_pos (by simp)] at h3
    have H3 := Lib.hid h3
    clear h3
    go_enter Try.func37, Try.ntmps37
    go_wp2_with fail
    (with_reducible refine k.mono ?_)
    clear k
    rintro e w1 ⟨rfl, hm1, ho1⟩
    have k := eleave_is HV.out hm1 H3.out
    clear hm1
    go_wp2_with fail
    (with_reducible refine k.mono ?_)
    clear k
    rintro e w2 ⟨rfl, hm2, ho2⟩
    have k := put_is HV.out hm2 (by decide) H.out.1
    have HO := Lib.hid (ho1.trans ho2)
    clear hm2 ho1 ho2
    go_wp2_with fail
    (with_reducible refine k.mono ?_)
    clear k
    rintro e w3 ⟨rfl, hm3, ho3⟩
    have k := eson_is HV.out hm3 (by decide) (by decide) H.out.2
    go_wp2_with fail
    (with_reducible refine k.mono ?_)
    clear k
    rintro e w4 ⟨rfl, hm4, ho4⟩
    go_wp2_with fail
    go_end0
    exact ⟨rfl, hm4, (HO.out.trans ho3).trans ho4⟩
  by_cases n3 : n = 3
  · subst n3
    rw [if_pos (by simp)] at h3
    have H3 := Lib.hid h3
    clear h3 n2
    go_enter Try.func37, Try.ntmps37
    go_wp2_with fail
    (with_reducible refine k.mono ?_)
    clear k
    rintro e w1 ⟨rfl, hm1, ho1⟩
    have k := eleave_is HV.out hm1 H3.out
    clear hm1
    go_wp2_with fail
    (with_reducible refine k.mono ?_)
    clear k
    rintro e w2 ⟨rfl, hm2, ho2⟩
    have k := put_is HV.out hm2 (by decide) H.out.1
    have HO := Lib.hid (ho1.trans ho2)
    clear hm2 ho1 ho2
    go_wp2_with fail
    (with_reducible refine k.mono ?_)
    clear k
    rintro e w3 ⟨rfl, hm3, ho3⟩
    have k := eson_is HV.out hm3 (by decide) (by decide) H.out.2
    go_wp2_with fail
    (with_reducible refine k.mono ?_)
    clear k
    rintro e w4 ⟨rfl, hm4, ho4⟩
    go_wp2_with fail
    go_end0
    exact ⟨rfl, hm4, (HO.out.trans ho3).trans ho4⟩
  by_cases n6 : n = 6
  · subst n6
    rw [if_pos (by simp)] at h3
    have H3 := Lib.hid h3
    clear h3 n2 n3
    go_enter Try.func37, Try.ntmps37
    go_wp2_with fail
    (with_reducible refine k.mono ?_)
    clear k
    rintro e w1 ⟨rfl, hm1, ho1⟩
    have k := eleave_is HV.out hm1 H3.out
    clear hm1
    go_wp2_with fail
    (with_reducible refine k.mono ?_)
    clear k
    rintro e w2 ⟨rfl, hm2, ho2⟩
    have k := put_is HV.out hm2 (by decide) H.out.1
    have HO := Lib.hid (ho1.trans ho2)
    clear hm2 ho1 ho2
    go_wp2_with fail
    (with_reducible refine k.mono ?_)
    clear k
    rintro e w3 ⟨rfl, hm3, ho3⟩
    have k := eson_is HV.out hm3 (by decide) (by decide) H.out.2
    go_wp2_with fail
    (with_reducible refine k.mono ?_)
    clear k
    rintro e w4 ⟨rfl, hm4, ho4⟩
    go_wp2_with fail
    go_end0
    exact ⟨rfl, hm4, (HO.out.trans ho3).trans ho4⟩
  by_cases n5 : n = 5
  · subst n5
    rw [if_pos (by simp)] at h3
    have H3 := Lib.hid h3
    clear h3 n2 n3 n6
    go_enter Try.func37, Try.ntmps37
    go_wp2_with fail
    (with_reducible refine k.mono ?_)
    clear k
    rintro e w1 ⟨rfl, hm1, ho1⟩
    have k := eleave_is HV.out hm1 H3.out
    clear hm1
    go_wp2_with fail
    (with_reducible refine k.mono ?_)
    clear k
    rintro e w2 ⟨rfl, hm2, ho2⟩
    have k := put_is HV.out hm2 (by decide) H.out.1
    have HO := Lib.hid (ho1.trans ho2)
    clear hm2 ho1 ho2
    go_wp2_with fail
    (with_reducible refine k.mono ?_)
    clear k
    rintro e w3 ⟨rfl, hm3, ho3⟩
    have k := eson_is HV.out hm3 (by decide) (by decide) H.out.2
    go_wp2_with fail
    (with_reducible refine k.mono ?_)
    clear k
    rintro e w4 ⟨rfl, hm4, ho4⟩
    go_wp2_with fail
    go_end0
    exact ⟨rfl, hm4, (HO.out.trans ho3).trans ho4⟩
  rw [if_neg (by omega)] at h3
  by_cases n4 : n = 4
  · subst n4
    rw [if_pos rfl] at h3
    have H3 := Lib.hid h3
    clear h3 n2 n3 n6 n5
    go_enter Try.func37, Try.ntmps37
    go_wp2_with fail
    (with_reducible refine k.mono ?_)
    clear k
    rintro e w1 ⟨rfl, hm1, ho1⟩
    have k := eforg_is HV.out hm1 ht0 ht H3.out
    clear hm1
    go_wp2_with fail
    (with_reducible refine k.mono ?_)
    clear k
    rintro e w2 ⟨rfl, hm2, ho2⟩
    have k := put_is HV.out hm2 (by decide) H.out.1
    have HO := Lib.hid (ho1.trans ho2)
    clear hm2 ho1 ho2
    go_wp2_with fail
    (with_reducible refine k.mono ?_)
    clear k
    rintro e w3 ⟨rfl, hm3, ho3⟩
    have k := eson_is HV.out hm3 (by decide) (by decide) H.out.2
    go_wp2_with fail
    (with_reducible refine k.mono ?_)
    clear k
    rintro e w4 ⟨rfl, hm4, ho4⟩
    go_wp2_with fail
    go_end0
    exact ⟨rfl, hm4, (HO.out.trans ho3).trans ho4⟩
  rw [if_neg n4] at h3
  cases h3
  go_enter Try.func37, Try.ntmps37
  go_wp2_with fail
  (with_reducible refine k.mono ?_)
  clear k
  rintro e w1 ⟨rfl, hm1, ho1⟩
  have hm2 := hm1
  have ho2 := Only.refl S w1
  clear hm1
  have k := put_is HV.out hm2 (by decide) H.out.1
  have HO := Lib.hid (ho1.trans ho2)
  clear hm2 ho1 ho2
  go_wp2_with fail
  (with_reducible refine k.mono ?_)
  clear k
  rintro e w3 ⟨rfl, hm3, ho3⟩
  have k := eson_is HV.out hm3 (by decide) (by decide) H.out.2
  go_wp2_with fail
  (with_reducible refine k.mono ?_)
  clear k
  rintro e w4 ⟨rfl, hm4, ho4⟩
  go_wp2_with fail
  go_end0
  exact ⟨rfl, hm4, (HO.out.trans ho3).trans ho4⟩
end
end Go.Proofs.Ytdkjfalhalepgaa
/- What May of package pack answers (layer 2): for every capability. -/
namespace Go.Proofs.Ytdkjfalhalepgaa
open Go.RowKit
theorem upTo_any (n m : Int) (w : World) : Calls Try.prog 92 #[.int .i64 n, .int .i64 m] w fun e w' => e = .returned (.bool (upToB n m)) ∧ w' = w := by
  go_enter Try.func92, Try.ntmps92
  go_wp2
  all_goals go_ret
  · have h : 0 ≤ n := by assumption
    exact ⟨by simp [upToB, h], rfl⟩
  · have h : n < 0 := by assumption
    exact ⟨by rw [upToB_no (by omega)]; rfl, rfl⟩
section
variable (c : Cp) (w : World)
theorem upTo_no (n m : Int) (w : World) (h : upToB n m = false) : Calls Try.prog 92 #[.int .i64 n, .int .i64 m] w fun e w' => e = .returned (.bool false) ∧ w' = w :=
  (upTo_any n m w).mono fun _ _ ⟨he, hw⟩ => ⟨by rw [he, h], hw⟩
def MbPost (w : World) (b : Bool) (e : Ending) (w' : World) : Prop := e = .returned (.bool b) ∧ Only [] w w'
theorem mayBadge_yes (h : (c.kind == 3) = true ∨ (c.kind == 3) = false ∧ (c.kind == 4) = true) : Calls Try.prog 93 #[c.v] w (MbPost w (upToB c.badge 65535)) := by
  rcases h with hd | ⟨hd, hd4⟩
  · go_enter Try.func93, Try.ntmps93
    go_wp2_with (go_at_call 92; refine (upTo_any _ _ _).mono ?_; rintro e w' ⟨rfl, rfl⟩)
    go_ret
    exact ⟨rfl, (Only.refl _ _).alloc _⟩
  · go_enter Try.func93, Try.ntmps93
    go_wp2_with (go_at_call 92; refine (upTo_any _ _ _).mono ?_; rintro e w' ⟨rfl, rfl⟩)
    go_ret
    exact ⟨rfl, (Only.refl _ _).alloc _⟩
theorem mayBadge_no (hd : (c.kind == 3) = false) (hd4 : (c.kind == 4) = false) : Calls Try.prog 93 #[c.v] w (MbPost w (c.badge == 0)) := by
  go_enter Try.func93, Try.ntmps93
  go_wp2
  go_ret
  exact ⟨rfl, (Only.refl _ _).alloc _⟩
theorem mayBadge_any : Calls Try.prog 93 #[c.v] w fun e w' => e = .returned (.bool (mayBadgeB c.kind c.badge)) ∧ Only [] w w' := by
  by_cases h3 : c.kind = 3
  · rw [mayBadgeB_yes (.inl h3)]; exact mayBadge_yes c w (.inl (by simp [h3]))
  · by_cases h4 : c.kind = 4
    · rw [mayBadgeB_yes (.inr h4)]; exact mayBadge_yes c w (.inr (by simp [h4]))
    · rw [mayBadgeB_no h3 h4]; exact mayBadge_no c w (by simpa using h3) (by simpa using h4)
theorem mayGuard_in (hd : (c.kind != 2) = false) (hn0 : 0 ≤ c.bits) (hn8 : c.bits ≤ 8) : Calls Try.prog 94 #[c.v] w (MbPost w (upToB c.guard (2 ^ c.bits.toNat - 1))) := by
  obtain ⟨hp1, hp2⟩ := pow_le c.bits hn0 hn8
  have hmin : min c.bits.toNat 64 = c.bits.toNat := by omega
  have hw1 : IntKind.i64.wrap (2 ^ c.bits.toNat) = 2 ^ c.bits.toNat := IntWalk.i64_in _ (by omega)
  have hw2 : IntKind.i64.wrap (2 ^ c.bits.toNat - 1) = 2 ^ c.bits.toNat - 1 := IntWalk.i64_in _ (by omega)
  have ht := upToB_yes hn0 hn8
  go_enter Try.func94, Try.ntmps94
  go_wp2
  go_quiet ((go_at_call 92; exact Calls.quiet_of_same (upTo_any _ _ _)))
  go_wp2
  go_ret
  exact ⟨rfl, ((Only.refl _ _).alloc _).drewN _⟩
theorem mayGuard_out (hd : (c.kind != 2) = false) (hn : c.bits < 0 ∨ 8 < c.bits) : Calls Try.prog 94 #[c.v] w (MbPost w false) := by
  have ht := Lib.hid (upToB_no hn)
  clear hn
  go_enter Try.func94, Try.ntmps94
  go_wp2
  go_quiet ((go_at_call 92; exact Calls.quiet_of_same (upTo_no _ _ _ ht.out)))
  go_wp2
  go_ret
  exact ⟨rfl, ((Only.refl _ _).alloc _).drewN _⟩
theorem mayGuard_no1 (hd : (c.kind != 2) = true) (hz : (c.bits == 0) = true) : Calls Try.prog 94 #[c.v] w (MbPost w (c.guard == 0)) := by
  go_enter Try.func94, Try.ntmps94
  go_wp2
  go_ret
  exact ⟨rfl, (Only.refl _ _).alloc _⟩
theorem mayGuard_no2 (hd : (c.kind != 2) = true) (hz : (c.bits == 0) = false) : Calls Try.prog 94 #[c.v] w (MbPost w false) := by
  go_enter Try.func94, Try.ntmps94
  go_wp2
  go_ret
  exact ⟨rfl, (Only.refl _ _).alloc _⟩
theorem mayGuard_any : Calls Try.prog 94 #[c.v] w fun e w' => e = .returned (.bool (mayGuardB c.kind c.guard c.bits)) ∧ Only [] w w' := by
  by_cases h2 : c.kind = 2
  · have hd : (c.kind != 2) = false := by simp [h2]
    by_cases hn : c.bits < 0 ∨ 8 < c.bits
    · rw [mayGuardB_out h2 hn]; exact mayGuard_out c w hd hn
    · rw [mayGuardB_in h2 (by omega) (by omega)]; exact mayGuard_in c w hd (by omega) (by omega)
  · have hd : (c.kind != 2) = true := by simpa using h2
    rw [mayGuardB_no h2]
    by_cases hz : c.bits = 0
    · have hz' : (c.bits == 0) = true := by simp [hz]
      rw [hz', Bool.true_and]; exact mayGuard_no1 c w hd hz'
    · have hz' : (c.bits == 0) = false := by simpa using hz
      rw [hz', Bool.false_and]; exact mayGuard_no2 c w hd hz'
end
section
variable (c : Cp) (w : World)
theorem may_null (hd : (c.kind == 0) = true) : Calls Try.prog 89 #[c.v] w (MbPost w ((c.rights == 0) && (c.obj == 0) && (c.badge == 0) && (c.guard == 0) && (c.bits == 0))) := by
  go_enter Try.func89, Try.ntmps89
  go_wp2
  all_goals go_ret
  all_goals exact ⟨by simp_all, (Only.refl _ _).alloc _⟩
theorem may_real (hd : (c.kind == 0) = false) : Calls Try.prog 89 #[c.v] w (MbPost w (upToB c.kind 8 && upToB c.rights 7 && upToB c.obj 31 && mayBadgeB c.kind c.badge && mayGuardB c.kind c.guard c.bits)) := by
  go_enter Try.func89, Try.ntmps89
  go_wp2_with (first | (go_at_call 92; refine (upTo_any _ _ _).mono ?_; rintro e w' ⟨rfl, rfl⟩) | (go_at_call 93; refine (mayBadge_any _ _).mono ?_; rintro e w' ⟨rfl, ho1⟩; obtain ⟨k0, k1, k2, k3, k4, k5⟩ := (ho1.blk (Blk.new w 30 c.arr) (by simp)).six) | (go_at_call 94; refine (mayGuard_any _ _).mono ?_; rintro e w' ⟨rfl, ho2⟩))
  all_goals go_ret
  all_goals refine ⟨by simp [*], ?_⟩
  all_goals first
    | exact ((Only.refl _ _).alloc _).trans (ho1.trans ho2)
    | exact ((Only.refl _ _).alloc _).trans ho1
    | exact (Only.refl _ _).alloc _
theorem may_any : Calls Try.prog 89 #[c.v] w (MbPost w c.mayB) := by
  by_cases hk : c.kind = 0
  · rw [Cp.mayB_null hk]; exact may_null c w (by simp [hk])
  · rw [Cp.mayB_real hk]; exact may_real c w (by simpa using hk)
theorem may_yes (h : c.may) : Calls Try.prog 89 #[c.v] w fun e w' => e = .returned (.bool true) ∧ Only [] w w' :=
  (may_any c w).mono fun _ _ ⟨he, ho⟩ => ⟨by rw [he, show c.mayB = true from decide_eq_true h], ho⟩
theorem may_no (h : ¬ c.may) : Calls Try.prog 89 #[c.v] w fun e w' => e = .returned (.bool false) ∧ Only [] w w' :=
  (may_any c w).mono fun _ _ ⟨he, ho⟩ => ⟨by rw [he, show c.mayB = false from decide_eq_false h], ho⟩
end
end Go.Proofs.Ytdkjfalhalepgaa
/- What Get of package pack answers (layer 2): for every word below 2 to the power of 64. -/
namespace Go.Proofs.Ytdkjfalhalepgaa
open Go.RowKit
theorem part_any (x a b : Int) (h0 : 0 ≤ x) (ha : 0 ≤ a) (hab : a ≤ b) (hb : b ≤ 64) (h63 : b - a ≤ 62) (w : World) :
    Calls Try.prog 91 #[.int .u64 x, .int .i64 a, .int .i64 b] w fun e w' => e = .returned (.int .i64 (x / 2 ^ a.toNat % 2 ^ (b - a).toNat)) ∧ w' = w := by
  go_enter Try.func91, Try.ntmps91
  go_wp2
  go_ret
  exact ⟨by rw [← part_int x a b h0 ha hab hb h63]; rfl, rfl⟩
section
variable (w : World)
theorem get_yes (x : Int) (h0 : 0 ≤ x) (_hx : x < 18446744073709551616) (h : (Cp.of x).may) : Calls Try.prog 87 #[.int .u64 x] w fun e w' => e = .returned (.tuple #[(Cp.of x).v, .nilIface]) ∧ Only [] w w' := by
  have H := Lib.hid (show (Cp.mk (x % 16) (x / 16 % 8) (x / 128 % 32) (x / 4096 % 65536) (x / 4294967296 % 4294967296) (x / 268435456 % 16)).may from h)
  clear h
  go_enter Try.func87, Try.ntmps87
  go_wp2_with (go_at_call 91; refine (part_any _ _ _ (by omega) (by omega) (by omega) (by omega) (by omega) _).mono ?_; rintro e w' ⟨rfl, rfl⟩)
  (with_reducible refine (may_yes ⟨_, _, _, _, _, _⟩ _ H.out).mono ?_)
  rintro e w' ⟨rfl, ho1⟩
  have hb1 : Blk w' w.heap.size 30 #[.int .i64 0, .int .i64 0, .int .i64 0, .int .i64 0, .int .i64 0, .int .i64 0] := ho1.blk ((Blk.new w _ _).alloc _) (by simp)
  have hb2 := ho1.blk (Blk.new _ _ _) (by simp)
  rw [show (w.alloc _).heap.size = w.heap.size + 1 by simp] at hb2
  obtain ⟨k0, k1, k2, k3, k4, k5⟩ := hb1.cap
  obtain ⟨l0, l1, l2, l3, l4, l5⟩ := hb2.cap
  have f0 : w'.frozen? ⟨w.heap.size, 0, none⟩ = false := hb1.frozen 0
  have f1 : w'.frozen? ⟨w.heap.size, 1, none⟩ = false := hb1.frozen 1
  have f2 : w'.frozen? ⟨w.heap.size, 2, none⟩ = false := hb1.frozen 2
  have f3 : w'.frozen? ⟨w.heap.size, 3, none⟩ = false := hb1.frozen 3
  have f4 : w'.frozen? ⟨w.heap.size, 4, none⟩ = false := hb1.frozen 4
  have f5 : w'.frozen? ⟨w.heap.size, 5, none⟩ = false := hb1.frozen 5
  go_wp2
  refine bodyPost_ret (v := .tuple #[.agg #[.int .i64 (x % 16), .int .i64 (x / 16 % 8), .int .i64 (x / 128 % 32), .int .i64 (x / 4096 % 65536), .int .i64 (x / 4294967296 % 4294967296), .int .i64 (x / 268435456 % 16)], .nilIface]) (by simp [results, Try.results87, go_sem, k0, k1, k2, k3, k4, k5]) rfl ⟨rfl, ?_⟩
  have ho := ((Only.refl [] w).alloc _).alloc _ |>.trans ho1
  exact (((((ho.setCell (.inr (Nat.le_refl _)) _).setCell (.inr (Nat.le_refl _)) _).setCell (.inr (Nat.le_refl _)) _).setCell (.inr (Nat.le_refl _)) _).setCell (.inr (Nat.le_refl _)) _).setCell (.inr (Nat.le_refl _)) _
theorem get_no (x : Int) (h0 : 0 ≤ x) (_hx : x < 18446744073709551616) (h : ¬ (Cp.of x).may) : Calls Try.prog 87 #[.int .u64 x] w fun e w' => e = .returned (.tuple #[.agg #[.int .i64 0, .int .i64 0, .int .i64 0, .int .i64 0, .int .i64 0, .int .i64 0], .iface 70 (.int .i64 1)]) ∧ Only [] w w' := by
  have H := Lib.hid (show ¬ (Cp.mk (x % 16) (x / 16 % 8) (x / 128 % 32) (x / 4096 % 65536) (x / 4294967296 % 4294967296) (x / 268435456 % 16)).may from h)
  clear h
  go_enter Try.func87, Try.ntmps87
  go_wp2_with (go_at_call 91; refine (part_any _ _ _ (by omega) (by omega) (by omega) (by omega) (by omega) _).mono ?_; rintro e w' ⟨rfl, rfl⟩)
  (with_reducible refine (may_no ⟨_, _, _, _, _, _⟩ _ H.out).mono ?_)
  rintro e w' ⟨rfl, ho1⟩
  have hb1 : Blk w' w.heap.size 30 #[.int .i64 0, .int .i64 0, .int .i64 0, .int .i64 0, .int .i64 0, .int .i64 0] := ho1.blk ((Blk.new w _ _).alloc _) (by simp)
  obtain ⟨k0, k1, k2, k3, k4, k5⟩ := hb1.cap
  have f0 : w'.frozen? ⟨w.heap.size, 0, none⟩ = false := hb1.frozen 0
  have f1 : w'.frozen? ⟨w.heap.size, 1, none⟩ = false := hb1.frozen 1
  have f2 : w'.frozen? ⟨w.heap.size, 2, none⟩ = false := hb1.frozen 2
  have f3 : w'.frozen? ⟨w.heap.size, 3, none⟩ = false := hb1.frozen 3
  have f4 : w'.frozen? ⟨w.heap.size, 4, none⟩ = false := hb1.frozen 4
  have f5 : w'.frozen? ⟨w.heap.size, 5, none⟩ = false := hb1.frozen 5
  go_wp2
  refine bodyPost_ret (v := .tuple #[.agg #[.int .i64 0, .int .i64 0, .int .i64 0, .int .i64 0, .int .i64 0, .int .i64 0], .iface 70 (.int .i64 1)]) (by simp [results, Try.results87, go_sem, k0, k1, k2, k3, k4, k5]) rfl ⟨rfl, ?_⟩
  have ho := ((Only.refl [] w).alloc _).alloc _ |>.trans ho1
  exact (((((ho.setCell (.inr (Nat.le_refl _)) _).setCell (.inr (Nat.le_refl _)) _).setCell (.inr (Nat.le_refl _)) _).setCell (.inr (Nat.le_refl _)) _).setCell (.inr (Nat.le_refl _)) _).setCell (.inr (Nat.le_refl _)) _
end
end Go.Proofs.Ytdkjfalhalepgaa
