/- What Ref of package lay answers (layer 9), of any view: the object that a field tells. -/
import Derived.Test.YtloeofhchfaieaaJ12
import Derived.Test.YtloeofhchfaieaaJ10
namespace Go.Proofs.Ytloeofhchfaieaa
open Go.RowKit
section
variable {σ : Type} {M : Mach σ} {T : TypeId} {v : Value} {fR fW : FuncId} {Mem : World → σ → Prop} {Ok : σ → Prop} {S R : List Nat} {w : World} {s : σ}
theorem ref_any (V : VOk M T v fR fW Mem Ok S R) (hm : Mem w s) (o f : Int) :
    Calls Try.prog 34 #[.iface T v, .int .i64 o, .int .i64 f] w fun e w' => e = .returned (.tuple #[.int .i64 ((refP o f).run M s).1.1, .bool ((refP o f).run M s).1.2]) ∧ Mem w' ((refP o f).run M s).2 ∧ Only S w w' := by
  have hr := field_rng V (V.ok w s hm) o f
  obtain ⟨x, s1, hrd⟩ : ∃ x s1, (fieldP o f).run M s = (x, s1) := ⟨_, _, rfl⟩
  unfold refP
  rw [Vp.run_bind_is hrd, Vp.run_ret]
  have cF := field_is V hm hrd
  rw [hrd] at hr
  obtain ⟨h0, h1⟩ : 0 ≤ x ∧ x ≤ 4611686018427387904 := hr
  clear hrd hm
  cases hb : belowB (x - 1) 32 with
  | false =>
    have cB := Lib.hid (below_is hb)
    clear hb
    go_enter Try.func34, Try.ntmps34
    go_wp2_with (first | (go_at_call 41; (with_reducible refine (cB.out _).mono ?_); rintro e w' ⟨rfl, rfl⟩) | (go_at_call 25; (with_reducible refine cF.mono ?_); clear cF; rintro e w1 ⟨rfl, hm1, ho1⟩))
    go_ret2
    exact ⟨rfl, hm1, ho1⟩
  | true =>
    have cB := Lib.hid (below_is hb)
    clear hb
    go_enter Try.func34, Try.ntmps34
    go_wp2_with (first | (go_at_call 41; (with_reducible refine (cB.out _).mono ?_); rintro e w' ⟨rfl, rfl⟩) | (go_at_call 25; (with_reducible refine cF.mono ?_); clear cF; rintro e w1 ⟨rfl, hm1, ho1⟩))
    go_ret2
    exact ⟨rfl, hm1, ho1⟩
theorem ref_is (V : VOk M T v fR fW Mem Ok S R) (hm : Mem w s) {o f x : Int} {q : Bool} {s1 : σ} (h : (refP o f).run M s = ((x, q), s1)) :
    Calls Try.prog 34 #[.iface T v, .int .i64 o, .int .i64 f] w fun e w' => e = .returned (.tuple #[.int .i64 x, .bool q]) ∧ Mem w' s1 ∧ Only S w w' := by
  have q := ref_any V hm o f
  rwa [h] at q
end
end Go.Proofs.Ytloeofhchfaieaa
/- What Put of package lay does (layer 9), to any view: a field becomes a number. -/
namespace Go.Proofs.Ytloeofhchfaieaa
open Go.RowKit
section
variable {σ : Type} {M : Mach σ} {T : TypeId} {v : Value} {fR fW : FuncId} {Mem : World → σ → Prop} {Ok : σ → Prop} {S R : List Nat} {w : World} {s : σ}
theorem put_any (V : VOk M T v fR fW Mem Ok S R) (hm : Mem w s) (o f n : Int) (hn : n ≤ 9223372036854775807) :
    Calls Try.prog 24 #[.iface T v, .int .i64 o, .int .i64 f, .int .i64 n] w fun e w' => e = .returned (.tuple #[]) ∧ Mem w' ((putP o f n).run M s).2 ∧ Only S w w' := by
  have mW := V.mW
  have nW := V.nW
  have eW := V.eW
  unfold putP
  obtain ⟨a, ha⟩ : ∃ a, objI o f = a := ⟨_, rfl⟩
  cases hb : objB o f with
  | false =>
    rw [Vp.run_no (by simp), Vp.run_ret]
    have cO := Lib.hid (obj_is ha hb)
    clear hb ha
    go_enter Try.func24, Try.ntmps24
    go_wp2_with (go_at_call 33; (with_reducible refine (cO.out _).mono ?_); rintro e w' ⟨rfl, rfl⟩)
    go_end0
    exact ⟨rfl, hm, Only.refl _ _⟩
  | true =>
    have cO := Lib.hid (obj_is ha hb)
    by_cases h0 : 0 ≤ n
    · rw [Vp.run_yes ⟨rfl, h0⟩, Vp.run_wr, Vp.run_ret, ha]
      have cW := V.wr w s a n hm ⟨h0, by omega⟩
      clear hb ha hm
      go_enter Try.func24, Try.ntmps24
      go_wp2_with (first | (go_at_call 33; (with_reducible refine (cO.out _).mono ?_); rintro e w' ⟨rfl, rfl⟩) | ((with_reducible refine cW.mono ?_); clear cW; rintro e w1 ⟨rfl, hm1, ho1⟩))
      go_end0
      exact ⟨rfl, hm1, ho1⟩
    · rw [Vp.run_no (by simpa using h0), Vp.run_ret]
      have h0' : n < 0 := by omega
      clear hb ha h0
      go_enter Try.func24, Try.ntmps24
      go_wp2_with (go_at_call 33; (with_reducible refine (cO.out _).mono ?_); rintro e w' ⟨rfl, rfl⟩)
      go_end0
      exact ⟨rfl, hm, Only.refl _ _⟩
theorem put_is (V : VOk M T v fR fW Mem Ok S R) (hm : Mem w s) {o f n : Int} {s1 : σ} (hn : n ≤ 9223372036854775807) (h : (putP o f n).run M s = ((), s1)) :
    Calls Try.prog 24 #[.iface T v, .int .i64 o, .int .i64 f, .int .i64 n] w fun e w' => e = .returned (.tuple #[]) ∧ Mem w' s1 ∧ Only S w w' := by
  have q := put_any V hm o f n hn
  rwa [h] at q
end
end Go.Proofs.Ytloeofhchfaieaa
/- What is, put, tell, setOn, side, State, On of package endp answer and do (layer 15), of any view. -/
namespace Go.Proofs.Ytloeofhchfaieaa
open Go.RowKit
theorem eis_any (i : Int) (w : World) : Calls Try.prog 38 #[.int .i64 i] w fun e w' => e = .returned (.bool (objB i 0)) ∧ w' = w := by
  obtain ⟨a, ha⟩ : ∃ a, objI i 0 = a := ⟨_, rfl⟩
  obtain ⟨q, hq⟩ : ∃ q, objB i 0 = q := ⟨_, rfl⟩
  rw [hq]
  have cO := Lib.hid (obj_is ha hq)
  clear ha hq
  go_enter Try.func38, Try.ntmps38
  go_wp2_with (go_at_call 33; (with_reducible refine (cO.out _).mono ?_); rintro e w' ⟨rfl, rfl⟩)
  go_ret
  exact ⟨rfl, rfl⟩
theorem eis_is {i : Int} {q : Bool} (h : objB i 0 = q) (w : World) : Calls Try.prog 38 #[.int .i64 i] w fun e w' => e = .returned (.bool q) ∧ w' = w := h ▸ eis_any i w
section
variable {σ : Type} {M : Mach σ} {T : TypeId} {v : Value} {fR fW : FuncId} {Mem : World → σ → Prop} {Ok : σ → Prop} {S R : List Nat} {w : World} {s : σ}
theorem field_in (V : VOk M T v fR fW Mem Ok S R) (hm : Mem w s) {o f x : Int} {s1 : σ} (h : (fieldP o f).run M s = (x, s1)) : 0 ≤ x ∧ x ≤ 4611686018427387904 := by
  have := field_rng V (V.ok w s hm) o f
  rw [h] at this
  exact this
theorem estt_is (V : VOk M T v fR fW Mem Ok S R) (hm : Mem w s) {t x : Int} {s1 : σ} (h : (fieldP t 1).run M s = (x, s1)) :
    Calls Try.prog 17 #[.iface T v, .int .i64 t] w fun e w' => e = .returned (.int .i64 x) ∧ Mem w' s1 ∧ Only S w w' := by
  have c := field_is V hm h
  clear h hm
  go_enter Try.func17, Try.ntmps17
  go_wp2_with ((with_reducible refine c.mono ?_); clear c; rintro e w1 ⟨rfl, hm1, ho1⟩)
  go_ret
  exact ⟨rfl, hm1, ho1⟩
theorem eput_is (V : VOk M T v fR fW Mem Ok S R) (hm : Mem w s) {o f n m : Int} {s1 : σ} (hn : max n 0 = m) (hn2 : n ≤ 9223372036854775807) (h : (putP o f m).run M s = ((), s1)) :
    Calls Try.prog 39 #[.iface T v, .int .i64 o, .int .i64 f, .int .i64 n] w fun e w' => e = .returned (.tuple #[]) ∧ Mem w' s1 ∧ Only S w w' := by
  have c := put_is V hm (by omega) h
  clear h hm
  by_cases h0 : 0 ≤ n
  · obtain rfl : n = m := by omega
    clear hn
    go_enter Try.func39, Try.ntmps39
    go_wp2_with fail
    (with_reducible refine c.mono ?_)
    clear c
    rintro e w1 ⟨rfl, hm1, ho1⟩
    go_wp2_with fail
    go_end0
    exact ⟨rfl, hm1, ho1⟩
  · obtain rfl : m = 0 := by omega
    clear hn
    have h0 : n < 0 := by omega
    go_enter Try.func39, Try.ntmps39
    go_wp2_with fail
    (with_reducible refine c.mono ?_)
    clear c
    rintro e w1 ⟨rfl, hm1, ho1⟩
    go_wp2_with fail
    go_end0
    exact ⟨rfl, hm1, ho1⟩
theorem etell_is (V : VOk M T v fR fW Mem Ok S R) (hm : Mem w s) {t n b : Int} {s1 : σ} (hn : n ≤ 9223372036854775807) (hb : b ≤ 9223372036854775807) (h : (etellP t n b).run M s = ((), s1)) :
    Calls Try.prog 37 #[.iface T v, .int .i64 t, .int .i64 n, .int .i64 b] w fun e w' => e = .returned (.tuple #[]) ∧ Mem w' s1 ∧ Only S w w' := by
  unfold etellP at h
  obtain ⟨s2, h2⟩ : ∃ s2, (putP t 3 (max n 0)).run M s = ((), s2) := ⟨_, rfl⟩
  rw [Vp.run_bind_is h2] at h
  have c := eput_is V hm rfl hn h2
  have HV := Lib.hid V
  have H := Lib.hid (And.intro h hb)
  clear h h2 hm V hb hn
  go_enter Try.func37, Try.ntmps37
  go_wp2_with fail
  (with_reducible refine c.mono ?_)
  clear c
  rintro e w1 ⟨rfl, hm1, ho1⟩
  have c := eput_is HV.out hm1 rfl H.out.2 H.out.1
  go_wp2_with fail
  (with_reducible refine c.mono ?_)
  clear c
  rintro e w2 ⟨rfl, hm2, ho2⟩
  go_wp2_with fail
  go_end0
  exact ⟨rfl, hm2, ho1.trans ho2⟩
theorem eson_is (V : VOk M T v fR fW Mem Ok S R) (hm : Mem w s) {t o : Int} {s1 : σ} (h0 : 0 ≤ o) (h1 : o ≤ 1000) (h : (eonP t o).run M s = ((), s1)) :
    Calls Try.prog 36 #[.iface T v, .int .i64 t, .int .i64 o] w fun e w' => e = .returned (.tuple #[]) ∧ Mem w' s1 ∧ Only S w w' := by
  unfold eonP at h
  obtain ⟨n, s2, h2⟩ : ∃ n s2, (fieldP t 5).run M s = (n, s2) := ⟨_, _, rfl⟩
  rw [Vp.run_bind_is h2] at h
  obtain ⟨hn0, hn1⟩ := field_in V hm h2
  have c := field_is V hm h2
  have HV := Lib.hid V
  have hx := Int.tmod_eq_emod_of_nonneg (b := 256) hn0
  have hx0 : 0 ≤ n % 256 := by omega
  have hx1 : n % 256 < 256 := by omega
  obtain ⟨z, hz⟩ : ∃ z, o * 256 + n % 256 = z := ⟨_, rfl⟩
  rw [hz] at h
  have hz0 : 0 ≤ z := by omega
  have hz1 : z ≤ 300000 := by omega
  have H := Lib.hid h
  clear h h2 hm V
  go_enter Try.func36, Try.ntmps36
  go_wp2_with fail
  (with_reducible refine c.mono ?_)
  clear c
  rintro e w1 ⟨rfl, hm1, ho1⟩
  have c := put_is HV.out hm1 (by omega) H.out
  go_wp2_with fail
  (with_reducible refine c.mono ?_)
  clear c
  rintro e w2 ⟨rfl, hm2, ho2⟩
  go_wp2_with fail
  go_end0
  exact ⟨rfl, hm2, ho1.trans ho2⟩
end
end Go.Proofs.Ytloeofhchfaieaa
