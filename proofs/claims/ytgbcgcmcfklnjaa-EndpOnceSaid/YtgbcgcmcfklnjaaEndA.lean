/- What is, put, tell, setOn, side, State, On of package endp answer and do (layer 15), of any view. -/
import Derived.Test.YtgbcgcmcfklnjaaJ12
namespace Go.Proofs.Ytgbcgcmcfklnjaa
open Go.RowKit
theorem eis_any (i : Int) (w : World) : Calls Try.prog 17 #[.int .i64 i] w fun e w' => e = .returned (.bool (objB i 0)) ∧ w' = w := by
  obtain ⟨a, ha⟩ : ∃ a, objI i 0 = a := ⟨_, rfl⟩
  obtain ⟨q, hq⟩ : ∃ q, objB i 0 = q := ⟨_, rfl⟩
  rw [hq]
  have cO := Lib.hid (obj_is ha hq)
  clear ha hq
  go_enter Try.func17, Try.ntmps17
  go_wp2_with (go_at_call 26; (with_reducible refine (cO.out _).mono ?_); rintro e w' ⟨rfl, rfl⟩)
  go_ret
  exact ⟨rfl, rfl⟩
theorem eis_is {i : Int} {q : Bool} (h : objB i 0 = q) (w : World) : Calls Try.prog 17 #[.int .i64 i] w fun e w' => e = .returned (.bool q) ∧ w' = w := h ▸ eis_any i w
theorem eside_is {n x : Int} (h : esideI n = x) (w : World) : Calls Try.prog 31 #[.int .i64 n] w fun e w' => e = .returned (.int .i64 x) ∧ w' = w := by
  subst h
  unfold esideI
  by_cases h2 : n = 2
  · subst h2
    go_enter Try.func31, Try.ntmps31
    go_wp2_with fail
    go_ret
    exact ⟨rfl, rfl⟩
  by_cases h6 : n = 6
  · subst h6
    go_enter Try.func31, Try.ntmps31
    go_wp2_with fail
    go_ret
    exact ⟨rfl, rfl⟩
  by_cases h3 : n = 3
  · subst h3
    go_enter Try.func31, Try.ntmps31
    go_wp2_with fail
    go_ret
    exact ⟨rfl, rfl⟩
  rw [if_neg h2, if_neg h6, if_neg h3]
  go_enter Try.func31, Try.ntmps31
  go_wp2_with fail
  go_ret
  exact ⟨rfl, rfl⟩
section
variable {σ : Type} {M : Mach σ} {T : TypeId} {v : Value} {fR fW : FuncId} {Mem : World → σ → Prop} {Ok : σ → Prop} {S R : List Nat} {w : World} {s : σ}
theorem field_in (V : VOk M T v fR fW Mem Ok S R) (hm : Mem w s) {o f x : Int} {s1 : σ} (h : (fieldP o f).run M s = (x, s1)) : 0 ≤ x ∧ x ≤ 4611686018427387904 := by
  have := field_rng V (V.ok w s hm) o f
  rw [h] at this
  exact this
theorem estt_is (V : VOk M T v fR fW Mem Ok S R) (hm : Mem w s) {t x : Int} {s1 : σ} (h : (fieldP t 1).run M s = (x, s1)) :
    Calls Try.prog 8 #[.iface T v, .int .i64 t] w fun e w' => e = .returned (.int .i64 x) ∧ Mem w' s1 ∧ Only S w w' := by
  have c := field_is V hm h
  clear h hm
  go_enter Try.func8, Try.ntmps8
  go_wp2_with ((with_reducible refine c.mono ?_); clear c; rintro e w1 ⟨rfl, hm1, ho1⟩)
  go_ret
  exact ⟨rfl, hm1, ho1⟩
theorem eput_is (V : VOk M T v fR fW Mem Ok S R) (hm : Mem w s) {o f n m : Int} {s1 : σ} (hn : max n 0 = m) (hn2 : n ≤ 9223372036854775807) (h : (putP o f m).run M s = ((), s1)) :
    Calls Try.prog 29 #[.iface T v, .int .i64 o, .int .i64 f, .int .i64 n] w fun e w' => e = .returned (.tuple #[]) ∧ Mem w' s1 ∧ Only S w w' := by
  have c := put_is V hm (by omega) h
  clear h hm
  by_cases h0 : 0 ≤ n
  · obtain rfl : n = m := by omega
    clear hn
    go_enter Try.func29, Try.ntmps29
    go_wp2_with fail
    (with_reducible refine c.mono ?_)
    clear c
    rintro e w1 ⟨rfl, hm1, ho1⟩
    go_wp2_with fail
    go_end0
    exact ⟨rfl, hm1, ho1⟩
  · obtain rfl : m = 0 := by omega
    clear hn
    have h0 : n < 0 := by omega
    go_enter Try.func29, Try.ntmps29
    go_wp2_with fail
    (with_reducible refine c.mono ?_)
    clear c
    rintro e w1 ⟨rfl, hm1, ho1⟩
    go_wp2_with fail
    go_end0
    exact ⟨rfl, hm1, ho1⟩
theorem etell_is (V : VOk M T v fR fW Mem Ok S R) (hm : Mem w s) {t n b : Int} {s1 : σ} (hn : n ≤ 9223372036854775807) (hb : b ≤ 9223372036854775807) (h : (etellP t n b).run M s = ((), s1)) :
    Calls Try.prog 21 #[.iface T v, .int .i64 t, .int .i64 n, .int .i64 b] w fun e w' => e = .returned (.tuple #[]) ∧ Mem w' s1 ∧ Only S w w' := by
  unfold etellP at h
  obtain ⟨s2, h2⟩ : ∃ s2, (putP t 3 (max n 0)).run M s = ((), s2) := ⟨_, rfl⟩
  rw [Vp.run_bind_is h2] at h
  have c := eput_is V hm rfl hn h2
  have HV := Lib.hid V
  have H := Lib.hid (And.intro h hb)
  clear h h2 hm V hb hn
  go_enter Try.func21, Try.ntmps21
  go_wp2_with fail
  (with_reducible refine c.mono ?_)
  clear c
  rintro e w1 ⟨rfl, hm1, ho1⟩
  have c := eput_is HV.out hm1 rfl H.out.2 H.out.1
  go_wp2_with fail
  (with_reducible refine c.mono ?_)
  clear c
  rintro e w2 ⟨rfl, hm2, ho2⟩
  go_wp2_with fail
  go_end0
  exact ⟨rfl, hm2, ho1.trans ho2⟩
theorem eson_is (V : VOk M T v fR fW Mem Ok S R) (hm : Mem w s) {t o : Int} {s1 : σ} (h0 : 0 ≤ o) (h1 : o ≤ 1000) (h : (eonP t o).run M s = ((), s1)) :
    Calls Try.prog 24 #[.iface T v, .int .i64 t, .int .i64 o] w fun e w' => e = .returned (.tuple #[]) ∧ Mem w' s1 ∧ Only S w w' := by
  unfold eonP at h
  obtain ⟨n, s2, h2⟩ : ∃ n s2, (fieldP t 5).run M s = (n, s2) := ⟨_, _, rfl⟩
  rw [Vp.run_bind_is h2] at h
  obtain ⟨hn0, hn1⟩ := field_in V hm h2
  have c := field_is V hm h2
  have HV := Lib.hid V
  have hx := Int.tmod_eq_emod_of_nonneg (b := 256) hn0
  have hx0 : 0 ≤ n % 256 := by omega
  have hx1 : n % 256 < 256 := by omega
  obtain ⟨z, hz⟩ : ∃ z, o * 256 + n % 256 = z := ⟨_, rfl⟩
  rw [hz] at h
  have hz0 : 0 ≤ z := by omega
  have hz1 : z ≤ 300000 := by omega
  have H := Lib.hid h
  clear h h2 hm V
  go_enter Try.func24, Try.ntmps24
  go_wp2_with fail
  (with_reducible refine c.mono ?_)
  clear c
  rintro e w1 ⟨rfl, hm1, ho1⟩
  have c := put_is HV.out hm1 (by omega) H.out
  go_wp2_with fail
  (with_reducible refine c.mono ?_)
  clear c
  rintro e w2 ⟨rfl, hm2, ho2⟩
  go_wp2_with fail
  go_end0
  exact ⟨rfl, hm2, ho1.trans ho2⟩
theorem eonq_is (V : VOk M T v fR fW Mem Ok S R) (hm : Mem w s) {t x : Int} {b : Bool} {s1 : σ} (h : (eonQ t).run M s = ((x, b), s1)) :
    Calls Try.prog 12 #[.iface T v, .int .i64 t] w fun e w' => e = .returned (.tuple #[.int .i64 x, .bool b]) ∧ Mem w' s1 ∧ Only S w w' := by
  unfold eonQ at h
  obtain ⟨n, s2, h2⟩ : ∃ n s2, (fieldP t 5).run M s = (n, s2) := ⟨_, _, rfl⟩
  rw [Vp.run_bind_is h2, Vp.run_ret] at h
  obtain ⟨hn0, hn1⟩ := field_in V hm h2
  have c := field_is V hm h2
  have hx := Int.tdiv_eq_ediv_of_nonneg (b := 256) hn0
  obtain ⟨z, hz⟩ : ∃ z, n / 256 - 1 = z := ⟨_, rfl⟩
  rw [hz] at h
  obtain ⟨q, hq⟩ : ∃ q, objB z 0 = q := ⟨_, rfl⟩
  rw [hq] at h
  have cO := Lib.hid (eis_is hq)
  have hz0 : -1 ≤ z := by omega
  have hz1 : z ≤ 4611686018427387904 := by omega
  cases q with
  | true =>
    rw [if_pos rfl] at h
    cases h
    clear h2 hm hq V
    go_enter Try.func12, Try.ntmps12
    go_wp2_with fail
    (with_reducible refine c.mono ?_)
    clear c
    rintro e w1 ⟨rfl, hm1, ho1⟩
    go_wp2_with (go_at_call 17; (with_reducible refine (cO.out _).mono ?_); rintro e w' ⟨rfl, rfl⟩)
    go_ret2
    exact ⟨rfl, hm1, ho1⟩
  | false =>
    rw [if_neg (by simp)] at h
    cases h
    clear h2 hm hq V
    go_enter Try.func12, Try.ntmps12
    go_wp2_with fail
    (with_reducible refine c.mono ?_)
    clear c
    rintro e w1 ⟨rfl, hm1, ho1⟩
    go_wp2_with (go_at_call 17; (with_reducible refine (cO.out _).mono ?_); rintro e w' ⟨rfl, rfl⟩)
    go_ret2
    exact ⟨rfl, hm1, ho1⟩
end
end Go.Proofs.Ytgbcgcmcfklnjaa
