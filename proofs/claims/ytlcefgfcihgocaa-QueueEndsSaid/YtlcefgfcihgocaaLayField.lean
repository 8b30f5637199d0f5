/- What Field of package lay answers (layer 9), of any view: a field's number. -/
import Derived.Test.YtlcefgfcihgocaaLayObj
namespace Go.Proofs.Ytlcefgfcihgocaa
open Go.RowKit
section
variable {σ : Type} {M : Mach σ} {T : TypeId} {v : Value} {fR fW : FuncId} {Mem : World → σ → Prop} {Ok : σ → Prop} {S R : List Nat} {w : World} {s : σ}
theorem field_any (V : VOk M T v fR fW Mem Ok S R) (hm : Mem w s) (o f : Int) :
    Calls Try.prog 20 #[.iface T v, .int .i64 o, .int .i64 f] w fun e w' => e = .returned (.int .i64 ((fieldP o f).run M s).1) ∧ Mem w' ((fieldP o f).run M s).2 ∧ Only S w w' := by
  have mR := V.mR
  have nR := V.nR
  have eR := V.eR
  unfold fieldP
  obtain ⟨a, ha⟩ : ∃ a, objI o f = a := ⟨_, rfl⟩
  cases hb : objB o f with
  | false =>
    have cO := Lib.hid (obj_is ha hb)
    clear hb ha
    go_enter Try.func20, Try.ntmps20
    go_wp2_with (go_at_call 19; (with_reducible refine (cO.out _).mono ?_); rintro e w' ⟨rfl, rfl⟩)
    go_ret
    exact ⟨rfl, hm, Only.refl _ _⟩
  | true =>
    rw [Vp.run_yes rfl, Vp.run_rd, Vp.run_ret, ha]
    have hr := V.rng s a (V.ok w s hm)
    have cR := V.rd w s a hm
    obtain ⟨x, s1, hrd⟩ : ∃ x s1, M.rd s a = (x, s1) := ⟨_, _, rfl⟩
    rw [hrd] at hr cR ⊢
    have cO := Lib.hid (obj_is ha hb)
    have h0 : 0 ≤ x := hr.1
    have h1 : x ≤ 18446744073709551615 := hr.2
    clear hb ha hm hrd hr
    by_cases hx : 4611686018427387904 < x
    · have HN : Hid (numI x = 0) := Lib.hid (by simp [numI, hx])
      go_enter Try.func20, Try.ntmps20
      go_wp2_with (first | (go_at_call 19; (with_reducible refine (cO.out _).mono ?_); rintro e w' ⟨rfl, rfl⟩) | ((with_reducible refine cR.mono ?_); clear cR; rintro e w1 ⟨rfl, hm1, ho1⟩))
      go_ret
      exact ⟨by rw [HN.out]; rfl, hm1, ho1⟩
    · have HN : Hid (numI x = x) := Lib.hid (by simp [numI, hx])
      have hx' : x ≤ 4611686018427387904 := by omega
      clear hx
      go_enter Try.func20, Try.ntmps20
      go_wp2_with (first | (go_at_call 19; (with_reducible refine (cO.out _).mono ?_); rintro e w' ⟨rfl, rfl⟩) | ((with_reducible refine cR.mono ?_); clear cR; rintro e w1 ⟨rfl, hm1, ho1⟩))
      go_ret
      exact ⟨by rw [HN.out]; rfl, hm1, ho1⟩
theorem field_is (V : VOk M T v fR fW Mem Ok S R) (hm : Mem w s) {o f x : Int} {s1 : σ} (h : (fieldP o f).run M s = (x, s1)) :
    Calls Try.prog 20 #[.iface T v, .int .i64 o, .int .i64 f] w fun e w' => e = .returned (.int .i64 x) ∧ Mem w' s1 ∧ Only S w w' := by
  have q := field_any V hm o f
  rwa [h] at q
theorem field_rng (V : VOk M T v fR fW Mem Ok S R) (hs : Ok s) (o f : Int) : 0 ≤ ((fieldP o f).run M s).1 ∧ ((fieldP o f).run M s).1 ≤ 4611686018427387904 := by
  unfold fieldP
  split
  · rw [Vp.run_rd, Vp.run_ret]
    exact numI_rng (V.rng s _ hs)
  · rw [Vp.run_ret]
    omega
end
end Go.Proofs.Ytlcefgfcihgocaa
