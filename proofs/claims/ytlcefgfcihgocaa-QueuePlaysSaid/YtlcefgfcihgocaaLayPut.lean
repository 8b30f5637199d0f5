/- What Put of package lay does (layer 9), to any view: a field becomes a number. -/
import Derived.Test.YtlcefgfcihgocaaLayObj
namespace Go.Proofs.Ytlcefgfcihgocaa
open Go.RowKit
section
variable {σ : Type} {M : Mach σ} {T : TypeId} {v : Value} {fR fW : FuncId} {Mem : World → σ → Prop} {Ok : σ → Prop} {S R : List Nat} {w : World} {s : σ}
theorem put_any (V : VOk M T v fR fW Mem Ok S R) (hm : Mem w s) (o f n : Int) (hn : n ≤ 9223372036854775807) :
    Calls Try.prog 15 #[.iface T v, .int .i64 o, .int .i64 f, .int .i64 n] w fun e w' => e = .returned (.tuple #[]) ∧ Mem w' ((putP o f n).run M s).2 ∧ Only S w w' := by
  have mW := V.mW
  have nW := V.nW
  have eW := V.eW
  unfold putP
  obtain ⟨a, ha⟩ : ∃ a, objI o f = a := ⟨_, rfl⟩
  cases hb : objB o f with
  | false =>
    rw [Vp.run_no (by simp), Vp.run_ret]
    have cO := Lib.hid (obj_is ha hb)
    clear hb ha
    go_enter Try.func15, Try.ntmps15
    go_wp2_with (go_at_call 19; (with_reducible refine (cO.out _).mono ?_); rintro e w' ⟨rfl, rfl⟩)
    go_end0
    exact ⟨rfl, hm, Only.refl _ _⟩
  | true =>
    have cO := Lib.hid (obj_is ha hb)
    by_cases h0 : 0 ≤ n
    · rw [Vp.run_yes ⟨rfl, h0⟩, Vp.run_wr, Vp.run_ret, ha]
      have cW := V.wr w s a n hm ⟨h0, by omega⟩
      clear hb ha hm
      go_enter Try.func15, Try.ntmps15
      go_wp2_with (first | (go_at_call 19; (with_reducible refine (cO.out _).mono ?_); rintro e w' ⟨rfl, rfl⟩) | ((with_reducible refine cW.mono ?_); clear cW; rintro e w1 ⟨rfl, hm1, ho1⟩))
      go_end0
      exact ⟨rfl, hm1, ho1⟩
    · rw [Vp.run_no (by simpa using h0), Vp.run_ret]
      have h0' : n < 0 := by omega
      clear hb ha h0
      go_enter Try.func15, Try.ntmps15
      go_wp2_with (go_at_call 19; (with_reducible refine (cO.out _).mono ?_); rintro e w' ⟨rfl, rfl⟩)
      go_end0
      exact ⟨rfl, hm, Only.refl _ _⟩
theorem put_is (V : VOk M T v fR fW Mem Ok S R) (hm : Mem w s) {o f n : Int} {s1 : σ} (hn : n ≤ 9223372036854775807) (h : (putP o f n).run M s = ((), s1)) :
    Calls Try.prog 15 #[.iface T v, .int .i64 o, .int .i64 f, .int .i64 n] w fun e w' => e = .returned (.tuple #[]) ∧ Mem w' s1 ∧ Only S w w' := by
  have q := put_any V hm o f n hn
  rwa [h] at q
end
end Go.Proofs.Ytlcefgfcihgocaa
