/- What Ref of package lay answers (layer 9), of any view: the object that a field tells. -/
import Derived.Test.YtlcefgfcihgocaaLayField
namespace Go.Proofs.Ytlcefgfcihgocaa
open Go.RowKit
section
variable {σ : Type} {M : Mach σ} {T : TypeId} {v : Value} {fR fW : FuncId} {Mem : World → σ → Prop} {Ok : σ → Prop} {S R : List Nat} {w : World} {s : σ}
theorem ref_any (V : VOk M T v fR fW Mem Ok S R) (hm : Mem w s) (o f : Int) :
    Calls Try.prog 16 #[.iface T v, .int .i64 o, .int .i64 f] w fun e w' => e = .returned (.tuple #[.int .i64 ((refP o f).run M s).1.1, .bool ((refP o f).run M s).1.2]) ∧ Mem w' ((refP o f).run M s).2 ∧ Only S w w' := by
  have hr := field_rng V (V.ok w s hm) o f
  obtain ⟨x, s1, hrd⟩ : ∃ x s1, (fieldP o f).run M s = (x, s1) := ⟨_, _, rfl⟩
  unfold refP
  rw [Vp.run_bind_is hrd, Vp.run_ret]
  have cF := field_is V hm hrd
  rw [hrd] at hr
  obtain ⟨h0, h1⟩ : 0 ≤ x ∧ x ≤ 4611686018427387904 := hr
  clear hrd hm
  cases hb : belowB (x - 1) 32 with
  | false =>
    have cB := Lib.hid (below_is hb)
    clear hb
    go_enter Try.func16, Try.ntmps16
    go_wp2_with (first | (go_at_call 21; (with_reducible refine (cB.out _).mono ?_); rintro e w' ⟨rfl, rfl⟩) | (go_at_call 20; (with_reducible refine cF.mono ?_); clear cF; rintro e w1 ⟨rfl, hm1, ho1⟩))
    go_ret2
    exact ⟨rfl, hm1, ho1⟩
  | true =>
    have cB := Lib.hid (below_is hb)
    clear hb
    go_enter Try.func16, Try.ntmps16
    go_wp2_with (first | (go_at_call 21; (with_reducible refine (cB.out _).mono ?_); rintro e w' ⟨rfl, rfl⟩) | (go_at_call 20; (with_reducible refine cF.mono ?_); clear cF; rintro e w1 ⟨rfl, hm1, ho1⟩))
    go_ret2
    exact ⟨rfl, hm1, ho1⟩
theorem ref_is (V : VOk M T v fR fW Mem Ok S R) (hm : Mem w s) {o f x : Int} {q : Bool} {s1 : σ} (h : (refP o f).run M s = ((x, q), s1)) :
    Calls Try.prog 16 #[.iface T v, .int .i64 o, .int .i64 f] w fun e w' => e = .returned (.tuple #[.int .i64 x, .bool q]) ∧ Mem w' s1 ∧ Only S w w' := by
  have q := ref_any V hm o f
  rwa [h] at q
end
end Go.Proofs.Ytlcefgfcihgocaa
