/- What is, has, hasKids of package derive answer (layer 12), of any view. -/
import Derived.Test.YtlhcigpllkigdaaJ2
import Derived.Test.YtlhcigpllkigdaaCsCap
import Derived.Test.YtlhcigpllkigdaaCdtLeaf
import Derived.Test.YtlhcigpllkigdaaCdtLink
import Derived.Test.YtlhcigpllkigdaaCdtKids
namespace Go.Proofs.Ytlhcigpllkigdaa
open Go.RowKit
theorem fieldKind (c : Cp) (w : World) : (Instr.field 31 c.v 0).run Try.prog w = .ok (.int .i64 c.kind) w := by kernel_rfl
theorem dis_any (i : Int) (w : World) : Calls Try.prog 23 #[.int .i64 i] w fun e w' => e = .returned (.bool (slotB i 0)) ∧ w = w' := by
  by_cases h0 : 0 ≤ i
  · by_cases h1 : i < 96
    · rw [show slotB i 0 = true from slotB0_yes.2 ⟨h0, by omega⟩]
      go_enter Try.func23, Try.ntmps23
      go_wp2
      go_ret
      exact ⟨by simp [*], rfl⟩
    · rw [show slotB i 0 = false by cases hh : slotB i 0 with | false => rfl | true => exact absurd (slotB0_yes.1 hh).2 (by omega)]
      go_enter Try.func23, Try.ntmps23
      go_wp2
      go_ret
      exact ⟨by simp [*], rfl⟩
  · rw [show slotB i 0 = false by cases hh : slotB i 0 with | false => rfl | true => exact absurd (slotB0_yes.1 hh).1 h0]
    go_enter Try.func23, Try.ntmps23
    go_wp2
    go_ret
    exact ⟨by simp [*], rfl⟩
theorem dis_is {i : Int} {q : Bool} (h : slotB i 0 = q) (w : World) : Calls Try.prog 23 #[.int .i64 i] w fun e w' => e = .returned (.bool q) ∧ w = w' := h ▸ dis_any i w
section
variable {σ : Type} {M : Mach σ} {T : TypeId} {v : Value} {fR fW : FuncId} {Mem : World → σ → Prop} {Ok : σ → Prop} {S R : List Nat} {w : World} {s : σ}
set_option maxRecDepth 100000 in
theorem dhas_is (V : VOk M T v fR fW Mem Ok S R) (hm : Mem w s) {i : Int} {b : Bool} {s1 : σ} (h : (hasP i).run M s = (b, s1)) :
    Calls Try.prog 29 #[.iface T v, .int .i64 i] w fun e w' => e = .returned (.bool b) ∧ Mem w' s1 ∧ Only S w w' := by
  obtain ⟨c, s2, h2⟩ : ∃ c s2, (capP i).run M s = (c, s2) := ⟨_, _, rfl⟩
  rw [hasP, Vp.run_bind_is h2, Vp.run_ret] at h
  cases h
  have c1 := ccap_is V hm h2
  have hfk := fieldKind c
  clear hm h2
  go_enter Try.func29, Try.ntmps29
  go_wp2_with fail
  (with_reducible refine c1.mono ?_)
  clear c1
  rintro e w1 ⟨rfl, hm1, ho1⟩
  go_wp2_with fail
  go_ret
  exact ⟨rfl, hm1, ho1⟩
set_option maxRecDepth 100000 in
theorem dhasKids_is (V : VOk M T v fR fW Mem Ok S R) (hm : Mem w s) {i : Int} {b : Bool} {s1 : σ} (h : (hasKidsP i).run M s = (b, s1)) :
    Calls Try.prog 24 #[.iface T v, .int .i64 i] w fun e w' => e = .returned (.bool b) ∧ Mem w' s1 ∧ Only S w w' := by
  obtain ⟨l, s2, h2⟩ : ∃ l s2, (leafP i).run M s = (l, s2) := ⟨_, _, rfl⟩
  rw [hasKidsP, Vp.run_bind_is h2] at h
  have c1 := leaf_is V hm h2
  have HV := Lib.hid V
  clear hm h2
  by_cases hl : l = i
  · rw [Vp.run_no (by simp [hl])] at h
    obtain ⟨L, s3, h3⟩ : ∃ L s3, (kidsP i).run M s2 = (L, s3) := ⟨_, _, rfl⟩
    rw [Vp.run_bind_is h3, Vp.run_ret] at h
    cases h
    have hb : (l != i) = false := by simp [hl]
    have H3 := Lib.hid h3
    clear hl h3 V
    go_enter Try.func24, Try.ntmps24
    go_wp2_with fail
    (with_reducible refine c1.mono ?_)
    clear c1
    rintro e w1 ⟨rfl, hm1, ho1⟩
    have c3 := kids_is HV.out hm1 H3.out
    clear hm1
    go_wp2_with ((with_reducible refine c3.mono ?_); clear c3; rintro e w2 ⟨u, rfl, ⟨A, cp, rfl, -, -⟩, hm2, ho2⟩)
    go_ret
    exact ⟨by simp, hm2, ho1.trans ho2⟩
  · rw [Vp.run_yes hl, Vp.run_ret] at h
    cases h
    have hb : (l != i) = true := by simp [hl]
    clear hl V
    go_enter Try.func24, Try.ntmps24
    go_wp2_with fail
    (with_reducible refine c1.mono ?_)
    clear c1
    rintro e w1 ⟨rfl, hm1, ho1⟩
    go_wp2_with fail
    go_ret
    exact ⟨rfl, hm1, ho1⟩
end
end Go.Proofs.Ytlhcigpllkigdaa
