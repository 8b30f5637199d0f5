/- What Take of package lay does and answers (layer 9), to any view: some slots, and objects, are used. -/
import Derived.Test.YtffoajakkghlbaaJ11
namespace Go.Proofs.Ytffoajakkghlbaa
open Go.RowKit
section
variable {σ : Type} {M : Mach σ} {T : TypeId} {v : Value} {fR fW : FuncId} {Mem : World → σ → Prop} {Ok : σ → Prop} {S R : List Nat} {w : World} {s : σ}
set_option maxHeartbeats 1000000 in
theorem take_any (V : VOk M T v fR fW Mem Ok S R) (hm : Mem w s) (a b : Int) :
    Calls Try.prog 25 #[.iface T v, .int .i64 a, .int .i64 b] w fun e w' =>
      e = .returned (.tuple #[.int .i64 ((takeP a b).run M s).1.1, .int .i64 ((takeP a b).run M s).1.2.1, errV ((takeP a b).run M s).1.2.2]) ∧ Mem w' ((takeP a b).run M s).2 ∧ Only S w w' := by
  by_cases h1 : a < 0 ∨ b < 0
  · have HP : Hid ((takeP a b).run M s = ((0, 0, 1), s)) := Lib.hid (by unfold takeP; rw [Vp.run_yes h1, Vp.run_ret])
    rw [HP.out]
    have h2 : a < 0 ∨ (¬ a < 0 ∧ b < 0) := by omega
    clear h1 HP
    rcases h2 with h | ⟨h, h'⟩
    · go_enter Try.func25, Try.ntmps25
      go_wp2
      go_ret3
      exact ⟨rfl, hm, Only.refl _ _⟩
    · go_enter Try.func25, Try.ntmps25
      go_wp2
      go_ret3
      exact ⟨rfl, hm, Only.refl _ _⟩
  have ha : 0 ≤ a := by omega
  have hb : 0 ≤ b := by omega
  have mW := V.mW
  have nW := V.nW
  have eW := V.eW
  have hr := used_rng V (V.ok w s hm)
  obtain ⟨x, y, s1, hu⟩ : ∃ x y s1, usedP.run M s = ((x, y), s1) := ⟨_, _, _, rfl⟩
  have cU := used_is V hm hu
  rw [hu] at hr
  obtain ⟨⟨x0, x1⟩, y0, y1⟩ : (0 ≤ x ∧ x ≤ 96) ∧ 0 ≤ y ∧ y ≤ 32 := hr
  by_cases h2 : 96 - x < a ∨ 32 - y < b
  · have HP : Hid ((takeP a b).run M s = ((0, 0, 7), s1)) := Lib.hid (by unfold takeP; rw [Vp.run_no h1, Vp.run_bind_is hu, Vp.run_yes h2, Vp.run_ret])
    rw [HP.out]
    have h3 : 96 - x < a ∨ (¬ 96 - x < a ∧ 32 - y < b) := by omega
    clear h1 h2 HP hu hm
    rcases h3 with h | ⟨h, h'⟩
    · go_enter Try.func25, Try.ntmps25
      go_wp2_with (go_at_call 40; (with_reducible refine cU.mono ?_); clear cU; rintro e w1 ⟨rfl, hm1, ho1⟩)
      go_ret3
      exact ⟨rfl, hm1, ho1⟩
    · go_enter Try.func25, Try.ntmps25
      go_wp2_with (go_at_call 40; (with_reducible refine cU.mono ?_); clear cU; rintro e w1 ⟨rfl, hm1, ho1⟩)
      go_ret3
      exact ⟨rfl, hm1, ho1⟩
  · have HP : Hid ((takeP a b).run M s = ((x, y, 0), M.wr (M.wr s1 736 (x + a)) 737 (y + b))) := Lib.hid (by unfold takeP; rw [Vp.run_no h1, Vp.run_bind_is hu, Vp.run_no h2, Vp.run_wr, Vp.run_wr, Vp.run_ret])
    rw [HP.out]
    have h3 : a ≤ 96 - x := by omega
    have h4 : b ≤ 32 - y := by omega
    have c1 := Lib.hid fun W h => V.wr W s1 736 (x + a) h ⟨by omega, by omega⟩
    have c2 := Lib.hid fun W h => V.wr W (M.wr s1 736 (x + a)) 737 (y + b) h ⟨by omega, by omega⟩
    clear h1 h2 HP hu hm
    go_enter Try.func25, Try.ntmps25
    go_wp2_with fail
    (with_reducible refine cU.mono ?_)
    clear cU
    rintro e w1 ⟨rfl, hm1, ho1⟩
    go_wp2_with fail
    (with_reducible refine (c1.out _ hm1).mono ?_)
    rintro e w2 ⟨rfl, hm2, ho2⟩
    go_wp2_with fail
    (with_reducible refine (c2.out _ hm2).mono ?_)
    rintro e w3 ⟨rfl, hm3, ho3⟩
    go_wp2_with fail
    go_ret3
    exact ⟨rfl, hm3, (ho1.trans ho2).trans ho3⟩
theorem take_is (V : VOk M T v fR fW Mem Ok S R) (hm : Mem w s) {a b x y n : Int} {s1 : σ} (h : (takeP a b).run M s = ((x, y, n), s1)) :
    Calls Try.prog 25 #[.iface T v, .int .i64 a, .int .i64 b] w fun e w' => e = .returned (.tuple #[.int .i64 x, .int .i64 y, errV n]) ∧ Mem w' s1 ∧ Only S w w' := by
  have q := take_any V hm a b
  rwa [h] at q
end
end Go.Proofs.Ytffoajakkghlbaa
