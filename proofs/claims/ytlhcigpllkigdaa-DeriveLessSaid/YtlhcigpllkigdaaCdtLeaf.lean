/- What Leaf of package cdt answers (layer 10), of any view. -/
import Derived.Test.YtlhcigpllkigdaaJ4
namespace Go.Proofs.Ytlhcigpllkigdaa
open Go.RowKit
section
variable {σ : Type} {M : Mach σ} {T : TypeId} {v : Value} {fR fW : FuncId} {Mem : World → σ → Prop} {Ok : σ → Prop} {S R : List Nat} {w : World} {s : σ}
set_option maxHeartbeats 1000000 in
theorem leaf_is (V : VOk M T v fR fW Mem Ok S R) (hm : Mem w s) {i n : Int} {s1 : σ} (h : (leafP i).run M s = (n, s1)) :
    Calls Try.prog 25 #[.iface T v, .int .i64 i] w fun e w' => e = .returned (.int .i64 n) ∧ Mem w' s1 ∧ Only S w w' := by
  unfold leafP at h
  cases hk : slotB i 0 with
  | false =>
    rw [Vp.run_no (by simp [hk]), Vp.run_ret] at h
    cases h
    have c1 := Lib.hid (cis_is hk)
    clear hk
    go_enter Try.func25, Try.ntmps25
    go_wp2_with ((with_reducible refine (c1.out _).mono ?_); rintro e w1 ⟨rfl, rfl⟩)
    go_ret
    exact ⟨rfl, hm, Only.refl _ _⟩
  | true =>
    rw [Vp.run_yes hk] at h
    have c1 := Lib.hid (cis_is hk)
    have HV := Lib.hid V
    have H := Lib.hid (And.intro hm h)
    clear hk h hm V
    go_enter Try.func25, Try.ntmps25
    go_wp2_with ((with_reducible refine (c1.out _).mono ?_); rintro e w1 ⟨rfl, rfl⟩)
    go_loopw [1, 9] (fun j m wr => ∃ (k : Int) (q : Nat) (sr : σ), q ≤ 96 ∧ j = .int .i64 k ∧ m = .int .i64 q ∧ Mem wr sr ∧ Only S w wr ∧ (leafF (96 - q) k).run M sr = (n, s1)) (fun _ m _ => 96 - (intOf m).toNat)
    case atStart => exact ⟨i, 0, s, by omega, rfl, rfl, H.out.1, Only.refl _ _, H.out.2⟩
    case round =>
      obtain ⟨k, q, sr, hq, rfl, rfl, hm, ho, hl⟩ := hrel
      by_cases hlt : q < 96
      · obtain ⟨x, s2, h2⟩ : ∃ x s2, (toldP k 2).run M sr = (x, s2) := ⟨_, _, rfl⟩
        have c2 := told_is HV.out hm h2
        have HH := Lib.hid (And.intro hl (And.intro h2 ho))
        clear hl h2 hm ho
        by_cases hx : x = -1
        · subst hx
          go_wp2_with ((with_reducible refine c2.mono ?_); clear c2; rintro e w2 ⟨rfl, hm2, ho2⟩)
          go_ret
          have e1 := HH.out.1
          rw [show 96 - q = (96 - (q + 1)) + 1 by omega, leafF_end HH.out.2.1] at e1
          cases e1
          exact ⟨rfl, hm2, HH.out.2.2.trans ho2⟩
        · have hxb : (x == -1) = false := by simp [hx]
          have HX := Lib.hid hx
          clear hx
          go_wp2_with ((with_reducible refine c2.mono ?_); clear c2; rintro e w2 ⟨rfl, hm2, ho2⟩)
          go_roundw
          case rel =>
            refine ⟨x, q + 1, s2, by omega, rfl, by go_num, hm2, HH.out.2.2.trans ho2, ?_⟩
            have e1 := HH.out.1
            rw [show 96 - q = (96 - (q + 1)) + 1 by omega, leafF_more HH.out.2.1 HX.out] at e1
            exact e1
          case measure => simp [intOf]; omega
      · obtain rfl : q = 96 := by omega
        have HH := Lib.hid (And.intro hl (And.intro hm ho))
        clear hlt hl hm ho
        go_wp2_with fail
        go_ret
        obtain ⟨e1, hm, ho⟩ := HH.out
        rw [show 96 - 96 = 0 from rfl, leafF_zero] at e1
        cases e1
        exact ⟨rfl, hm, ho⟩
end
end Go.Proofs.Ytlhcigpllkigdaa
