/- What Delete and One of package derive do (layer 12), to any view. -/
import Derived.Test.YtlhcigpllkigdaaDerHas
import Derived.Test.YtlhcigpllkigdaaCsSet
import Derived.Test.YtlhcigpllkigdaaCdtLeaf
import Derived.Test.YtlhcigpllkigdaaCdtLink
namespace Go.Proofs.Ytlhcigpllkigdaa
open Go.RowKit
section
variable {σ : Type} {M : Mach σ} {T : TypeId} {v : Value} {fR fW : FuncId} {Mem : World → σ → Prop} {Ok : σ → Prop} {S R : List Nat} {w : World} {s : σ}
set_option maxRecDepth 100000 in
set_option maxHeartbeats 1000000 in
theorem vdelete_is (V : VOk M T v fR fW Mem Ok S R) (hm : Mem w s) {i n : Int} {s1 : σ} (h : (deleteP i).run M s = (n, s1)) :
    Calls Try.prog 12 #[.iface T v, .int .i64 i] w fun e w' => e = .returned (errV n) ∧ Mem w' s1 ∧ Only S w w' := by
  unfold deleteP at h
  obtain ⟨a, s2, h2⟩ : ∃ a s2, (hasP i).run M s = (a, s2) := ⟨_, _, rfl⟩
  rw [Vp.run_bind_is h2] at h
  have c1 := dhas_is V hm h2
  have HV := Lib.hid V
  clear h2 hm V
  cases a with
  | false =>
    rw [Vp.run_yes rfl, Vp.run_ret] at h
    cases h
    go_enter Try.func12, Try.ntmps12
    go_wp2_with fail
    (with_reducible refine c1.mono ?_)
    clear c1
    rintro e w1 ⟨rfl, hm1, ho1⟩
    go_wp2_with fail
    go_ret
    exact ⟨rfl, hm1, ho1⟩
  | true =>
    rw [Vp.run_no (by simp)] at h
    obtain ⟨k, s3, h3⟩ : ∃ k s3, (hasKidsP i).run M s2 = (k, s3) := ⟨_, _, rfl⟩
    rw [Vp.run_bind_is h3] at h
    have H3 := Lib.hid h3
    clear h3
    cases k with
    | true =>
      rw [Vp.run_yes rfl, Vp.run_ret] at h
      cases h
      go_enter Try.func12, Try.ntmps12
      go_wp2_with fail
      (with_reducible refine c1.mono ?_)
      clear c1
      rintro e w1 ⟨rfl, hm1, ho1⟩
      have c2 := dhasKids_is HV.out hm1 H3.out
      clear hm1
      go_wp2_with ((with_reducible refine c2.mono ?_); clear c2; rintro e w2 ⟨rfl, hm2, ho2⟩)
      go_ret
      exact ⟨rfl, hm2, ho1.trans ho2⟩
    | false =>
      rw [Vp.run_no (by simp)] at h
      obtain ⟨p, s4, h4⟩ : ∃ p s4, (unlinkP i).run M s3 = (p, s4) := ⟨_, _, rfl⟩
      rw [Vp.run_bind_is h4] at h
      have H4 := Lib.hid h4
      clear h4
      by_cases hp : p ≠ 0
      · rw [Vp.run_yes hp, Vp.run_ret] at h
        cases h
        have HP := Lib.hid hp
        rw [errV_some hp]
        clear hp
        go_enter Try.func12, Try.ntmps12
        go_wp2_with fail
        (with_reducible refine c1.mono ?_)
        clear c1
        rintro e w1 ⟨rfl, hm1, ho1⟩
        have c2 := dhasKids_is HV.out hm1 H3.out
        clear hm1
        go_wp2_with (first | ((with_reducible refine c2.mono ?_); clear c2; rintro e w2 ⟨rfl, hm2, ho2⟩; have c3 := unlink_is HV.out hm2 H4.out; rw [errV_some HP.out] at c3; clear hm2) | ((with_reducible refine c3.mono ?_); clear c3; rintro e w3 ⟨rfl, hm3, ho3⟩))
        go_ret
        exact ⟨rfl, hm3, (ho1.trans ho2).trans ho3⟩
      · rw [Vp.run_no hp] at h
        obtain rfl : p = 0 := by simpa using hp
        have H := Lib.hid h
        clear hp h
        go_enter Try.func12, Try.ntmps12
        go_wp2_with fail
        (with_reducible refine c1.mono ?_)
        clear c1
        rintro e w1 ⟨rfl, hm1, ho1⟩
        have c2 := dhasKids_is HV.out hm1 H3.out
        clear hm1
        go_wp2_with (first | ((with_reducible refine c2.mono ?_); clear c2; rintro e w2 ⟨rfl, hm2, ho2⟩; have c3 := unlink_is HV.out hm2 H4.out; rw [errV_nil] at c3; clear hm2) | ((with_reducible refine c3.mono ?_); clear c3; rintro e w3 ⟨rfl, hm3, ho3⟩; have c4 := cset_is HV.out hm3 H.out; rw [show Cp.zero.v = .agg zeroA from rfl] at c4; clear hm3))
        (with_reducible refine c4.mono ?_)
        clear c4
        rintro e w4 ⟨rfl, hm4, ho4⟩
        go_wp2_with fail
        go_ret
        exact ⟨rfl, hm4, ((ho1.trans ho2).trans ho3).trans ho4⟩
set_option maxRecDepth 100000 in
set_option maxHeartbeats 1000000 in
theorem vone_is (V : VOk M T v fR fW Mem Ok S R) (hm : Mem w s) {i n : Int} {q : Bool} {s1 : σ} (h : (delOneP i).run M s = ((q, n), s1)) :
    Calls Try.prog 10 #[.iface T v, .int .i64 i] w fun e w' => e = .returned (.tuple #[.bool q, errV n]) ∧ Mem w' s1 ∧ Only S w w' := by
  unfold delOneP at h
  have HV := Lib.hid V
  cases hb : slotB i 0 with
  | false =>
    rw [Vp.run_yes hb, Vp.run_ret] at h
    cases h
    have cI := Lib.hid (dis_is hb)
    have HH := Lib.hid hm
    clear hb V hm
    go_enter Try.func10, Try.ntmps10
    go_wp2_with ((with_reducible refine (cI.out _).mono ?_); rintro e w1 ⟨rfl, rfl⟩)
    go_ret2
    exact ⟨rfl, HH.out, Only.refl _ _⟩
  | true =>
    rw [Vp.run_no (by simp [hb])] at h
    have cI := Lib.hid (dis_is hb)
    obtain ⟨k, s2, h2⟩ : ∃ k s2, (hasKidsP i).run M s = (k, s2) := ⟨_, _, rfl⟩
    rw [Vp.run_bind_is h2] at h
    have c1 := dhasKids_is V hm h2
    clear hb V hm h2
    cases k with
    | false =>
      rw [Vp.run_yes rfl, Vp.run_ret] at h
      cases h
      go_enter Try.func10, Try.ntmps10
      go_wp2_with (first | ((with_reducible refine (cI.out _).mono ?_); rintro e w1 ⟨rfl, rfl⟩) | ((with_reducible refine c1.mono ?_); clear c1; rintro e w2 ⟨rfl, hm2, ho2⟩))
      go_ret2
      exact ⟨rfl, hm2, ho2⟩
    | true =>
      rw [Vp.run_no (by simp)] at h
      obtain ⟨l, s3, h3⟩ : ∃ l s3, (leafP i).run M s2 = (l, s3) := ⟨_, _, rfl⟩
      rw [Vp.run_bind_is h3] at h
      obtain ⟨p, s4, h4⟩ : ∃ p s4, (deleteP l).run M s3 = (p, s4) := ⟨_, _, rfl⟩
      rw [Vp.run_bind_is h4] at h
      have H3 := Lib.hid h3
      have H4 := Lib.hid h4
      clear h3 h4
      by_cases hp : p ≠ 0
      · rw [Vp.run_yes hp, Vp.run_ret] at h
        cases h
        have HP := Lib.hid hp
        rw [errV_some hp]
        clear hp
        go_enter Try.func10, Try.ntmps10
        go_wp2_with (first | ((with_reducible refine (cI.out _).mono ?_); rintro e w1 ⟨rfl, rfl⟩) | ((with_reducible refine c1.mono ?_); clear c1; rintro e w2 ⟨rfl, hm2, ho2⟩; have c2 := leaf_is HV.out hm2 H3.out; clear hm2) | ((with_reducible refine c2.mono ?_); clear c2; rintro e w3 ⟨rfl, hm3, ho3⟩; have c3 := vdelete_is HV.out hm3 H4.out; rw [errV_some HP.out] at c3; clear hm3) | ((with_reducible refine c3.mono ?_); clear c3; rintro e w4 ⟨rfl, hm4, ho4⟩))
        go_ret2
        exact ⟨rfl, hm4, (ho2.trans ho3).trans ho4⟩
      · rw [Vp.run_no hp, Vp.run_ret] at h
        obtain rfl : p = 0 := by simpa using hp
        cases h
        clear hp
        go_enter Try.func10, Try.ntmps10
        go_wp2_with (first | ((with_reducible refine (cI.out _).mono ?_); rintro e w1 ⟨rfl, rfl⟩) | ((with_reducible refine c1.mono ?_); clear c1; rintro e w2 ⟨rfl, hm2, ho2⟩; have c2 := leaf_is HV.out hm2 H3.out; clear hm2) | ((with_reducible refine c2.mono ?_); clear c2; rintro e w3 ⟨rfl, hm3, ho3⟩; have c3 := vdelete_is HV.out hm3 H4.out; rw [errV_nil] at c3; clear hm3) | ((with_reducible refine c3.mono ?_); clear c3; rintro e w4 ⟨rfl, hm4, ho4⟩))
        go_ret2
        exact ⟨rfl, hm4, (ho2.trans ho3).trans ho4⟩
end
end Go.Proofs.Ytlhcigpllkigdaa
