/- What Field of package lay answers (layer 9), of any view: a field's number. -/
import Derived.Test.YtffoajakkghlbaaJ9
import Derived.Test.YtffoajakkghlbaaJ6
import Derived.Test.YtffoajakkghlbaaJ8
namespace Go.Proofs.Ytffoajakkghlbaa
open Go.RowKit
section
variable {σ : Type} {M : Mach σ} {T : TypeId} {v : Value} {fR fW : FuncId} {Mem : World → σ → Prop} {Ok : σ → Prop} {S R : List Nat} {w : World} {s : σ}
theorem field_any (V : VOk M T v fR fW Mem Ok S R) (hm : Mem w s) (o f : Int) :
    Calls Try.prog 27 #[.iface T v, .int .i64 o, .int .i64 f] w fun e w' => e = .returned (.int .i64 ((fieldP o f).run M s).1) ∧ Mem w' ((fieldP o f).run M s).2 ∧ Only S w w' := by
  have mR := V.mR
  have nR := V.nR
  have eR := V.eR
  unfold fieldP
  obtain ⟨a, ha⟩ : ∃ a, objI o f = a := ⟨_, rfl⟩
  cases hb : objB o f with
  | false =>
    have cO := Lib.hid (obj_is ha hb)
    clear hb ha
    go_enter Try.func27, Try.ntmps27
    go_wp2_with (go_at_call 41; (with_reducible refine (cO.out _).mono ?_); rintro e w' ⟨rfl, rfl⟩)
    go_ret
    exact ⟨rfl, hm, Only.refl _ _⟩
  | true =>
    rw [Vp.run_yes rfl, Vp.run_rd, Vp.run_ret, ha]
    have hr := V.rng s a (V.ok w s hm)
    have cR := V.rd w s a hm
    obtain ⟨x, s1, hrd⟩ : ∃ x s1, M.rd s a = (x, s1) := ⟨_, _, rfl⟩
    rw [hrd] at hr cR ⊢
    have cO := Lib.hid (obj_is ha hb)
    have h0 : 0 ≤ x := hr.1
    have h1 : x ≤ 18446744073709551615 := hr.2
    clear hb ha hm hrd hr
    by_cases hx : 4611686018427387904 < x
    · have HN : Hid (numI x = 0) := Lib.hid (by simp [numI, hx])
      go_enter Try.func27, Try.ntmps27
      go_wp2_with (first | (go_at_call 41; (with_reducible refine (cO.out _).mono ?_); rintro e w' ⟨rfl, rfl⟩) | ((with_reducible refine cR.mono ?_); clear cR; rintro e w1 ⟨rfl, hm1, ho1⟩))
      go_ret
      exact ⟨by rw [HN.out]; rfl, hm1, ho1⟩
    · have HN : Hid (numI x = x) := Lib.hid (by simp [numI, hx])
      have hx' : x ≤ 4611686018427387904 := by omega
      clear hx
      go_enter Try.func27, Try.ntmps27
      go_wp2_with (first | (go_at_call 41; (with_reducible refine (cO.out _).mono ?_); rintro e w' ⟨rfl, rfl⟩) | ((with_reducible refine cR.mono ?_); clear cR; rintro e w1 ⟨rfl, hm1, ho1⟩))
      go_ret
      exact ⟨by rw [HN.out]; rfl, hm1, ho1⟩
theorem field_is (V : VOk M T v fR fW Mem Ok S R) (hm : Mem w s) {o f x : Int} {s1 : σ} (h : (fieldP o f).run M s = (x, s1)) :
    Calls Try.prog 27 #[.iface T v, .int .i64 o, .int .i64 f] w fun e w' => e = .returned (.int .i64 x) ∧ Mem w' s1 ∧ Only S w w' := by
  have q := field_any V hm o f
  rwa [h] at q
theorem field_ok (V : VOk M T v fR fW Mem Ok S R) (hs : Ok s) (o f : Int) : Ok ((fieldP o f).run M s).2 := by
  unfold fieldP
  split
  · exact V.okR s _ hs
  · exact hs
theorem field_rng (V : VOk M T v fR fW Mem Ok S R) (hs : Ok s) (o f : Int) : 0 ≤ ((fieldP o f).run M s).1 ∧ ((fieldP o f).run M s).1 ≤ 4611686018427387904 := by
  unfold fieldP
  split
  · rw [Vp.run_rd, Vp.run_ret]
    exact numI_rng (V.rng s _ hs)
  · rw [Vp.run_ret]
    omega
end
end Go.Proofs.Ytffoajakkghlbaa
/- What Left of package untyped answers (layer 13), of any view. -/
namespace Go.Proofs.Ytffoajakkghlbaa
open Go.RowKit
section
variable {σ : Type} {M : Mach σ} {T : TypeId} {v : Value} {fR fW : FuncId} {Mem : World → σ → Prop} {Ok : σ → Prop} {S R : List Nat} {w : World} {s : σ}
set_option maxRecDepth 100000 in
theorem vleft_is (V : VOk M T v fR fW Mem Ok S R) (hm : Mem w s) {i x : Int} {s1 : σ} (h : (uleftP i).run M s = (x, s1)) :
    Calls Try.prog 16 #[.iface T v, .int .i64 i] w fun e w' => e = .returned (.int .i64 x) ∧ Mem w' s1 ∧ Only S w w' := by
  unfold uleftP at h
  obtain ⟨q, s2, h2⟩ : ∃ q s2, (isP i 1).run M s = (q, s2) := ⟨_, _, rfl⟩
  rw [Vp.run_bind_is h2] at h
  have c1 := is_is V hm (by decide) h2
  have HV := Lib.hid V
  clear h2 hm V
  cases q with
  | false =>
    rw [Vp.run_no (by simp), Vp.run_ret] at h
    cases h
    go_enter Try.func16, Try.ntmps16
    go_wp2_with fail
    (with_reducible refine c1.mono ?_)
    clear c1
    rintro e w1 ⟨rfl, hm1, ho1⟩
    go_wp2_with fail
    go_ret
    exact ⟨rfl, hm1, ho1⟩
  | true =>
    rw [Vp.run_yes rfl] at h
    obtain ⟨a, s3, h3⟩ : ∃ a s3, (fieldP i 1).run M s2 = (a, s3) := ⟨_, _, rfl⟩
    rw [Vp.run_bind_is h3] at h
    obtain ⟨b, s4, h4⟩ : ∃ b s4, (fieldP i 2).run M s3 = (b, s4) := ⟨_, _, rfl⟩
    rw [Vp.run_bind_is h4, Vp.run_ret] at h
    have H3 := Lib.hid h3
    have H4 := Lib.hid h4
    have H := Lib.hid h
    clear h3 h4 h
    go_enter Try.func16, Try.ntmps16
    go_wp2_with fail
    (with_reducible refine c1.mono ?_)
    clear c1
    rintro e w1 ⟨rfl, hm1, ho1⟩
    have hs2 := HV.out.ok _ _ hm1
    have ra := field_rng HV.out hs2 i 1
    have hs3 := field_ok HV.out hs2 i 1
    rw [H3.out] at ra hs3
    have rb := field_rng HV.out hs3 i 2
    rw [H4.out] at rb
    replace ra : 0 ≤ a ∧ a ≤ 4611686018427387904 := ra
    replace rb : 0 ≤ b ∧ b ≤ 4611686018427387904 := rb
    have c2 := field_is HV.out hm1 H3.out
    have HM : Hid (max 0 (a - b) = x ∧ s4 = s1) := Lib.hid (by have := H.out; simpa using this)
    have hw1 : IntKind.i64.wrap (a - b) = a - b := IntWalk.i64_in _ (by omega)
    clear hm1 hs2 hs3 H
    go_wp2_with fail
    (with_reducible refine c2.mono ?_)
    clear c2
    rintro e w2 ⟨rfl, hm2, ho2⟩
    have c3 := field_is HV.out hm2 H4.out
    replace ho2 := ho1.trans ho2
    clear hm2 ho1
    go_wp2_with fail
    (with_reducible refine c3.mono ?_)
    clear c3
    rintro e w3 ⟨rfl, hm3, ho3⟩
    replace ho3 := ho2.trans ho3
    clear ho2
    go_wp2_with fail
    all_goals
      obtain ⟨e1, rfl⟩ := HM.out
      go_ret
      exact ⟨by rw [← e1]; first | rw [Int.max_eq_right (by omega)]; rfl | rw [Int.max_eq_left (by omega)]; rfl, hm3, ho3⟩
end
end Go.Proofs.Ytffoajakkghlbaa
/- What Put of package pack answers (layer 2): for every capability. -/
namespace Go.Proofs.Ytffoajakkghlbaa
open Go.RowKit
section
variable (c : Cp) (w : World)
theorem put_no (h : ¬ c.may) : Calls Try.prog 54 #[c.v] w fun e w' => e = .returned (.tuple #[.int .u64 0, .iface 67 (.int .i64 1)]) ∧ Only [] w w' := by
  have H := Lib.hid h
  clear h
  go_enter Try.func54, Try.ntmps54
  go_wp2_with (go_at_call 56; refine (may_no _ _ H.out).mono ?_; rintro e w' ⟨rfl, ho1⟩)
  go_ret2
  exact ⟨rfl, ((Only.refl _ _).alloc _).trans ho1⟩
theorem put_yes (h : c.may) : Calls Try.prog 54 #[c.v] w fun e w' => e = .returned (.tuple #[.int .u64 c.word, .nilIface]) ∧ Only [] w w' := by
  have H := Lib.hid h
  obtain ⟨h1, h2, h3, h4, h5, h6, h7, h8, h9, h10, h11, h12⟩ := h.small
  clear h
  go_enter Try.func54, Try.ntmps54
  go_wp2_with (go_at_call 56; refine (may_yes _ _ H.out).mono ?_; rintro e w' ⟨rfl, ho1⟩; obtain ⟨k0, k1, k2, k3, k4, k5⟩ := (ho1.blk (Blk.new w 32 c.arr) (by simp)).six)
  go_ret2
  exact ⟨tup_u64 (word_or H.out.small), ((Only.refl _ _).alloc _).trans ho1⟩
end
end Go.Proofs.Ytffoajakkghlbaa
