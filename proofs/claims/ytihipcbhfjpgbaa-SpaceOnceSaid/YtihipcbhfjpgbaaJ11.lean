/- What Obj of package lay answers (layer 9): an object's word. -/
import Derived.Test.YtihipcbhfjpgbaaJ9
namespace Go.Proofs.Ytihipcbhfjpgbaa
open Go.RowKit
theorem obj_any (i f : Int) (w : World) : Calls Try.prog 26 #[.int .i64 i, .int .i64 f] w fun e w' => e = .returned (.tuple #[.int .i64 (objI i f), .bool (objB i f)]) ∧ w' = w := by
  by_cases h1 : belowB i 32 = true
  · have hi := belowB_yes.1 h1
    by_cases h2 : belowB f 8 = true
    · have hf := belowB_yes.1 h2
      have hs : objB i f = true := objB_yes.2 ⟨hi.1, hi.2, hf.1, hf.2⟩
      rw [objI_yes hs, hs]
      have H1 := Lib.hid h1
      have H2 := Lib.hid h2
      clear h1 h2 hs
      go_enter Try.func26, Try.ntmps26
      go_wp2_with (go_at_call 27; (first | (with_reducible refine (below_is H1.out _).mono ?_) | (with_reducible refine (below_is H2.out _).mono ?_)); rintro e w' ⟨rfl, rfl⟩)
      go_ret2
      exact ⟨by go_num, rfl⟩
    · replace h2 : belowB f 8 = false := by simpa using h2
      have hs : objB i f = false := objB_no.2 (.inr (belowB_no.1 h2))
      rw [objI_no hs, hs]
      have H1 := Lib.hid h1
      have H2 := Lib.hid h2
      clear h1 h2 hs
      go_enter Try.func26, Try.ntmps26
      go_wp2_with (go_at_call 27; (first | (with_reducible refine (below_is H1.out _).mono ?_) | (with_reducible refine (below_is H2.out _).mono ?_)); rintro e w' ⟨rfl, rfl⟩)
      go_ret2
      exact ⟨rfl, rfl⟩
  · replace h1 : belowB i 32 = false := by simpa using h1
    have hs : objB i f = false := objB_no.2 (.inl (belowB_no.1 h1))
    rw [objI_no hs, hs]
    have H1 := Lib.hid h1
    clear h1 hs
    go_enter Try.func26, Try.ntmps26
    go_wp2_with (go_at_call 27; (with_reducible refine (below_is H1.out _).mono ?_); rintro e w' ⟨rfl, rfl⟩)
    go_ret2
    exact ⟨rfl, rfl⟩
theorem obj_is {i f x : Int} {q : Bool} (hx : objI i f = x) (h : objB i f = q) (w : World) : Calls Try.prog 26 #[.int .i64 i, .int .i64 f] w fun e w' => e = .returned (.tuple #[.int .i64 x, .bool q]) ∧ w' = w := hx ▸ h ▸ obj_any i f w
end Go.Proofs.Ytihipcbhfjpgbaa
/- What Is of package lay answers (layer 9), of any view: whether an object is of a kind. -/
namespace Go.Proofs.Ytihipcbhfjpgbaa
open Go.RowKit
section
variable {σ : Type} {M : Mach σ} {T : TypeId} {v : Value} {fR fW : FuncId} {Mem : World → σ → Prop} {Ok : σ → Prop} {S R : List Nat} {w : World} {s : σ}
theorem is_any (V : VOk M T v fR fW Mem Ok S R) (hm : Mem w s) (o k : Int) (hk : k ≤ 9223372036854775807) :
    Calls Try.prog 19 #[.iface T v, .int .i64 o, .int .i64 k] w fun e w' => e = .returned (.bool ((isP o k).run M s).1) ∧ Mem w' ((isP o k).run M s).2 ∧ Only S w w' := by
  have mR := V.mR
  have nR := V.nR
  have eR := V.eR
  unfold isP
  obtain ⟨a, ha⟩ : ∃ a, objI o 0 = a := ⟨_, rfl⟩
  cases hb : objB o 0 with
  | false =>
    rw [Vp.run_no (by simp), Vp.run_ret]
    have cO := Lib.hid (obj_is ha hb)
    clear hb ha
    go_enter Try.func19, Try.ntmps19
    go_wp2_with (go_at_call 26; (with_reducible refine (cO.out _).mono ?_); rintro e w' ⟨rfl, rfl⟩)
    go_ret
    exact ⟨rfl, hm, Only.refl _ _⟩
  | true =>
    have cO := Lib.hid (obj_is ha hb)
    by_cases h0 : 0 ≤ k
    · rw [Vp.run_yes ⟨rfl, h0⟩, Vp.run_rd, Vp.run_ret, ha]
      have hr := V.rng s a (V.ok w s hm)
      have cR := V.rd w s a hm
      obtain ⟨x, s1, hrd⟩ : ∃ x s1, M.rd s a = (x, s1) := ⟨_, _, rfl⟩
      rw [hrd] at hr cR ⊢
      have h1 : 0 ≤ x := hr.1
      have h2 : x ≤ 18446744073709551615 := hr.2
      clear hb ha hm hrd hr
      go_enter Try.func19, Try.ntmps19
      go_wp2_with (first | (go_at_call 26; (with_reducible refine (cO.out _).mono ?_); rintro e w' ⟨rfl, rfl⟩) | ((with_reducible refine cR.mono ?_); clear cR; rintro e w1 ⟨rfl, hm1, ho1⟩))
      go_ret
      exact ⟨rfl, hm1, ho1⟩
    · rw [Vp.run_no (by simpa using h0), Vp.run_ret]
      have h0' : k < 0 := by omega
      clear hb ha h0
      go_enter Try.func19, Try.ntmps19
      go_wp2_with (go_at_call 26; (with_reducible refine (cO.out _).mono ?_); rintro e w' ⟨rfl, rfl⟩)
      go_ret
      exact ⟨rfl, hm, Only.refl _ _⟩
theorem is_is (V : VOk M T v fR fW Mem Ok S R) (hm : Mem w s) {o k : Int} {q : Bool} {s1 : σ} (hk : k ≤ 9223372036854775807) (h : (isP o k).run M s = (q, s1)) :
    Calls Try.prog 19 #[.iface T v, .int .i64 o, .int .i64 k] w fun e w' => e = .returned (.bool q) ∧ Mem w' s1 ∧ Only S w w' := by
  have q := is_any V hm o k hk
  rwa [h] at q
end
end Go.Proofs.Ytihipcbhfjpgbaa
/- What Field of package lay answers (layer 9), of any view: a field's number. -/
namespace Go.Proofs.Ytihipcbhfjpgbaa
open Go.RowKit
section
variable {σ : Type} {M : Mach σ} {T : TypeId} {v : Value} {fR fW : FuncId} {Mem : World → σ → Prop} {Ok : σ → Prop} {S R : List Nat} {w : World} {s : σ}
theorem field_any (V : VOk M T v fR fW Mem Ok S R) (hm : Mem w s) (o f : Int) :
    Calls Try.prog 21 #[.iface T v, .int .i64 o, .int .i64 f] w fun e w' => e = .returned (.int .i64 ((fieldP o f).run M s).1) ∧ Mem w' ((fieldP o f).run M s).2 ∧ Only S w w' := by
  have mR := V.mR
  have nR := V.nR
  have eR := V.eR
  unfold fieldP
  obtain ⟨a, ha⟩ : ∃ a, objI o f = a := ⟨_, rfl⟩
  cases hb : objB o f with
  | false =>
    have cO := Lib.hid (obj_is ha hb)
    clear hb ha
    go_enter Try.func21, Try.ntmps21
    go_wp2_with (go_at_call 26; (with_reducible refine (cO.out _).mono ?_); rintro e w' ⟨rfl, rfl⟩)
    go_ret
    exact ⟨rfl, hm, Only.refl _ _⟩
  | true =>
    rw [Vp.run_yes rfl, Vp.run_rd, Vp.run_ret, ha]
    have hr := V.rng s a (V.ok w s hm)
    have cR := V.rd w s a hm
    obtain ⟨x, s1, hrd⟩ : ∃ x s1, M.rd s a = (x, s1) := ⟨_, _, rfl⟩
    rw [hrd] at hr cR ⊢
    have cO := Lib.hid (obj_is ha hb)
    have h0 : 0 ≤ x := hr.1
    have h1 : x ≤ 18446744073709551615 := hr.2
    clear hb ha hm hrd hr
    by_cases hx : 4611686018427387904 < x
    · have HN : Hid (numI x = 0) := Lib.hid (by simp [numI, hx])
      go_enter Try.func21, Try.ntmps21
      go_wp2_with (first | (go_at_call 26; (with_reducible refine (cO.out _).mono ?_); rintro e w' ⟨rfl, rfl⟩) | ((with_reducible refine cR.mono ?_); clear cR; rintro e w1 ⟨rfl, hm1, ho1⟩))
      go_ret
      exact ⟨by rw [HN.out]; rfl, hm1, ho1⟩
    · have HN : Hid (numI x = x) := Lib.hid (by simp [numI, hx])
      have hx' : x ≤ 4611686018427387904 := by omega
      clear hx
      go_enter Try.func21, Try.ntmps21
      go_wp2_with (first | (go_at_call 26; (with_reducible refine (cO.out _).mono ?_); rintro e w' ⟨rfl, rfl⟩) | ((with_reducible refine cR.mono ?_); clear cR; rintro e w1 ⟨rfl, hm1, ho1⟩))
      go_ret
      exact ⟨by rw [HN.out]; rfl, hm1, ho1⟩
theorem field_is (V : VOk M T v fR fW Mem Ok S R) (hm : Mem w s) {o f x : Int} {s1 : σ} (h : (fieldP o f).run M s = (x, s1)) :
    Calls Try.prog 21 #[.iface T v, .int .i64 o, .int .i64 f] w fun e w' => e = .returned (.int .i64 x) ∧ Mem w' s1 ∧ Only S w w' := by
  have q := field_any V hm o f
  rwa [h] at q
theorem field_rng (V : VOk M T v fR fW Mem Ok S R) (hs : Ok s) (o f : Int) : 0 ≤ ((fieldP o f).run M s).1 ∧ ((fieldP o f).run M s).1 ≤ 4611686018427387904 := by
  unfold fieldP
  split
  · rw [Vp.run_rd, Vp.run_ret]
    exact numI_rng (V.rng s _ hs)
  · rw [Vp.run_ret]
    omega
end
end Go.Proofs.Ytihipcbhfjpgbaa
/- What Ref of package lay answers (layer 9), of any view: the object that a field tells. -/
namespace Go.Proofs.Ytihipcbhfjpgbaa
open Go.RowKit
section
variable {σ : Type} {M : Mach σ} {T : TypeId} {v : Value} {fR fW : FuncId} {Mem : World → σ → Prop} {Ok : σ → Prop} {S R : List Nat} {w : World} {s : σ}
theorem ref_any (V : VOk M T v fR fW Mem Ok S R) (hm : Mem w s) (o f : Int) :
    Calls Try.prog 20 #[.iface T v, .int .i64 o, .int .i64 f] w fun e w' => e = .returned (.tuple #[.int .i64 ((refP o f).run M s).1.1, .bool ((refP o f).run M s).1.2]) ∧ Mem w' ((refP o f).run M s).2 ∧ Only S w w' := by
  have hr := field_rng V (V.ok w s hm) o f
  obtain ⟨x, s1, hrd⟩ : ∃ x s1, (fieldP o f).run M s = (x, s1) := ⟨_, _, rfl⟩
  unfold refP
  rw [Vp.run_bind_is hrd, Vp.run_ret]
  have cF := field_is V hm hrd
  rw [hrd] at hr
  obtain ⟨h0, h1⟩ : 0 ≤ x ∧ x ≤ 4611686018427387904 := hr
  clear hrd hm
  cases hb : belowB (x - 1) 32 with
  | false =>
    have cB := Lib.hid (below_is hb)
    clear hb
    go_enter Try.func20, Try.ntmps20
    go_wp2_with (first | (go_at_call 27; (with_reducible refine (cB.out _).mono ?_); rintro e w' ⟨rfl, rfl⟩) | (go_at_call 21; (with_reducible refine cF.mono ?_); clear cF; rintro e w1 ⟨rfl, hm1, ho1⟩))
    go_ret2
    exact ⟨rfl, hm1, ho1⟩
  | true =>
    have cB := Lib.hid (below_is hb)
    clear hb
    go_enter Try.func20, Try.ntmps20
    go_wp2_with (first | (go_at_call 27; (with_reducible refine (cB.out _).mono ?_); rintro e w' ⟨rfl, rfl⟩) | (go_at_call 21; (with_reducible refine cF.mono ?_); clear cF; rintro e w1 ⟨rfl, hm1, ho1⟩))
    go_ret2
    exact ⟨rfl, hm1, ho1⟩
theorem ref_is (V : VOk M T v fR fW Mem Ok S R) (hm : Mem w s) {o f x : Int} {q : Bool} {s1 : σ} (h : (refP o f).run M s = ((x, q), s1)) :
    Calls Try.prog 20 #[.iface T v, .int .i64 o, .int .i64 f] w fun e w' => e = .returned (.tuple #[.int .i64 x, .bool q]) ∧ Mem w' s1 ∧ Only S w w' := by
  have q := ref_any V hm o f
  rwa [h] at q
end
end Go.Proofs.Ytihipcbhfjpgbaa
