/- What is, told, tell, Parent, nowhere of package cdt answer and do (layer 10), of any view. -/
import Derived.Test.YtopbbpjjiamdcaaLaySlot
import Derived.Test.YtopbbpjjiamdcaaVok
import Derived.Test.YtopbbpjjiamdcaaCdtM
namespace Go.Proofs.Ytopbbpjjiamdcaa
open Go.RowKit
theorem cis_any (i : Int) (w : World) : Calls Try.prog 23 #[.int .i64 i] w fun e w' => e = .returned (.bool (slotB i 0)) ∧ w' = w := by
  go_enter Try.func23, Try.ntmps23
  go_wp2_with (go_at_call 33; (with_reducible refine (slot_any _ _ _).mono ?_); rintro e w' ⟨rfl, rfl⟩)
  go_ret
  exact ⟨rfl, rfl⟩
theorem cis_is {i : Int} {q : Bool} (h : slotB i 0 = q) (w : World) : Calls Try.prog 23 #[.int .i64 i] w fun e w' => e = .returned (.bool q) ∧ w = w' := h ▸ (cis_any i w).mono fun _ _ ⟨he, hw⟩ => ⟨he, hw.symm⟩
abbrev PlT : TypeId := 65
abbrev plArr (a b c : Int) : Array Value := #[.int .i64 a, .int .i64 b, .int .i64 c]
theorem nowhere_any (w : World) : Calls Try.prog 30 #[] w fun e w' => e = .returned (.agg (plArr (-1) (-1) (-1))) ∧ Only [] w w' := by
  go_enter Try.func30, Try.ntmps30
  go_wp2
  refine bodyPost_ret (v := .agg (plArr (-1) (-1) (-1))) (by simp [results, Try.results30, go_sem, plArr]) rfl ⟨rfl, (Only.refl _ _).alloc _⟩
section
variable {σ : Type} {M : Mach σ} {T : TypeId} {v : Value} {fR fW : FuncId} {Mem : World → σ → Prop} {Ok : σ → Prop} {S R : List Nat} {w : World} {s : σ}
theorem told_any (V : VOk M T v fR fW Mem Ok S R) (hm : Mem w s) (i f : Int) :
    Calls Try.prog 24 #[.iface T v, .int .i64 i, .int .i64 f] w fun e w' => e = .returned (.int .i64 ((toldP i f).run M s).1) ∧ Mem w' ((toldP i f).run M s).2 ∧ Only S w w' := by
  have mR := V.mR
  have nR := V.nR
  have eR := V.eR
  unfold toldP
  obtain ⟨a, ha⟩ : ∃ a, slotI i f = a := ⟨_, rfl⟩
  cases hb : slotB i f with
  | false =>
    have cO := Lib.hid (slot_is ha hb)
    clear hb ha
    go_enter Try.func24, Try.ntmps24
    go_wp2_with (go_at_call 33; (with_reducible refine (cO.out _).mono ?_); rintro e w' ⟨rfl, rfl⟩)
    go_ret
    exact ⟨rfl, hm, Only.refl _ _⟩
  | true =>
    rw [Vp.run_yes rfl, Vp.run_rd, Vp.run_ret, ha]
    have hr := V.rng s a (V.ok w s hm)
    have cR := V.rd w s a hm
    obtain ⟨x, s1, hrd⟩ : ∃ x s1, M.rd s a = (x, s1) := ⟨_, _, rfl⟩
    rw [hrd] at hr cR ⊢
    have cO := Lib.hid (slot_is ha hb)
    have h0 : 0 ≤ x := hr.1
    have h1 : x ≤ 18446744073709551615 := hr.2
    clear hb ha hm hrd hr
    by_cases hx : 96 < x
    · have HN : Hid (toldI x = -1) := Lib.hid (by simp [toldI, hx])
      go_enter Try.func24, Try.ntmps24
      go_wp2_with (first | (go_at_call 33; (with_reducible refine (cO.out _).mono ?_); rintro e w' ⟨rfl, rfl⟩) | ((with_reducible refine cR.mono ?_); clear cR; rintro e w1 ⟨rfl, hm1, ho1⟩))
      go_ret
      exact ⟨by rw [HN.out]; rfl, hm1, ho1⟩
    · have HN : Hid (toldI x = x - 1) := Lib.hid (by simp [toldI, hx])
      have hx' : x ≤ 96 := by omega
      clear hx
      go_enter Try.func24, Try.ntmps24
      go_wp2_with (first | (go_at_call 33; (with_reducible refine (cO.out _).mono ?_); rintro e w' ⟨rfl, rfl⟩) | ((with_reducible refine cR.mono ?_); clear cR; rintro e w1 ⟨rfl, hm1, ho1⟩))
      go_ret
      exact ⟨by rw [HN.out]; go_num, hm1, ho1⟩
theorem told_is (V : VOk M T v fR fW Mem Ok S R) (hm : Mem w s) {i f x : Int} {s1 : σ} (h : (toldP i f).run M s = (x, s1)) :
    Calls Try.prog 24 #[.iface T v, .int .i64 i, .int .i64 f] w fun e w' => e = .returned (.int .i64 x) ∧ Mem w' s1 ∧ Only S w w' := by
  have q := told_any V hm i f
  rwa [h] at q
theorem told_rng (V : VOk M T v fR fW Mem Ok S R) (hs : Ok s) {i f x : Int} {s1 : σ} (h : (toldP i f).run M s = (x, s1)) : -1 ≤ x ∧ x ≤ 95 := by
  unfold toldP at h
  split at h
  · rw [Vp.run_rd, Vp.run_ret] at h
    cases h
    exact toldI_rng (V.rng s _ hs)
  · cases h
    omega
theorem cparent_is (V : VOk M T v fR fW Mem Ok S R) (hm : Mem w s) {i x : Int} {s1 : σ} (h : (toldP i 1).run M s = (x, s1)) :
    Calls Try.prog 21 #[.iface T v, .int .i64 i] w fun e w' => e = .returned (.int .i64 x) ∧ Mem w' s1 ∧ Only S w w' := by
  have c := told_is V hm h
  clear hm
  go_enter Try.func21, Try.ntmps21
  go_wp2_with (go_at_call 24; (with_reducible refine c.mono ?_); clear c; rintro e w1 ⟨rfl, hm1, ho1⟩)
  go_ret
  exact ⟨rfl, hm1, ho1⟩
theorem tell_is (V : VOk M T v fR fW Mem Ok S R) (hm : Mem w s) {i f n : Int} {s1 : σ} (h0 : -1 ≤ n) (h1 : n ≤ 95) (h : (tellP i f n).run M s = ((), s1)) :
    Calls Try.prog 25 #[.iface T v, .int .i64 i, .int .i64 f, .int .i64 n] w fun e w' => e = .returned (.tuple #[]) ∧ Mem w' s1 ∧ Only S w w' := by
  have mW := V.mW
  have nW := V.nW
  have eW := V.eW
  unfold tellP at h
  obtain ⟨a, ha⟩ : ∃ a, slotI i f = a := ⟨_, rfl⟩
  cases hb : slotB i f with
  | false =>
    rw [hb, Vp.run_no (by simp), Vp.run_ret] at h
    cases h
    have cO := Lib.hid (slot_is ha hb)
    clear hb ha
    go_enter Try.func25, Try.ntmps25
    go_wp2_with (go_at_call 33; (with_reducible refine (cO.out _).mono ?_); rintro e w' ⟨rfl, rfl⟩)
    go_end0
    exact ⟨rfl, hm, Only.refl _ _⟩
  | true =>
    rw [hb, Vp.run_yes rfl, Vp.run_wr, Vp.run_ret, ha] at h
    have cW := V.wr w s a (n + 1) hm ⟨by omega, by omega⟩
    rw [show M.wr s a (n + 1) = s1 from by cases h; rfl] at cW
    have cO := Lib.hid (slot_is ha hb)
    clear hb ha hm h
    go_enter Try.func25, Try.ntmps25
    go_wp2_with (first | (go_at_call 33; (with_reducible refine (cO.out _).mono ?_); rintro e w' ⟨rfl, rfl⟩) | ((with_reducible refine cW.mono ?_); clear cW; rintro e w1 ⟨rfl, hm1, ho1⟩))
    go_end0
    exact ⟨rfl, hm1, ho1⟩
end
end Go.Proofs.Ytopbbpjjiamdcaa
