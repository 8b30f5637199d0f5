/- Replace of the document's state (layer 10), at all arguments. -/
import Derived.Test.YtopbbpjjiamdcaaRefReplace
namespace Go.Proofs.Ytopbbpjjiamdcaa
open Go.RowKit
section
variable {w : World} {p gs go : Nat} {S : RSt}
set_option maxRecDepth 100000 in
set_option maxHeartbeats 2000000 in
theorem rreplace_any (h : RefM w p gs go S) (hs : S.Short) (hP : S.Pars) (hK : S.KidsIn) (hne : ∀ i : Int, InS i → S.par i ≠ i) (a b : Int) :
    Calls Try.prog 14 #[.pointer (some ⟨p, 0, none⟩), .int .i64 a, .int .i64 b] w fun e w' => e = .returned (.int .i64 (replaceN S a b)) ∧ RefM w' p gs go (replaceS S a b) ∧ Only [gs] w w' := by
  by_cases h1 : slotOk a = false ∨ slotOk b = false
  · have hN : replaceN S a b = 2 := by rw [replaceN, if_pos h1]
    have hS : replaceS S a b = S := by rw [replaceS, hN]; rfl
    rw [hN, hS]
    clear hN hS
    have h2 : (slotOk a = false ∨ (slotOk a = true ∧ slotOk b = false)) := by
      rcases h1 with h | h
      · exact .inl h
      · cases slotOk a with
        | false => exact .inl rfl
        | true => exact .inr ⟨rfl, h⟩
    obtain ⟨q, hq⟩ : ∃ q, slotOk b = q := ⟨_, rfl⟩
    rw [hq] at h2
    have sB := Lib.hid (rslot_is hq)
    rcases h2 with h2 | ⟨h2, h3⟩
    · have sA := Lib.hid (rslot_is h2)
      clear h1 h2 hq
      go_enter Try.func14, Try.ntmps14
      go_wp2_with (first | ((with_reducible refine (sA.out _).mono ?_); rintro e w1 ⟨rfl, rfl⟩) | ((with_reducible refine (sB.out _).mono ?_); rintro e w1 ⟨rfl, rfl⟩))
      go_ret
      exact ⟨rfl, h, Only.refl _ _⟩
    · have sA := Lib.hid (rslot_is h2)
      subst h3
      clear h1 h2 hq
      go_enter Try.func14, Try.ntmps14
      go_wp2_with (first | ((with_reducible refine (sA.out _).mono ?_); rintro e w1 ⟨rfl, rfl⟩) | ((with_reducible refine (sB.out _).mono ?_); rintro e w1 ⟨rfl, rfl⟩))
      go_ret
      exact ⟨rfl, h, Only.refl _ _⟩
  have ha : slotOk a = true := by cases hh : slotOk a <;> simp_all
  have hb : slotOk b = true := by cases hh : slotOk b <;> simp_all
  have ia := slotOk_yes.1 ha
  have ib := slotOk_yes.1 hb
  obtain ⟨m, rfl⟩ : ∃ m : Nat, b = m := ⟨b.toNat, by omega⟩
  have hm : m < 96 := by omega
  by_cases h2 : a = m ∨ 0 ≤ S.par m ∨ S.kids m ≠ []
  · have hN : replaceN S a m = 10 := by rw [replaceN, if_neg h1, if_pos h2]
    have hS : replaceS S a m = S := by rw [replaceS, hN]; rfl
    rw [hN, hS]
    clear hN hS
    obtain ⟨cs, c0⟩ := h.cSlots
    have c1 := h.cPar hm
    obtain ⟨A, cp, cK, -⟩ := h.cKids hm
    have hmI : (m : Int) < 96 := by omega
    have sA := Lib.hid (rslot_is ha)
    have sB := Lib.hid (rslot_is hb)
    have h3 : (a == (m : Int)) = true ∨ ((a == (m : Int)) = false ∧ 0 ≤ S.par m) ∨ ((a == (m : Int)) = false ∧ S.par m < 0 ∧ 0 < (S.kids m).length) := by
      by_cases e : a = (m : Int)
      · exact .inl (by simp [e])
      · by_cases e2 : 0 ≤ S.par m
        · exact .inr (.inl ⟨by simp [e], e2⟩)
        · refine .inr (.inr ⟨by simp [e], by omega, ?_⟩)
          rcases h2 with h2 | h2 | h2
          · exact absurd h2 e
          · exact absurd h2 e2
          · exact List.length_pos_iff.2 h2
    obtain ⟨n, hn⟩ : ∃ n, (S.kids m).length = n := ⟨_, rfl⟩
    rw [hn] at cK h3
    clear h1 h2 ha hb hn hne
    rcases h3 with h3 | ⟨h3, h4⟩ | ⟨h3, h4, h5⟩
    all_goals
      go_enter Try.func14, Try.ntmps14
      go_wp2_with (first | ((with_reducible refine (sA.out _).mono ?_); rintro e w1 ⟨rfl, rfl⟩) | ((with_reducible refine (sB.out _).mono ?_); rintro e w1 ⟨rfl, rfl⟩))
      go_ret
      exact ⟨rfl, h, Only.refl _ _⟩
  · have hN : replaceN S a m = 0 := by rw [replaceN, if_neg h1, if_neg h2]
    rw [replaceS, hN, if_pos rfl]
    obtain ⟨k, rfl⟩ : ∃ k : Nat, a = k := ⟨a.toNat, by omega⟩
    have h3 : S.kids m = [] := by
      by_cases e : S.kids m = []
      · exact e
      · exact absurd (.inr (.inr e)) h2
    exact rreplace_ok h hs hP k m (by omega) hm (fun e => h2 (.inl (by rw [e]))) (by
      have : ¬ 0 ≤ S.par m := fun e => h2 (.inr (.inl e))
      omega) h3 (hK k ⟨by omega, by omega⟩) (hne k ⟨by omega, by omega⟩)
end
end Go.Proofs.Ytopbbpjjiamdcaa
