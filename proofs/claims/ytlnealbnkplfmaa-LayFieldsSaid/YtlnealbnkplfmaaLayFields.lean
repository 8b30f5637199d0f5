/- LayFields' walk: for all numbers. -/
import Derived.Test.YtlnealbnkplfmaaLayUp
import Derived.Test.YtlnealbnkplfmaaLayWords
import Derived.Test.YtlnealbnkplfmaaLayNumber
import Derived.Test.YtlnealbnkplfmaaLayRef
import Derived.Test.YtlnealbnkplfmaaLayPut
import Derived.Test.YtlnealbnkplfmaaLayIs
namespace Go.Proofs.Ytlnealbnkplfmaa
open Go.RowKit
abbrev PT : TypeId := 28
theorem objB_zero {i : Int} : objB i 0 = decide (0 ≤ i ∧ i < 32) := by
  unfold objB
  exact decide_eq_decide.2 (by omega)
set_option maxRecDepth 100000 in
set_option maxHeartbeats 2000000 in
theorem fields_out (i f x n k : Int) (hn : n ≤ 9223372036854775807) (hk : k ≤ 9223372036854775807) (hb : objB i f = false) (w : World) :
    Calls Try.prog 4 #[.int .i64 i, .int .i64 f, .int .u64 x, .int .i64 n, .int .i64 k] w fun e w' => e = .returned (.bool true) ∧ Only [] w w' := by
  have hF : (fieldP i f).run machP zeros = (0, zeros) := by rw [fieldP_plain]; simp [fieldL, hb]
  have hR : (refP i f).run machP zeros = ((0, false), zeros) := by
    unfold refP
    rw [Vp.run_bind_is hF, Vp.run_ret]
    rfl
  have hP : (putP i f n).run machP zeros = ((), zeros) := by rw [putP_plain]; simp [putL, hb]
  obtain ⟨q, hq⟩ : ∃ q, Hid (isL zeros i k = q) := ⟨_, Lib.hid rfl⟩
  have hI : (isP i k).run machP zeros = (q, zeros) := by rw [isP_plain, hq.out]
  have HF := Lib.hid hF
  have HR := Lib.hid hR
  have HP := Lib.hid hP
  have HI := Lib.hid hI
  clear hF hR hP hI
  have hw9 := objB_no.1 hb
  have hq0 : q = (decide (0 ≤ i ∧ i < 32) && (decide (0 ≤ k) && ((0 : Int) == k))) := by rw [← hq.out, isL, objB_zero, zeros_at, Bool.and_assoc]
  have hways : (i < 0 ∧ q = false) ∨ (0 ≤ i ∧ 32 ≤ i ∧ q = false) ∨ (0 ≤ i ∧ i < 32 ∧ f < 0 ∧ k = 0 ∧ q = true) ∨ (0 ≤ i ∧ i < 32 ∧ f < 0 ∧ (k == 0) = false ∧ q = false) ∨ (0 ≤ i ∧ i < 32 ∧ 0 ≤ f ∧ decide (f < 8) = false ∧ k = 0 ∧ q = true) ∨ (0 ≤ i ∧ i < 32 ∧ 0 ≤ f ∧ decide (f < 8) = false ∧ (k == 0) = false ∧ q = false) := by
    rw [hq0]
    by_cases h1 : i < 0
    · left; exact ⟨h1, by simp; omega⟩
    by_cases h2 : 32 ≤ i
    · right; left; exact ⟨by omega, h2, by simp; omega⟩
    have h3 : 0 ≤ i := by omega
    have h4 : i < 32 := by omega
    by_cases h5 : k = 0
    · subst h5
      simp [h3, h4]
      omega
    · have h6 : ((0 : Int) == k) = false := by simp; omega
      have h7 : (k == 0) = false := by simp [h5]
      rcases (by omega : f < 0 ∨ (0 ≤ f ∧ 8 ≤ f)) with h8 | ⟨h8, h9⟩
      · exact .inr (.inr (.inr (.inl ⟨h3, h4, h8, h7, by simp [h6]⟩)))
      · exact .inr (.inr (.inr (.inr (.inr ⟨h3, h4, h8, by simp; omega, h7, by simp [h6]⟩))))
  clear hq hq0 hb hw9
  rcases hways with ⟨h1, rfl⟩ | ⟨h1, h2, rfl⟩ | ⟨h1, h2, h3, rfl, rfl⟩ | ⟨h1, h2, h3, h4, rfl⟩ | ⟨h1, h2, h3, h4, rfl, rfl⟩ | ⟨h1, h2, h3, h4, h5, rfl⟩
  all_goals
    go_enter Try.func4, Try.ntmps4
    go_wp2_with fail
    (with_reducible refine (up_any _).mono ?_)
    rintro e w' ⟨rfl, rfl⟩
    go_wp2_with fail
    (with_reducible refine (words_nil _).mono ?_)
    rintro e w1 ⟨rfl, hm1, ho1⟩
    go_wp2_with fail
    (with_reducible refine (ref_is (viewP _ _ _ _) hm1 HR.out).mono ?_)
    rintro e w2 ⟨rfl, hm2, ho2⟩
    go_wp2_with fail
    (with_reducible refine (put_is (viewP _ _ _ _) hm2 hn HP.out).mono ?_)
    rintro e w3 ⟨rfl, hm3, ho3⟩
    have ho := (ho1.then ho2 (fun y hy => .inr (by simp at hy; omega))).then ho3 (fun y hy => .inr (by simp at hy; omega))
    clear hm1 ho1 hm2 ho2 ho3
    go_wp2_with fail
    go_loopw [17] (fun j wr => ∃ m : Nat, m ≤ 738 ∧ j = .int .i64 m ∧ MemP w'.heap.size 738 UT wr zeros ∧ Only [] w' wr) (fun j _ => 738 - (intOf j).toNat)
    case atStart => exact ⟨0, by omega, rfl, hm3, ho⟩
    case round =>
      clear hm3 ho
      obtain ⟨m, hm, rfl, hmm, ho⟩ := hrel
      by_cases hlt : m < 738
      · have hc : wr.cell? ⟨w'.heap.size, m, none⟩ = some (.int .u64 0) := by
          obtain ⟨b, off, e0, -, hc⟩ := hmm.row.wds m 0 (zeros_get hlt)
          injection e0 with e0
          injection e0 with e1 e2 _
          subst e1 e2
          rw [Nat.zero_add] at hc
          exact hc
        go_wp2_with fail
        go_roundw
        case rel => exact ⟨m + 1, by omega, by go_num, hmm, ho⟩
        case measure => simp [intOf]; omega
      · have hme : m = 738 := by omega
        subst hme
        go_wp2_with fail
        (with_reducible refine (field_is (viewP _ _ _ _) hmm HF.out).mono ?_)
        rintro e w4 ⟨rfl, hm4, ho4⟩
        go_wp2_with fail
        (with_reducible refine (is_is (viewP _ _ _ _) hm4 hk HI.out).mono ?_)
        rintro e w5 ⟨rfl, hm5, ho5⟩
        go_wp2_with fail
        go_ret
        exact ⟨rfl, (ho.then ho4 (fun y hy => .inr (by simp at hy; omega))).then ho5 (fun y hy => .inr (by simp at hy; omega))⟩
end Go.Proofs.Ytlnealbnkplfmaa
