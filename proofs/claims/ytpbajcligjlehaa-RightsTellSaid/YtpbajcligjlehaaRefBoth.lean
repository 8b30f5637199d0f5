/- What the document's own answer for layer 3 answers: the rights of two, Has, Within, of numbers from 0 to 7. -/
import Derived.Test.YtpbajcligjlehaaRefMay
import Derived.Test.YtpbajcligjlehaaRights
import Derived.Deep.RegionHeld3
namespace Go.Proofs.Ytpbajcligjlehaa
open Go.RowKit
theorem part_yes0 {a b : Int} (h1 : a % 2 = 1) (h2 : b % 2 = 1) : part a b 1 = part a b 0 + 1 := by
  show part a b 0 + (if a / 2 ^ 0 % 2 = 1 ∧ b / 2 ^ 0 % 2 = 1 then 2 ^ 0 else 0) = _
  rw [if_pos (by simpa using ⟨h1, h2⟩)]; rfl
theorem part_no0 {a b : Int} (h : ¬ (a % 2 = 1 ∧ b % 2 = 1)) : part a b 1 = part a b 0 := by
  show part a b 0 + (if a / 2 ^ 0 % 2 = 1 ∧ b / 2 ^ 0 % 2 = 1 then 2 ^ 0 else 0) = _
  rw [if_neg (by simpa using h)]; exact Int.add_zero _
theorem part_yes1 {a b : Int} (h1 : a / 2 % 2 = 1) (h2 : b / 2 % 2 = 1) : part a b 2 = part a b 1 + 2 := by
  show part a b 1 + (if a / 2 ^ 1 % 2 = 1 ∧ b / 2 ^ 1 % 2 = 1 then 2 ^ 1 else 0) = _
  rw [if_pos (by simpa using ⟨h1, h2⟩)]; rfl
theorem part_no1 {a b : Int} (h : ¬ (a / 2 % 2 = 1 ∧ b / 2 % 2 = 1)) : part a b 2 = part a b 1 := by
  show part a b 1 + (if a / 2 ^ 1 % 2 = 1 ∧ b / 2 ^ 1 % 2 = 1 then 2 ^ 1 else 0) = _
  rw [if_neg (by simpa using h)]; exact Int.add_zero _
theorem part_yes2 {a b : Int} (h1 : a / 4 % 2 = 1) (h2 : b / 4 % 2 = 1) : part a b 3 = part a b 2 + 4 := by
  show part a b 2 + (if a / 2 ^ 2 % 2 = 1 ∧ b / 2 ^ 2 % 2 = 1 then 2 ^ 2 else 0) = _
  rw [if_pos (by simpa using ⟨h1, h2⟩)]; rfl
theorem part_no2 {a b : Int} (h : ¬ (a / 4 % 2 = 1 ∧ b / 4 % 2 = 1)) : part a b 3 = part a b 2 := by
  show part a b 2 + (if a / 2 ^ 2 % 2 = 1 ∧ b / 2 ^ 2 % 2 = 1 then 2 ^ 2 else 0) = _
  rw [if_neg (by simpa using h)]; exact Int.add_zero _
theorem refBoth_any (a b : Int) (w : World) (ha0 : 0 ≤ a) (ha : a ≤ 7) (hb0 : 0 ≤ b) (hb : b ≤ 7) : Calls Try.prog 21 #[.int .i64 a, .int .i64 b] w fun e w' => e = .returned (.int .i64 (andR a b)) ∧ w' = w := by
  have H := Lib.hid (part3 ha0 ha hb0 hb)
  go_enter Try.func21, Try.ntmps21
  go_wp2
  go_loop [5, 6] (fun n p => ∃ k : Nat, k ≤ 3 ∧ p = .int .i64 (2 ^ k) ∧ n = .int .i64 (part a b k)) (fun _ p => (8 - intOf p).toNat)
  case atStart => exact ⟨0, by omega, rfl, rfl⟩
  case round =>
    obtain ⟨k, hk, rfl, rfl⟩ := hrel
    have hp : 0 ≤ part a b k ∧ part a b k ≤ 7 := by
      match k, hk with
      | 0, _ => simp [part]
      | 1, _ => simp only [part]; split <;> simp
      | 2, _ => simp only [part]; split <;> split <;> simp
      | 3, _ => simp only [part]; split <;> split <;> split <;> simp
    obtain ⟨hp0, hp7⟩ := hp
    match k, hk with
    | 0, _ =>
      by_cases hA : a % 2 = 1
      · have hdA : (a % 2 == 1) = true := by simp [hA]
        by_cases hB : b % 2 = 1
        · have hdB : (b % 2 == 1) = true := by simp [hB]
          have S := Lib.hid (part_yes0 hA hB)
          clear hA hB
          go_wp2
          go_round
          case rel => exact ⟨1, by omega, rfl, by rw [S.out]⟩
          case measure => simp [intOf]
        · have hdB : (b % 2 == 1) = false := by simpa using hB
          have S := Lib.hid (part_no0 (a := a) (b := b) (fun q => hB q.2))
          clear hA hB
          go_wp2
          go_round
          case rel => exact ⟨1, by omega, rfl, by rw [S.out]⟩
          case measure => simp [intOf]
      · have hdA : (a % 2 == 1) = false := by simpa using hA
        have S := Lib.hid (part_no0 (a := a) (b := b) (fun q => hA q.1))
        clear hA
        go_wp2
        go_round
        case rel => exact ⟨1, by omega, rfl, by rw [S.out]⟩
        case measure => simp [intOf]
    | 1, _ =>
      by_cases hA : a / 2 % 2 = 1
      · have hdA : (a / 2 % 2 == 1) = true := by simp [hA]
        by_cases hB : b / 2 % 2 = 1
        · have hdB : (b / 2 % 2 == 1) = true := by simp [hB]
          have S := Lib.hid (part_yes1 hA hB)
          clear hA hB
          go_wp2
          go_round
          case rel => exact ⟨2, by omega, rfl, by rw [S.out]⟩
          case measure => simp [intOf]
        · have hdB : (b / 2 % 2 == 1) = false := by simpa using hB
          have S := Lib.hid (part_no1 (a := a) (b := b) (fun q => hB q.2))
          clear hA hB
          go_wp2
          go_round
          case rel => exact ⟨2, by omega, rfl, by rw [S.out]⟩
          case measure => simp [intOf]
      · have hdA : (a / 2 % 2 == 1) = false := by simpa using hA
        have S := Lib.hid (part_no1 (a := a) (b := b) (fun q => hA q.1))
        clear hA
        go_wp2
        go_round
        case rel => exact ⟨2, by omega, rfl, by rw [S.out]⟩
        case measure => simp [intOf]
    | 2, _ =>
      by_cases hA : a / 4 % 2 = 1
      · have hdA : (a / 4 % 2 == 1) = true := by simp [hA]
        by_cases hB : b / 4 % 2 = 1
        · have hdB : (b / 4 % 2 == 1) = true := by simp [hB]
          have S := Lib.hid (part_yes2 hA hB)
          clear hA hB
          go_wp2
          go_round
          case rel => exact ⟨3, by omega, rfl, by rw [S.out]⟩
          case measure => simp [intOf]
        · have hdB : (b / 4 % 2 == 1) = false := by simpa using hB
          have S := Lib.hid (part_no2 (a := a) (b := b) (fun q => hB q.2))
          clear hA hB
          go_wp2
          go_round
          case rel => exact ⟨3, by omega, rfl, by rw [S.out]⟩
          case measure => simp [intOf]
      · have hdA : (a / 4 % 2 == 1) = false := by simpa using hA
        have S := Lib.hid (part_no2 (a := a) (b := b) (fun q => hA q.1))
        clear hA
        go_wp2
        go_round
        case rel => exact ⟨3, by omega, rfl, by rw [S.out]⟩
        case measure => simp [intOf]
    | 3, _ =>
      go_wp2
      go_ret
      exact ⟨by rw [H.out]; rfl, rfl⟩
end Go.Proofs.Ytpbajcligjlehaa
