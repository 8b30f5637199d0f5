/- ends, below of the document's state (layer 12): the ends of a call, a capability below another one. -/
import Derived.Test.YtffoajakkghlbaaRefLink
import Derived.Test.YtffoajakkghlbaaJ6
import Derived.Test.YtffoajakkghlbaaRefMid
import Derived.Test.YtffoajakkghlbaaJ8
import Derived.Test.YtffoajakkghlbaaJ4
import Derived.Test.YtffoajakkghlbaaJ7
import Derived.Deep.RegionHeld3
namespace Go.Proofs.Ytffoajakkghlbaa
open Go.RowKit
section
variable {w : World} {p gs go : Nat} {S : RSt}
/-- a slot's capability's cells -/
theorem RefAt.capAt (h : RefM w p gs go S) {i : Nat} (hi : i < 96) : w.cell? ⟨gs, i * 8, none⟩ = some (.int .i64 (S.cap i).kind) ∧ w.cell? ⟨gs, i * 8 + 1, none⟩ = some (.int .i64 (S.cap i).rights) ∧ w.cell? ⟨gs, i * 8 + 2, none⟩ = some (.int .i64 (S.cap i).obj) ∧
    w.cell? ⟨gs, i * 8 + 3, none⟩ = some (.int .i64 (S.cap i).badge) ∧ w.cell? ⟨gs, i * 8 + 4, none⟩ = some (.int .i64 (S.cap i).guard) ∧ w.cell? ⟨gs, i * 8 + 5, none⟩ = some (.int .i64 (S.cap i).bits) := by
  obtain ⟨A, cp, -, hrow⟩ := h.cSlot hi
  have r0 := hrow 0 _ rfl
  rw [Nat.add_zero] at r0
  exact ⟨r0, hrow 1 _ rfl, hrow 2 _ rfl, hrow 3 _ rfl, hrow 4 _ rfl, hrow 5 _ rfl⟩
set_option maxRecDepth 100000 in
set_option maxHeartbeats 2000000 in
theorem rbelow_any (h : RefM w p gs go S) (hs : S.Short) (a b : Int) (c : Cp) : Calls Try.prog 34 #[.pointer (some ⟨p, 0, none⟩), .int .i64 a, .int .i64 b, c.v] w fun e w' =>
    e = .returned (.int .i64 (linkN S b a)) ∧ RefM w' p gs go (belowS S a b c) ∧ Only [gs] w w' := by
  have hb0 := Blk.new w CcT c.arr
  have hr0 := h.only0 ((Only.refl [] w).alloc (.cells c.arr CcT))
  have ho0 := (Only.refl [gs] w).alloc (.cells c.arr CcT)
  have cL := rlink_any hr0 hs b a
  have hgs : w.heap.size ∉ [gs] := by have := h.ltS; simp; omega
  have HB := Lib.hid (And.intro hb0 (And.intro ho0 hgs))
  obtain ⟨n, hn⟩ : ∃ n, linkN S b a = n := ⟨_, rfl⟩
  rw [hn] at cL ⊢
  clear hb0 hr0 ho0 h hgs
  go_enter Try.func34, Try.ntmps34
  go_wp2_with fail
  (with_reducible refine cL.mono ?_)
  clear cL
  rintro e w1 ⟨rfl, hr1, ho1⟩
  have hb1 := ho1.blk HB.out.1 HB.out.2.2
  have H1 := Lib.hid (And.intro hr1 (And.intro hb1 (HB.out.2.1.trans ho1)))
  clear hr1 ho1 hb1 HB
  by_cases h0 : n = 0
  · have hN := hn
    rw [h0] at hN
    have hok : slotOk b = true := by
      cases hh : slotOk b with
      | true => rfl
      | false => rw [linkN, if_pos (.inl hh)] at hN; omega
    have hib := slotOk_yes.1 hok
    have hS : belowS S a b c = (linkS S b a).putC b c := by unfold belowS; rw [if_pos hN]
    have HS := Lib.hid hS
    clear hn hN hok hS
    subst h0
    obtain ⟨j, rfl⟩ : ∃ j : Nat, b = j := ⟨b.toNat, by omega⟩
    have hj0 : (0 : Int) ≤ (j : Int) := by omega
    have hj9 : (j : Int) < 96 := by omega
    obtain ⟨cs, c0⟩ := H1.out.1.cSlots
    have hT := H1.out.1.thereC (i := j) (by omega)
    obtain ⟨r0, r1, r2, r3, r4, r5⟩ := H1.out.2.1.cap
    go_upto_region 3 with fail
    refine wp_region_still_tail 8 (by kernel_rfl) (by kernel_rfl) ?_
    simp only [List.take_succ_cons, List.take_zero, List.drop_succ_cons, List.drop_zero]
    iterate 8 still_step
    refine wpStill_nil ?_
    change wpList _ _ _ _ _ w1.drew
    refine wpList_store_cap rfl (.tmp 23) (.tmp 21) rfl gs (j * 8) c ?_ ?_ ?_ ?_
    · rfl
    · rfl
    · exact hT
    obtain ⟨hr2, ho2⟩ := (H1.out.1.drewN 1).setCap (by decide) (by decide) (by decide) (i := j) (by omega) c
    have H2 := Lib.hid (And.intro hr2 ho2)
    clear hr2 ho2 hT c0 r0 r1 r2 r3 r4 r5
    go_wp2_with fail
    go_ret
    refine ⟨rfl, ?_, (H1.out.2.2.drewN 1).trans H2.out.2⟩
    rw [HS.out]
    exact H2.out.1
  · have hS : belowS S a b c = linkS S b a := by
      unfold belowS linkS
      rw [if_neg (by rw [hn]; exact h0), if_neg (by rw [hn]; exact h0)]
    rw [← hS] at H1
    have hd : (n == 0) = false := by simp [h0]
    clear hn h0 hS
    go_wp2_with fail
    go_ret
    exact ⟨rfl, H1.out.1, H1.out.2.2⟩
end
end Go.Proofs.Ytffoajakkghlbaa
/- What the document's own answer for layer 3 answers: the rights of two, Has, Within, of numbers from 0 to 7. -/
namespace Go.Proofs.Ytffoajakkghlbaa
open Go.RowKit
theorem part_yes0 {a b : Int} (h1 : a % 2 = 1) (h2 : b % 2 = 1) : part a b 1 = part a b 0 + 1 := by
  show part a b 0 + (if a / 2 ^ 0 % 2 = 1 ∧ b / 2 ^ 0 % 2 = 1 then 2 ^ 0 else 0) = _
  rw [if_pos (by simpa using ⟨h1, h2⟩)]; rfl
theorem part_no0 {a b : Int} (h : ¬ (a % 2 = 1 ∧ b % 2 = 1)) : part a b 1 = part a b 0 := by
  show part a b 0 + (if a / 2 ^ 0 % 2 = 1 ∧ b / 2 ^ 0 % 2 = 1 then 2 ^ 0 else 0) = _
  rw [if_neg (by simpa using h)]; exact Int.add_zero _
theorem part_yes1 {a b : Int} (h1 : a / 2 % 2 = 1) (h2 : b / 2 % 2 = 1) : part a b 2 = part a b 1 + 2 := by
  show part a b 1 + (if a / 2 ^ 1 % 2 = 1 ∧ b / 2 ^ 1 % 2 = 1 then 2 ^ 1 else 0) = _
  rw [if_pos (by simpa using ⟨h1, h2⟩)]; rfl
theorem part_no1 {a b : Int} (h : ¬ (a / 2 % 2 = 1 ∧ b / 2 % 2 = 1)) : part a b 2 = part a b 1 := by
  show part a b 1 + (if a / 2 ^ 1 % 2 = 1 ∧ b / 2 ^ 1 % 2 = 1 then 2 ^ 1 else 0) = _
  rw [if_neg (by simpa using h)]; exact Int.add_zero _
theorem part_yes2 {a b : Int} (h1 : a / 4 % 2 = 1) (h2 : b / 4 % 2 = 1) : part a b 3 = part a b 2 + 4 := by
  show part a b 2 + (if a / 2 ^ 2 % 2 = 1 ∧ b / 2 ^ 2 % 2 = 1 then 2 ^ 2 else 0) = _
  rw [if_pos (by simpa using ⟨h1, h2⟩)]; rfl
theorem part_no2 {a b : Int} (h : ¬ (a / 4 % 2 = 1 ∧ b / 4 % 2 = 1)) : part a b 3 = part a b 2 := by
  show part a b 2 + (if a / 2 ^ 2 % 2 = 1 ∧ b / 2 ^ 2 % 2 = 1 then 2 ^ 2 else 0) = _
  rw [if_neg (by simpa using h)]; exact Int.add_zero _
theorem refBoth_any (a b : Int) (w : World) (ha0 : 0 ≤ a) (ha : a ≤ 7) (hb0 : 0 ≤ b) (hb : b ≤ 7) : Calls Try.prog 44 #[.int .i64 a, .int .i64 b] w fun e w' => e = .returned (.int .i64 (andR a b)) ∧ w' = w := by
  have H := Lib.hid (part3 ha0 ha hb0 hb)
  go_enter Try.func44, Try.ntmps44
  go_wp2
  go_loop [5, 6] (fun n p => ∃ k : Nat, k ≤ 3 ∧ p = .int .i64 (2 ^ k) ∧ n = .int .i64 (part a b k)) (fun _ p => (8 - intOf p).toNat)
  case atStart => exact ⟨0, by omega, rfl, rfl⟩
  case round =>
    obtain ⟨k, hk, rfl, rfl⟩ := hrel
    have hp : 0 ≤ part a b k ∧ part a b k ≤ 7 := by
      match k, hk with
      | 0, _ => simp [part]
      | 1, _ => simp only [part]; split <;> simp
      | 2, _ => simp only [part]; split <;> split <;> simp
      | 3, _ => simp only [part]; split <;> split <;> split <;> simp
    obtain ⟨hp0, hp7⟩ := hp
    match k, hk with
    | 0, _ =>
      by_cases hA : a % 2 = 1
      · have hdA : (a % 2 == 1) = true := by simp [hA]
        by_cases hB : b % 2 = 1
        · have hdB : (b % 2 == 1) = true := by simp [hB]
          have S := Lib.hid (part_yes0 hA hB)
          clear hA hB
          go_wp2
          go_round
          case rel => exact ⟨1, by omega, rfl, by rw [S.out]⟩
          case measure => simp [intOf]
        · have hdB : (b % 2 == 1) = false := by simpa using hB
          have S := Lib.hid (part_no0 (a := a) (b := b) (fun q => hB q.2))
          clear hA hB
          go_wp2
          go_round
          case rel => exact ⟨1, by omega, rfl, by rw [S.out]⟩
          case measure => simp [intOf]
      · have hdA : (a % 2 == 1) = false := by simpa using hA
        have S := Lib.hid (part_no0 (a := a) (b := b) (fun q => hA q.1))
        clear hA
        go_wp2
        go_round
        case rel => exact ⟨1, by omega, rfl, by rw [S.out]⟩
        case measure => simp [intOf]
    | 1, _ =>
      by_cases hA : a / 2 % 2 = 1
      · have hdA : (a / 2 % 2 == 1) = true := by simp [hA]
        by_cases hB : b / 2 % 2 = 1
        · have hdB : (b / 2 % 2 == 1) = true := by simp [hB]
          have S := Lib.hid (part_yes1 hA hB)
          clear hA hB
          go_wp2
          go_round
          case rel => exact ⟨2, by omega, rfl, by rw [S.out]⟩
          case measure => simp [intOf]
        · have hdB : (b / 2 % 2 == 1) = false := by simpa using hB
          have S := Lib.hid (part_no1 (a := a) (b := b) (fun q => hB q.2))
          clear hA hB
          go_wp2
          go_round
          case rel => exact ⟨2, by omega, rfl, by rw [S.out]⟩
          case measure => simp [intOf]
      · have hdA : (a / 2 % 2 == 1) = false := by simpa using hA
        have S := Lib.hid (part_no1 (a := a) (b := b) (fun q => hA q.1))
        clear hA
        go_wp2
        go_round
        case rel => exact ⟨2, by omega, rfl, by rw [S.out]⟩
        case measure => simp [intOf]
    | 2, _ =>
      by_cases hA : a / 4 % 2 = 1
      · have hdA : (a / 4 % 2 == 1) = true := by simp [hA]
        by_cases hB : b / 4 % 2 = 1
        · have hdB : (b / 4 % 2 == 1) = true := by simp [hB]
          have S := Lib.hid (part_yes2 hA hB)
          clear hA hB
          go_wp2
          go_round
          case rel => exact ⟨3, by omega, rfl, by rw [S.out]⟩
          case measure => simp [intOf]
        · have hdB : (b / 4 % 2 == 1) = false := by simpa using hB
          have S := Lib.hid (part_no2 (a := a) (b := b) (fun q => hB q.2))
          clear hA hB
          go_wp2
          go_round
          case rel => exact ⟨3, by omega, rfl, by rw [S.out]⟩
          case measure => simp [intOf]
      · have hdA : (a / 4 % 2 == 1) = false := by simpa using hA
        have S := Lib.hid (part_no2 (a := a) (b := b) (fun q => hA q.1))
        clear hA
        go_wp2
        go_round
        case rel => exact ⟨3, by omega, rfl, by rw [S.out]⟩
        case measure => simp [intOf]
    | 3, _ =>
      go_wp2
      go_ret
      exact ⟨by rw [H.out]; rfl, rfl⟩
end Go.Proofs.Ytffoajakkghlbaa
/- What the document's own answer for layer 3 answers: Has, Within, of numbers from 0 to 7. -/
namespace Go.Proofs.Ytffoajakkghlbaa
open Go.RowKit
theorem refHas_any (c : Cp) (n : Int) (w : World) (hr0 : 0 ≤ c.rights) (hr : c.rights ≤ 7) (hn0 : 0 ≤ n) (hn : n ≤ 7) : Calls Try.prog 33 #[c.v, .int .i64 n] w fun e w' => e = .returned (.bool (hasR c.rights n)) ∧ Only [] w w' := by
  have H := Lib.hid (hasR_eq hr0 hr hn0 hn)
  go_enter Try.func33, Try.ntmps33
  go_wp2_with (go_at_call 44; refine (refBoth_any _ _ _ hr0 hr hn0 hn).mono ?_; rintro e w' ⟨rfl, rfl⟩)
  go_ret
  exact ⟨by rw [← H.out]; rfl, (Only.refl _ _).alloc _⟩
end Go.Proofs.Ytffoajakkghlbaa
