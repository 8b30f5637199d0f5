/- Same of the document's state: are words the same. -/
import Derived.Test.YtihipcbhfjpgbaaRows
import Derived.Test.YtihipcbhfjpgbaaViewM
import Derived.WalkKit
import Derived.WalkSpells
import Derived.WalkLawsBesides
import Derived.Handy
import Derived.BigQuiet
import Derived.Deep.QuietTactic
import Derived.RegionTactic
import Derived.Lib.Hide
import Derived.Deep.Light
namespace Go.Proofs.Ytihipcbhfjpgbaa
open Go.RowKit
set_option maxRecDepth 100000 in
set_option maxHeartbeats 1000000 in
theorem same_any {w : World} {A B : Option Addr} {L M : List Int} (cp cq : Nat) (hA : Wds w A L) (hB : Wds w B M) (hM : M.length ≤ 100000) :
    Calls Try.prog 13 #[.slice A L.length cp, .slice B M.length cq] w fun e w' => e = .returned (.bool (decide (L = M))) ∧ Only [] w w' := by
  by_cases hl : L.length = M.length
  · rw [hl]
    obtain ⟨q, hq⟩ : ∃ q, Hid (decide (L = M) = q) := ⟨_, Lib.hid rfl⟩
    rw [hq.out]
    have HL := Lib.hid hl
    clear hl
    go_enter Try.func13, Try.ntmps13
    go_wp2_with fail
    go_loopw [5] (fun i wr => ∃ k : Nat, k ≤ M.length ∧ i = .int .i64 k ∧ L.take k = M.take k ∧ Only [] w wr) (fun i _ => M.length - (intOf i).toNat)
    case atStart => exact ⟨0, by omega, rfl, by simp, Only.refl _ _⟩
    case round =>
      obtain ⟨k, hk, rfl, ht, ho⟩ := hrel
      by_cases hlt : k < M.length
      · obtain ⟨x, hx⟩ : ∃ x, L[k]? = some x := ⟨_, List.getElem?_eq_getElem (by rw [HL.out]; exact hlt)⟩
        obtain ⟨y, hy⟩ : ∃ y, M[k]? = some y := ⟨_, List.getElem?_eq_getElem hlt⟩
        obtain ⟨b1, o1, rfl, hb1, hc1⟩ := hA k x hx
        obtain ⟨b2, o2, rfl, hb2, hc2⟩ := hB k y hy
        have d1 := (ho.cell (p := ⟨b1, o1 + k, none⟩) hb1 (by simp)).trans hc1
        have d2 := (ho.cell (p := ⟨b2, o2 + k, none⟩) hb2 (by simp)).trans hc2
        have hst : L.take (k + 1) = M.take (k + 1) ↔ x = y := by
          rw [List.take_add_one, List.take_add_one, hx, hy, ht]
          simp
        have HT := Lib.hid hst
        have HXY := Lib.hid (And.intro hx hy)
        have HO := Lib.hid ho
        have hk0 : (0 : Int) ≤ (k : Int) := Int.natCast_nonneg _
        have hkM : (k : Int) < (M.length : Int) := by omega
        clear hx hy hc1 hc2 hst ht ho hA hB
        go_wp2_with fail
        go_quiet (fail)
        have HO2 := Lib.hid (HO.out.drewN nq)
        clear d1 d2
        by_cases e : x = y
        · have e' : (x != y) = false := by simp [e]
          have HE := Lib.hid (HT.out.2 e)
          clear e
          go_wp2_with fail
          go_roundw
          case rel => exact ⟨k + 1, by omega, by go_num, HE.out, HO2.out⟩
          case measure => simp [intOf]; omega
        · have e' : (x != y) = true := by simp [e]
          have HE : Hid (q = false) := Lib.hid (by
            rw [← hq.out]
            apply decide_eq_false
            intro hh
            have h1 := HXY.out.1
            rw [hh, HXY.out.2] at h1
            injection h1 with h1
            exact e h1.symm)
          clear e
          go_wp2_with fail
          go_ret
          exact ⟨by rw [HE.out]; rfl, HO2.out⟩
      · obtain rfl : k = M.length := by omega
        have HE : Hid (q = true) := Lib.hid (by
          rw [← hq.out]
          apply decide_eq_true
          rw [List.take_length, ← HL.out, List.take_length] at ht
          exact ht)
        clear hlt ht
        go_wp2_with fail
        go_ret
        exact ⟨by rw [HE.out]; rfl, ho⟩
  · have hq : decide (L = M) = false := decide_eq_false (fun h => hl (by rw [h]))
    rw [hq]
    have hne : ((L.length : Int) != (M.length : Int)) = true := by simp; omega
    clear hq hl
    go_enter Try.func13, Try.ntmps13
    go_wp2_with fail
    go_ret
    exact ⟨rfl, Only.refl _ _⟩
end Go.Proofs.Ytihipcbhfjpgbaa
