/- LayTakes' walk: for all numbers, and all slices of slices of numbers. -/
import Derived.Test.YtlnealbnkplfmaaLayUp
import Derived.Test.YtlnealbnkplfmaaLayWords
import Derived.Test.YtlnealbnkplfmaaLayTake
import Derived.Test.YtlnealbnkplfmaaLayTakesM
import Derived.Test.YtlnealbnkplfmaaIntRows
import Derived.Deep.RegionHeld3
import Derived.Deep.CutBlock
import Derived.Deep.DeepCutAuto
namespace Go.Proofs.Ytlnealbnkplfmaa
open Go.RowKit
theorem memP_setC {g : Nat} {t : TypeId} {w : World} {L : List Int} {nn : Nat} {x : Int} (m : Nat) (h : MemP g nn t w L) (hm : m < nn) (hx : U64 x) : MemP g nn t (w.setCell ⟨g, m, none⟩ (.int .u64 x)) (setL L m x) :=
  ⟨by rw [setL_length]; exact h.len, h.row.set_ (by rw [h.len]; exact hm) x, h.us.set m hx⟩
theorem memP_cellC {g : Nat} {t : TypeId} {w : World} {L : List Int} {nn m : Nat} {x : Int} (h : MemP g nn t w L) (hx : L[m]? = some x) : w.cell? ⟨g, m, none⟩ = some (.int .u64 x) := by
  obtain ⟨b, off, e0, -, hc⟩ := h.row.wds m x hx
  injection e0 with e0
  injection e0 with e1 e2 _
  subst e1 e2
  rw [Nat.zero_add] at hc
  exact hc
set_option maxRecDepth 100000 in
set_option maxHeartbeats 4000000 in
theorem takes_any (s0 o0 : Int) (C : Option Addr) (LL : List (List Int)) (cp : Nat) (w : World) (hs : U64 s0) (ho : U64 o0) (hL : IntRows w C LL) (hl : LL.length ≤ 9223372036854775807) :
    Calls Try.prog 5 #[.int .u64 s0, .int .u64 o0, .slice C LL.length cp] w fun e w' => e = .returned (.bool true) ∧ Only [] w w' := by
  obtain ⟨s00, s01⟩ := hs
  obtain ⟨o00, o01⟩ := ho
  have HS := Lib.hid (show U64 s0 from ⟨s00, s01⟩)
  have HO := Lib.hid (show U64 o0 from ⟨o00, o01⟩)
  obtain ⟨a0, ha0⟩ : ∃ a0, Hid (a0 = min s0 96) := ⟨_, Lib.hid rfl⟩
  obtain ⟨b0, hb0⟩ : ∃ b0, Hid (b0 = min o0 32) := ⟨_, Lib.hid rfl⟩
  have hz1 := zeros_get (show 736 < 738 by omega)
  have hz2 : Hid ((setL zeros ((736 : Nat) : Int) s0)[737]? = some 0) := Lib.hid (by
    rw [setL_in s0 (by rw [zeros_len]; omega), List.getElem?_set_ne (by omega)]
    exact zeros_get (by omega))
  have HZ1 := Lib.hid hz1
  clear hz1
  go_enter Try.func5, Try.ntmps5
  go_wp2_with fail
  (with_reducible refine (up_any _).mono ?_)
  rintro e w' ⟨rfl, rfl⟩
  go_wp2_with fail
  (with_reducible refine (words_nil _).mono ?_)
  rintro e w1 ⟨rfl, hp1, ho1⟩
  have c1 := memP_cellC hp1 HZ1.out
  have f1 := hp1.row.frozen 736
  have f2 := hp1.row.frozen 737
  have hp2 := memP_setC 736 hp1 (by omega) HS.out
  have c2 := memP_cellC hp2 hz2.out
  have hp3 := memP_setC 737 hp2 (by omega) HO.out
  have ho3 := (ho1.setCell (p := ⟨w'.heap.size, 736, none⟩) (.inr (Nat.le_refl _)) (.int .u64 s0)).setCell (p := ⟨w'.heap.size, 737, none⟩) (.inr (Nat.le_refl _)) (.int .u64 o0)
  have hlt := hp1.row.lt
  have HU : Hid (usedL (setL (setL zeros ((736 : Nat) : Int) s0) ((737 : Nat) : Int) o0) = (a0, b0)) := Lib.hid (by
    have := usedL_set zeros_len s0 o0
    rw [ha0.out, hb0.out]
    exact this)
  have HB := Lib.hid (And.intro hp3 ho3)
  clear hp1 ho1 hp2 hp3 ho3
  go_upto_if 29 with fail
  clear c1 c2 f1 f2
  generalize (w1.setCell ⟨w'.heap.size, 736, none⟩ (.int .u64 s0)).setCell ⟨w'.heap.size, 737, none⟩ (.int .u64 o0) = w2 at HB ⊢
  generalize setL (setL zeros ((736 : Nat) : Int) s0) ((737 : Nat) : Int) o0 = L0 at HU HB
  go_cut [9] (fun v W => v = .int .i64 a0 ∧ W = w2)
  case first =>
    go_wp2_with fail
    all_goals go_meet
    · exact ⟨by have := ha0.out; simp; omega, rfl⟩
    · exact ⟨by have := ha0.out; simp; omega, rfl⟩
  case rest =>
    obtain ⟨rfl, hw⟩ := hcut
    replace hw := hw.symm
    subst hw
    go_upto_if 33 with fail
    go_cut [10] (fun v W => v = .int .i64 b0 ∧ W = w2)
    case first =>
      go_wp2_with fail
      all_goals go_meet
      · exact ⟨by have := hb0.out; simp; omega, rfl⟩
      · exact ⟨by have := hb0.out; simp; omega, rfl⟩
    case rest =>
      obtain ⟨rfl, hw⟩ := hcut
      replace hw := hw.symm
      subst hw
      go_wp2_with fail
      clear ha0 hb0 HS HO s00 s01 o00 o01
      go_loopw [9, 10, 11] (fun va vb i wr => ∃ (k : Nat) (a b : Int) (L : List Int), k ≤ LL.length ∧ k ≤ 100 ∧ va = .int .i64 a ∧ vb = .int .i64 b ∧ i = .int .i64 k ∧ MemP w'.heap.size 738 UT wr L ∧ Only [] w' wr ∧ usedL L = (a, b)) (fun _ _ i _ => 100 - (intOf i).toNat)
      case atStart => exact ⟨0, a0, b0, L0, by omega, by omega, rfl, rfl, rfl, HB.out.1, HB.out.2, HU.out⟩
      case round =>
        clear HU HB
        obtain ⟨k, a, b, L, hk, hk', rfl, rfl, rfl, hm, ho, hu⟩ := hrel
        obtain ⟨a0, a1, b0, b1⟩ := usedL_rng hm.us hu
        have HU : Hid (usedP.run machP L = ((a, b), L)) := Lib.hid (by rw [usedP_plain, hu])
        by_cases hend : k < LL.length ∧ k < 100
        · obtain ⟨hk1, hk2⟩ := hend
          obtain ⟨row, hrow⟩ : ∃ row, LL[k]? = some row := ⟨_, List.getElem?_eq_getElem hk1⟩
          obtain ⟨bb, off, A', cp', rfl, hbb, hcc, hin⟩ := hL k row hrow
          have hC := fun W (h : Only [] w' W) => (h.cell (p := ⟨bb, off + k, none⟩) hbb (by simp)).trans hcc
          have HC := Lib.hid hC
          have HI := Lib.hid hin
          have HM := Lib.hid (And.intro hm ho)
          clear hrow hcc hbb hC hin hm ho
          go_wp2_with fail
          (with_reducible refine (used_is (viewP _ _ _ _) HM.out.1 HU.out).mono ?_)
          rintro e w3 ⟨rfl, hm3, ho3⟩
          replace ho3 := HM.out.2.then ho3 (fun y hy => .inr (by simp at hy; omega))
          have c3 := HC.out w3 ho3
          have HM3 := Lib.hid (And.intro hm3 ho3)
          clear HM hm3 ho3
          by_cases h2 : row.length = 2
          · obtain ⟨s, o, rfl⟩ : ∃ s o, row = [s, o] := by
              match row, h2 with
              | [s, o], _ => exact ⟨s, o, rfl⟩
            clear h2
            obtain ⟨b2, off2, rfl, hb2, hcs⟩ := HI.out.at_ 0 s rfl
            obtain ⟨b2', off2', e2, -, hco⟩ := HI.out.at_ 1 o rfl
            injection e2 with e2
            injection e2 with e3 e4 _
            subst e3 e4
            have hC2 := fun W (h : Only [] w' W) => And.intro h (And.intro (show W.cell? ⟨bb, off + k, none⟩ = some (.slice (some ⟨b2, off2, none⟩) 2 cp') from HC.out W h) (And.intro ((h.cell (p := ⟨b2, off2, none⟩) hb2 (by simp)).trans hcs) ((h.cell (p := ⟨b2, off2 + 1, none⟩) hb2 (by simp)).trans hco)))
            have HC2 := Lib.hid hC2
            have HW := Lib.hid (takes_ways HM3.out.1.len HM3.out.1.us hu s o)
            clear hC2 hcs hco hb2 HI HC
            have c3' : w3.cell? ⟨bb, off + k, none⟩ = some (.slice (some ⟨b2, off2, none⟩) 2 cp') := c3
            clear c3
            obtain ⟨x, y, n, L1, hT, hn, hw⟩ := HW.out
            have cT := take_is (w := w3.drew) (viewP w'.heap.size 738 738 UT) ((viewP w'.heap.size 738 738 UT).drewN HM3.out.1 1) hT
            have hoy : Only [] w' w3.drew := HM3.out.2.drewN 1
            have hNN : ∀ y, y ∈ [w'.heap.size] → y ∈ ([] : List Nat) ∨ w'.heap.size ≤ y := fun y hy => .inr (by simp at hy; omega)
            have HNN := Lib.hid hNN
            have HN := Lib.hid hn
            have HWW := Lib.hid hw
            clear hNN hn hw hT HW
            go_upto_region 18 with fail
            go_region_held3 (fun W => Only [] w' W ∧ W.cell? ⟨bb, off + k, none⟩ = some (.slice (some ⟨b2, off2, none⟩) 2 cp') ∧ W.cell? ⟨b2, off2, none⟩ = some (.int .i64 s) ∧ W.cell? ⟨b2, off2 + 1, none⟩ = some (.int .i64 o))
              (first | exact HC2.out _ hoy | exact HC2.out _ hox)
              (first | ((with_reducible refine cT.mono ?_); clear cT; rintro e w4 ⟨rfl, hm4, ho4⟩; have hox := hoy.then ho4 HNN.out))
            obtain ⟨-, z0, z1, z2⟩ := HC2.out _ hox
            have HM4 := Lib.hid (And.intro hm4 hox)
            clear hoy ho4 hm4 hox c3'
            rcases HWW.out with ⟨h1, rfl, rfl, rfl, rfl⟩ | ⟨h1, h2, rfl, rfl, rfl, rfl⟩ | ⟨h1, h2, h3, rfl, rfl, rfl, rfl⟩ | ⟨h1, h2, h3, h4, rfl, rfl, rfl, rfl⟩ | ⟨h1, h2, h3, h4, rfl, rfl, rfl, h5⟩
            iterate 4
              · clear HWW
                go_wp2_with fail
                (with_reducible refine (code_any (by omega) _).mono ?_)
                rintro e w5 ⟨rfl, rfl⟩
                go_wp2_with fail
                go_roundw
                case rel => exact ⟨k + 1, a, b, _, by omega, by omega, rfl, rfl, by go_num, HM4.out.1, HM4.out.2, hu⟩
                case measure => simp [intOf]; omega
            · clear HWW hu
              go_wp2_with fail
              (with_reducible refine (code_any (by omega) _).mono ?_)
              rintro e w5 ⟨rfl, rfl⟩
              go_wp2_with fail
              go_roundw
              case rel => exact ⟨k + 1, _, _, _, by omega, by omega, rfl, rfl, by go_num, HM4.out.1, HM4.out.2, h5⟩
              case measure => simp [intOf]; omega
          · have h2' : (((row.length : Nat) : Int) == 2) = false := by simp; omega
            clear h2
            go_wp2_with fail
            go_roundw
            case rel => exact ⟨k + 1, a, b, L, by omega, by omega, rfl, rfl, by go_num, HM3.out.1, HM3.out.2, hu⟩
            case measure => simp [intOf]; omega
        · have hend' : ¬ k < LL.length ∨ (k < LL.length ∧ ¬ k < 100) := by omega
          have HM := Lib.hid (And.intro hm ho)
          clear hend hm ho
          rcases hend' with h1 | ⟨h1, h2⟩
          all_goals
            go_wp2_with fail
            (with_reducible refine (used_is (viewP _ _ _ _) HM.out.1 HU.out).mono ?_)
            rintro e w3 ⟨rfl, hm3, ho3⟩
            replace ho3 := HM.out.2.then ho3 (fun y hy => .inr (by simp at hy; omega))
            clear HM hm3
            go_wp2_with fail
            go_ret
            exact ⟨rfl, ho3⟩
end Go.Proofs.Ytlnealbnkplfmaa
