/- Words of the document's state, of any state whose numbers are not great (layers 11 to 21). -/
import Derived.Test.YtihipcbhfjpgbaaRefObjM
import Derived.StillTailTactics
import Derived.Deep.CutBlock
import Derived.Deep.DeepCutAuto
namespace Go.Proofs.Ytihipcbhfjpgbaa
open Go.RowKit
section
variable {w : World} {p gs go : Nat} {S : RSt}
set_option maxRecDepth 100000 in
set_option maxHeartbeats 4000000 in
theorem rwordsG_any (h : RefM w p gs go S) (hG : S.FitG) :
    Calls Try.prog 7 #[.pointer (some ⟨p, 0, none⟩)] w fun e w' => e = .returned (.slice (some ⟨w.heap.size, 0, none⟩) 738 738) ∧ MemP w.heap.size 738 UT w' (wordsG S) ∧ Only [] w w' := by
  have hF := hG.fit
  have hs := hG.short
  have hmk := Lib.hid fun W : World => run_makeN (P := Try.prog) (t := 26) (f := u64row) 0 infoU64 Try.underlying26 (fun _ => rfl) (by omega) rfl .i64 .i64 738 738 (by omega) (by omega) (by omega) (by omega) W
  have hb := Blk.new w UT (flat u64row (List.replicate 738 0))
  go_enter Try.func7, Try.ntmps7
  go_wp2
  rw [hmk.out]
  go_wp2_with fail
  go_loopw [4] (fun i wr => ∃ k : Nat, k ≤ 96 ∧ i = .int .i64 k ∧ MemP w.heap.size 738 UT wr (applyW ((List.range k).flatMap (slotW S)) zeros) ∧ Only [] w wr) (fun i _ => 96 - (intOf i).toNat)
  case atStart => exact ⟨0, by omega, rfl, ⟨zeros_len, rowU_flat hb, zeros_us⟩, (Only.refl _ _).alloc _⟩
  case round =>
    clear hb hmk
    obtain ⟨k, hk, rfl, hm, ho⟩ := hrel
    by_cases hlt : k < 96
    · as_aux_lemma =>
        have hr := h.only0 ho
        obtain ⟨cs, c0⟩ := hr.cSlots
        obtain ⟨A, cp, hR, hrow⟩ := hr.cSlot hlt
        have r0 := hrow 0 _ rfl
        have r1 := hrow 1 _ rfl
        have r2 := hrow 2 _ rfl
        have r3 := hrow 3 _ rfl
        have r4 := hrow 4 _ rfl
        have r5 := hrow 5 _ rfl
        have r6 := hrow 6 _ rfl
        have r7 := hrow 7 _ rfl
        rw [Nat.add_zero] at r0
        have hpz := hr.ltP
        have hgz := hr.ltS
        have hkI : (k : Int) < 96 := by omega
        have hin : InS (k : Int) := ⟨by omega, hkI⟩
        have hgw := hm.row.lt
        have cW := fun W => refWord_any (S.cap k) W (hF.cap k hin)
        have HC := Lib.hid cW
        have hB := Blk.new wr SlT #[.int .i64 (S.cap k).kind, .int .i64 (S.cap k).rights, .int .i64 (S.cap k).obj, .int .i64 (S.cap k).badge, .int .i64 (S.cap k).guard, .int .i64 (S.cap k).bits, .int .i64 (S.par k), .slice A (S.kids k).length cp]
        have oB : Only [] wr (wr.alloc (.cells #[.int .i64 (S.cap k).kind, .int .i64 (S.cap k).rights, .int .i64 (S.cap k).obj, .int .i64 (S.cap k).badge, .int .i64 (S.cap k).guard, .int .i64 (S.cap k).bits, .int .i64 (S.par k), .slice A (S.kids k).length cp] SlT)) := (Only.refl _ _).alloc _
        have HB := Lib.hid (And.intro hB (And.intro oB (And.intro hm (And.intro ho hR))))
        clear hr hR hrow hB oB hm ho cW
        go_upto_region 6 with fail
        generalize (wr.alloc (.cells #[.int .i64 (S.cap k).kind, .int .i64 (S.cap k).rights, .int .i64 (S.cap k).obj, .int .i64 (S.cap k).badge, .int .i64 (S.cap k).guard, .int .i64 (S.cap k).bits, .int .i64 (S.par k), .slice A (S.kids k).length cp] SlT)) = wB at HB ⊢
        clear r0 r1 r2 r3 r4 r5 r6 r7 c0 hpz
        obtain ⟨hB, oB, hm, ho, hR⟩ := HB.out
        obtain ⟨L0, hL0⟩ : ∃ L0, Hid (applyW ((List.range k).flatMap (slotW S)) zeros = L0) := ⟨_, Lib.hid rfl⟩
        rw [hL0.out] at hm
        obtain ⟨l, hl⟩ : ∃ l, Hid (S.kids k = l) := ⟨_, Lib.hid rfl⟩
        rw [hl.out] at hB hR
        obtain ⟨pk, hpk⟩ : ∃ pk, Hid (S.par k = pk) := ⟨_, Lib.hid rfl⟩
        have hpr := hF.par k hin
        rw [hpk.out] at hpr hB
        have q0 := hB.cell 0
        have q1 := hB.cell 1
        have q2 := hB.cell 2
        have q3 := hB.cell 3
        have q4 := hB.cell 4
        have q5 := hB.cell 5
        simp only [List.getElem?_toArray, List.getElem?_cons_zero, List.getElem?_cons_succ] at q0 q1 q2 q3 q4 q5
        have hne : wr.heap.size ≠ w.heap.size := by omega
        have e5 : ((5 : Int) * (k : Int)).toNat = 5 * k := by omega
        have e51 : ((5 : Int) * (k : Int) + 1).toNat = 5 * k + 1 := by omega
        have b5 : (5 : Int) * (k : Int) < 738 := by omega
        have b51 : (5 : Int) * (k : Int) + 1 < 738 := by omega
        have hmB := hm.only oB (by simp)
        have hRB := hR.only oB (fun _ _ _ => by simp)
        have hoB := ho.trans oB
        have HM := Lib.hid (And.intro hmB (And.intro hRB (And.intro hoB hB)))
        clear hB oB hm ho hR HB hmB hRB hoB
        go_wp2_with fail
        (with_reducible refine (HC.out _).mono ?_)
        rintro e w6 ⟨rfl, o6⟩
        have hm6 := HM.out.1.only o6 (by simp)
        have hB6 := o6.blk HM.out.2.2.2 (by simp)
        have c6 := hm6.cell (m := 5 * k) (by omega)
        have c61 := hm6.cell (m := 5 * k + 1) (by omega)
        have f6 := hm6.row.frozen (5 * k)
        have f61 := hm6.row.frozen (5 * k + 1)
        have qp := hB6.cell 6
        simp only [List.getElem?_toArray, List.getElem?_cons_zero, List.getElem?_cons_succ] at qp
        have hc9 := hF.cap k hin
        have hm7 := (hm6.put (m := 5 * k) (by omega) (wordU64 hc9)).put (m := 5 * k + 1) (x := pk + 1) (by omega) ⟨by omega, by omega⟩
        have o7 := ((HM.out.2.2.1.trans o6).setCell (p := ⟨w.heap.size, 5 * k, none⟩) (.inr (Nat.le_refl _)) (.int .u64 (S.cap k).word)).setCell (p := ⟨w.heap.size, 5 * k + 1, none⟩) (.inr (Nat.le_refl _)) (.int .u64 (pk + 1))
        have s7 : Only [w.heap.size] w6 ((w6.setCell ⟨w.heap.size, 5 * k, none⟩ (.int .u64 (S.cap k).word)).setCell ⟨w.heap.size, 5 * k + 1, none⟩ (.int .u64 (pk + 1))) := (((Only.refl _ w6).setCell (p := ⟨w.heap.size, 5 * k, none⟩) (.inl (by simp)) (.int .u64 (S.cap k).word))).setCell (p := ⟨w.heap.size, 5 * k + 1, none⟩) (.inl (by simp)) (.int .u64 (pk + 1))
        have hB7 := s7.blk hB6 (by simpa using hne)
        have hR7 := (HM.out.2.1.only o6 (fun _ _ _ => by simp)).only s7 (fun x cur hx hx2 => by
          simp at hx2
          subst hx2
          obtain ⟨cur9, hb9, -⟩ := hm6.row
          exact absurd (hx.uniq hb9).1 (by decide))
        have H7 := Lib.hid (And.intro hm7 (And.intro o7 (And.intro hB7 hR7)))
        clear HM hm6 hB6 hm7 o7 s7 hB7 hR7 q0 q1 q2 q3 q4 q5 o6
        go_wp2_with fail
        obtain ⟨B, hBB⟩ : ∃ B, wr.heap.size = B := ⟨_, rfl⟩
        rw [hBB] at H7 hne hgw ⊢
        generalize (w6.setCell ⟨w.heap.size, 5 * k, none⟩ (.int .u64 (S.cap k).word)).setCell ⟨w.heap.size, 5 * k + 1, none⟩ (.int .u64 (pk + 1)) = w7 at H7 ⊢
        obtain ⟨L1, hL1⟩ : ∃ L1, Hid (setL (setL L0 ((5 * k : Nat) : Int) (S.cap k).word) ((5 * k + 1 : Nat) : Int) (pk + 1) = L1) := ⟨_, Lib.hid rfl⟩
        rw [hL1.out] at H7
        have hls : l.length ≤ 500 := by rw [← hl.out]; exact hs k
        have hlin : ∀ x, x ∈ l → InS x := by rw [← hl.out]; exact hF.kids k hin
        clear c6 c61 f6 f61 qp hBB
        obtain ⟨wo, hwo⟩ : ∃ x, x = wr := ⟨_, rfl⟩
        clear hwo wo
        go_loopw [6, 7] (fun i _ wq => ∃ m : Nat, m ≤ l.length ∧ i = .int .i64 m ∧ MemP w.heap.size 738 UT wq (applyW ((List.range m).flatMap (kidW k l)) L1) ∧ Only [] w wq ∧ Blk wq B SlT #[.int .i64 (S.cap k).kind, .int .i64 (S.cap k).rights, .int .i64 (S.cap k).obj, .int .i64 (S.cap k).badge, .int .i64 (S.cap k).guard, .int .i64 (S.cap k).bits, .int .i64 pk, .slice A l.length cp] ∧ RowN wq A ItT irow' 1 l) (fun i _ _ => l.length - (intOf i).toNat)
        case atStart => exact ⟨0, by omega, rfl, H7.out.1, H7.out.2.1, H7.out.2.2.1, H7.out.2.2.2⟩
        case round =>
          clear H7
          obtain ⟨m, hm', rfl, hmem, ho, hB, hR⟩ := hrel
          obtain ⟨Lm, HLm⟩ : ∃ Lm, Hid (Lm = applyW ((List.range m).flatMap (kidW k l)) L1) := ⟨_, Lib.hid rfl⟩
          rw [← HLm.out] at hmem
          have qK := hB.cell 7
          simp only [List.getElem?_toArray, List.getElem?_cons_zero, List.getElem?_cons_succ] at qK
          have hBl := hB.lt
          by_cases hlt2 : m < l.length
          · obtain ⟨x, hx⟩ : ∃ x, l[m]? = some x := ⟨_, List.getElem?_eq_getElem hlt2⟩
            have hxin := hlin x (List.mem_of_getElem? hx)
            obtain ⟨y, rfl⟩ : ∃ y : Nat, x = y := ⟨x.toNat, by have := hxin.1; omega⟩
            have hy : y < 96 := by have := hxin.2; omega
            have hFR : ∀ x cur, Blk wr x ItT cur → x ∉ [w.heap.size] := fun x cur hx hx2 => by
              simp at hx2
              subst hx2
              obtain ⟨cur9, hb9, -⟩ := hmem.row
              exact absurd (hx.uniq hb9).1 (by decide)
            obtain ⟨gk, rfl, hgk, cx⟩ := rowN_cell hR hx
            have hgg : gk ≠ w.heap.size := fun e => by
              obtain ⟨g', cur', e9, hb9, -⟩ := hR m _ hx
              injection e9 with e9
              injection e9 with e9 _ _
              subst e9
              exact hFR gk cur' hb9 (by simp [e])
            have hmI : (m : Int) < (l.length : Int) := by omega
            have d1 : ((5 : Int) * (y : Int) + 4).toNat = 5 * y + 4 := by omega
            have d2 : ((5 : Int) * (y : Int) + 3).toNat = 5 * y + 3 := by omega
            have d3 : ((5 : Int) * (k : Int) + 2).toNat = 5 * k + 2 := by omega
            have b1 : (5 : Int) * (y : Int) + 4 < 738 := by omega
            have b2 : (5 : Int) * (y : Int) + 3 < 738 := by omega
            have b3 : (5 : Int) * (k : Int) + 2 < 738 := by omega
            have x1 := hmem.cell (m := 5 * y + 4) (by omega)
            have x2 := hmem.cell (m := 5 * y + 3) (by omega)
            have x3 := hmem.cell (m := 5 * k + 2) (by omega)
            have g1 := hmem.row.frozen (5 * y + 4)
            have g2 := hmem.row.frozen (5 * y + 3)
            have g3 := hmem.row.frozen (5 * k + 2)
            have HX : Hid (l[m]? = some (y : Int)) := Lib.hid hx
            have hnext : m + 1 < l.length ∨ ¬ m + 1 < l.length := by omega
            by_cases hm0 : m = 0
            · subst hm0
              rcases hnext with h2 | h2
              · obtain ⟨x', hx'⟩ : ∃ x', l[0 + 1]? = some x' := ⟨_, List.getElem?_eq_getElem h2⟩
                have hxin' := hlin x' (List.mem_of_getElem? hx')
                obtain ⟨u, rfl⟩ : ∃ u : Nat, x' = u := ⟨x'.toNat, by have := hxin'.1; omega⟩
                have hu : u < 96 := by have := hxin'.2; omega
                obtain ⟨gk', e9, -, cu⟩ := rowN_cell hR hx'
                injection e9 with e9
                injection e9 with e9 _ _
                subst e9
                have HU : Hid (l[0 + 1]? = some (u : Int)) := Lib.hid hx'
                have h2I : (1 : Int) < (l.length : Int) := by omega
                clear hx hx' hxin hxin' hlin
                have hkw : Hid (kidW k l 0 = [((((5 * k + 2) : Nat) : Int), ((y : Int) + 1)), (((5 * y + 3 : Nat) : Int), (u : Int) + 1)]) := Lib.hid (by unfold kidW; rw [if_pos rfl, if_pos h2, gd HX.out, gd HU.out]; simp)
                have hP := (hmem.put (m := (5 * k + 2)) (x := ((y : Int) + 1)) (by omega) ⟨by omega, by omega⟩).put (m := 5 * y + 3) (x := (u : Int) + 1) (by omega) ⟨by omega, by omega⟩
                have oP := ((Only.refl [w.heap.size] wr).setCell (p := ⟨w.heap.size, (5 * k + 2), none⟩) (.inl (by simp)) (.int .u64 ((y : Int) + 1))).setCell (p := ⟨w.heap.size, 5 * y + 3, none⟩) (.inl (by simp)) (.int .u64 ((u : Int) + 1))
                have HP := Lib.hid (And.intro hP (And.intro (ho.then oP (fun x hx => .inr (by simp at hx; omega))) (And.intro (oP.blk hB (by simpa using hne)) (hR.only oP hFR))))
                clear hP oP hmem ho hB hR hFR
                go_wp2_with fail
                go_roundw
                case rel =>
                  refine ⟨0 + 1, by omega, by go_num, ?_, HP.out.2.1, HP.out.2.2.1, HP.out.2.2.2⟩
                  rw [applyW_step, hkw.out, ← HLm.out]
                  exact HP.out.1
                case measure => simp [intOf]; omega
              · have h2I : ¬ (1 : Int) < (l.length : Int) := by omega
                clear hx hxin hlin
                have hkw : Hid (kidW k l 0 = [((((5 * k + 2) : Nat) : Int), ((y : Int) + 1))]) := Lib.hid (by simp [kidW, HX.out, h2])
                have hP := hmem.put (m := (5 * k + 2)) (x := ((y : Int) + 1)) (by omega) ⟨by omega, by omega⟩
                have oP := (Only.refl [w.heap.size] wr).setCell (p := ⟨w.heap.size, (5 * k + 2), none⟩) (.inl (by simp)) (.int .u64 ((y : Int) + 1))
                have HP := Lib.hid (And.intro hP (And.intro (ho.then oP (fun x hx => .inr (by simp at hx; omega))) (And.intro (oP.blk hB (by simpa using hne)) (hR.only oP hFR))))
                clear hP oP hmem ho hB hR hFR
                go_wp2_with fail
                go_roundw
                case rel =>
                  refine ⟨0 + 1, by omega, by go_num, ?_, HP.out.2.1, HP.out.2.2.1, HP.out.2.2.2⟩
                  rw [applyW_step, hkw.out, ← HLm.out]
                  exact HP.out.1
                case measure => simp [intOf]; omega
            · obtain ⟨x'', hx''⟩ : ∃ x'', l[m - 1]? = some x'' := ⟨_, List.getElem?_eq_getElem (by omega)⟩
              have hxin'' := hlin x'' (List.mem_of_getElem? hx'')
              obtain ⟨z, rfl⟩ : ∃ z : Nat, x'' = z := ⟨x''.toNat, by have := hxin''.1; omega⟩
              have hz : z < 96 := by have := hxin''.2; omega
              obtain ⟨gk'', e8, -, cz⟩ := rowN_cell hR hx''
              injection e8 with e8
              injection e8 with e8 _ _
              subst e8
              have HZ : Hid (l[m - 1]? = some (z : Int)) := Lib.hid hx''
              have hmB : ((m : Int) == 0) = false := by simp; omega
              have t1 : ((m : Int) - 1).toNat = m - 1 := by omega
              have t2 : (0 : Int) ≤ (m : Int) - 1 := by omega
              have t3 : (m : Int) - 1 < (l.length : Int) := by omega
              rcases hnext with h2 | h2
              · obtain ⟨x', hx'⟩ : ∃ x', l[m + 1]? = some x' := ⟨_, List.getElem?_eq_getElem h2⟩
                have hxin' := hlin x' (List.mem_of_getElem? hx')
                obtain ⟨u, rfl⟩ : ∃ u : Nat, x' = u := ⟨x'.toNat, by have := hxin'.1; omega⟩
                have hu : u < 96 := by have := hxin'.2; omega
                obtain ⟨gk', e9, -, cu⟩ := rowN_cell hR hx'
                injection e9 with e9
                injection e9 with e9 _ _
                subst e9
                have HU : Hid (l[m + 1]? = some (u : Int)) := Lib.hid hx'
                have h2I : (m : Int) + 1 < (l.length : Int) := by omega
                have t4 : ((m : Int) + 1).toNat = m + 1 := by omega
                clear hx hx' hx'' hxin hxin' hxin'' hlin
                have hkw : Hid (kidW k l m = [((((5 * y + 4) : Nat) : Int), ((z : Int) + 1)), (((5 * y + 3 : Nat) : Int), (u : Int) + 1)]) := Lib.hid (by unfold kidW; rw [if_neg hm0, if_pos h2, gd HX.out, gd HZ.out, gd HU.out]; simp)
                have hP := (hmem.put (m := (5 * y + 4)) (x := ((z : Int) + 1)) (by omega) ⟨by omega, by omega⟩).put (m := 5 * y + 3) (x := (u : Int) + 1) (by omega) ⟨by omega, by omega⟩
                have oP := ((Only.refl [w.heap.size] wr).setCell (p := ⟨w.heap.size, (5 * y + 4), none⟩) (.inl (by simp)) (.int .u64 ((z : Int) + 1))).setCell (p := ⟨w.heap.size, 5 * y + 3, none⟩) (.inl (by simp)) (.int .u64 ((u : Int) + 1))
                have HP := Lib.hid (And.intro hP (And.intro (ho.then oP (fun x hx => .inr (by simp at hx; omega))) (And.intro (oP.blk hB (by simpa using hne)) (hR.only oP hFR))))
                clear hP oP hmem ho hB hR hFR
                go_wp2_with fail
                go_roundw
                case rel =>
                  refine ⟨m + 1, by omega, by go_num, ?_, HP.out.2.1, HP.out.2.2.1, HP.out.2.2.2⟩
                  rw [applyW_step, hkw.out, ← HLm.out]
                  exact HP.out.1
                case measure => simp [intOf]; omega
              · have h2I : ¬ (m : Int) + 1 < (l.length : Int) := by omega
                clear hx hx'' hxin hxin'' hlin
                have hkw : Hid (kidW k l m = [((((5 * y + 4) : Nat) : Int), ((z : Int) + 1))]) := Lib.hid (by simp [kidW, HX.out, HZ.out, hm0, h2])
                have hP := hmem.put (m := (5 * y + 4)) (x := ((z : Int) + 1)) (by omega) ⟨by omega, by omega⟩
                have oP := (Only.refl [w.heap.size] wr).setCell (p := ⟨w.heap.size, (5 * y + 4), none⟩) (.inl (by simp)) (.int .u64 ((z : Int) + 1))
                have HP := Lib.hid (And.intro hP (And.intro (ho.then oP (fun x hx => .inr (by simp at hx; omega))) (And.intro (oP.blk hB (by simpa using hne)) (hR.only oP hFR))))
                clear hP oP hmem ho hB hR hFR
                go_wp2_with fail
                go_roundw
                case rel =>
                  refine ⟨m + 1, by omega, by go_num, ?_, HP.out.2.1, HP.out.2.2.1, HP.out.2.2.2⟩
                  rw [applyW_step, hkw.out, ← HLm.out]
                  exact HP.out.1
                case measure => simp [intOf]; omega
          · obtain rfl : m = l.length := by omega
            have happ : Hid (applyW ((List.range (k + 1)).flatMap (slotW S)) zeros = Lm) := Lib.hid (by
              rw [applyW_step, hL0.out, applyW_slot, hl.out, hpk.out, HLm.out, ← hL1.out]
              rw [Int.natCast_add, Int.natCast_mul]
              rfl)
            have HM2 := Lib.hid (And.intro hmem ho)
            clear hmem ho hR hlin hlt2
            go_wp2_with fail
            go_roundw
            case rel =>
              refine ⟨k + 1, by omega, by go_num, ?_, HM2.out.2⟩
              rw [happ.out]
              exact HM2.out.1
            case measure => simp [intOf]; omega
    · obtain rfl : k = 96 := by omega
      obtain ⟨wo, hwo⟩ : ∃ x, x = wr := ⟨_, rfl⟩
      subst hwo
      obtain ⟨LS, hLS⟩ : ∃ LS, Hid (applyW ((List.range 96).flatMap (slotW S)) zeros = LS) := ⟨_, Lib.hid rfl⟩
      rw [hLS.out] at hm
      rw [show ((96 : Nat) : Int) = 96 from rfl]
      clear hlt
      go_wp2_with fail
      go_loopw [8] (fun i wr => ∃ k : Nat, k ≤ 32 ∧ i = .int .i64 k ∧ MemP w.heap.size 738 UT wr (objsL S LS k) ∧ Only [] w wr) (fun i _ => 32 - (intOf i).toNat)
      case atStart => exact ⟨0, by omega, rfl, hm, ho⟩
      case round =>
        clear hm ho
        obtain ⟨k, hk, rfl, hm, ho⟩ := hrel
        by_cases hlt : k < 32
        · as_aux_lemma =>
            have hr := h.only0 ho
            obtain ⟨co, c0⟩ := hr.cObjs
            obtain ⟨A, cp, hra, hR⟩ := hr.obj hlt
            have hFO := hG.ob k hlt
            obtain ⟨x, hx⟩ : ∃ x, Hid (S.ob k = x) := ⟨_, Lib.hid rfl⟩
            rw [hx.out] at hra hR hFO
            have HF := Lib.hid hFO
            have hpz := hr.ltP
            have hgz := hr.ltO
            have hkI : (k : Int) < 32 := by omega
            have hgw := hm.row.lt
            have HR := Lib.hid hra
            obtain ⟨Lk, hLk⟩ : ∃ Lk, Hid (objsL S LS k = Lk) := ⟨_, Lib.hid rfl⟩
            rw [hLk.out] at hm
            have H0 : OAt w w.heap.size wr.heap.size A cp x Lk (wr.alloc (.cells (objRow x (.slice A x.queue.length cp)).toArray ObT)) :=
              ⟨hm.only ((Only.refl [] _).alloc _) (by simp), ho.alloc _, Blk.new wr ObT _, hR.only ((Only.refl [] _).alloc _) (fun _ _ _ => by simp), Nat.le_refl _, by omega⟩
            have HH0 := Lib.hid H0
            clear hr hra hm ho hR hFO H0
            go_upto_region 20 with fail
            refine wp_region_lit ?_
            refine wpList_mv rfl _ rfl ?_
            go_upto_region 21 with (first | (refine wpList_load_mid rfl ObT _ rfl go (k * 32) (by rfl) (objRow x (.slice A x.queue.length cp)) _ HR.out Try.underlying46 rfl sizeOb ?_) | (refine wpList_store_row rfl ObT _ _ rfl wr.heap.size (objRow x (.slice A x.queue.length cp)).toArray (by rfl) (by rfl) ObT _ (heap_alloc_new wr _) sizeOb rfl (objRow_one x A _ cp) ?_; rw [World.setRow_alloc_new]))
            obtain ⟨B, hB⟩ : ∃ B, Hid (B = wr.heap.size) := ⟨_, Lib.hid rfl⟩
            obtain ⟨wB, hwB⟩ : ∃ wB, Hid (wB = wr.alloc (.cells (objRow x (.slice A x.queue.length cp)).toArray ObT)) := ⟨_, Lib.hid rfl⟩
            rw [← hwB.out, ← hB.out] at HH0
            rw [← hwB.out, ← hB.out]
            clear hwB hB hgw hpz hgz c0 HR
            clear wr
            obtain ⟨kd, hkd⟩ : ∃ kd, Hid (x.kind = kd) := ⟨_, Lib.hid rfl⟩
            have H0 := HH0.out
            have kc := H0.cell (j := 0) rfl
            have hne := H0.ne
            have hgw := H0.mem.row.lt
            have hBl := H0.blk.lt
            obtain ⟨kl, kh⟩ := HF.out.kind
            rw [hkd.out] at kc kl kh
            have m0 := H0.mem.cell (m := 480 + 8 * k) (ix0 hlt).2.2.1
            have f0 := H0.mem.row.frozen (480 + 8 * k)
            have e0 : ((480 : Int) + 8 * (k : Int)).toNat = 480 + 8 * k := (ix0 hlt).1
            have b0 : (480 : Int) + 8 * (k : Int) < 738 := (ix0 hlt).2.1
            have H1 := H0.put (m := 480 + 8 * k) (v := kd) (ix0 hlt).2.2.1 (big40 ⟨kl, kh⟩)
            have HH1 := Lib.hid H1
            clear H0 H1 HH0
            go_upto_region 23 with fail
            obtain ⟨w1, hw1⟩ : ∃ w1, Hid (w1 = wB.setCell ⟨w.heap.size, 480 + 8 * k, none⟩ (.int .u64 kd)) := ⟨_, Lib.hid rfl⟩
            rw [← hw1.out] at HH1
            rw [← hw1.out]
            obtain ⟨L1, hL1⟩ : ∃ L1, Hid (setL Lk (ow k 0) kd = L1) := ⟨_, Lib.hid rfl⟩
            rw [show ((480 + 8 * k : Nat) : Int) = ow k 0 from rfl, hL1.out] at HH1
            clear hw1 kc m0 f0 hgw hBl
            clear wB
            have H1 := HH1.out
            have kc := H1.cell (j := 0) rfl
            rw [hkd.out] at kc
            have hgw := H1.mem.row.lt
            have hBl := H1.blk.lt
            clear H1
            go_upto_block 6 with fail
            clear kc
            have H1 := HH1.out
            go_cut [] (fun W => OAt w w.heap.size B A cp x (kindL k x L1) W)
            case first =>
              have hkc := kinds kd
              clear kl kh
              rcases hkc with rfl | rfl | rfl | rfl | rfl | rfl | rfl | rfl | ⟨n1, n2, n3, n4, n5, n6, n7, n8⟩
              · as_aux_lemma =>
                    have HK : Hid (kindL k x L1 = setL (setL (L1) (ow k 1) (x.size)) (ow k 2) (x.used)) := Lib.hid (by unfold kindL; rw [hkd.out]; rfl)
                    have m1 := H1.mem.cell (m := 480 + 8 * k + 1) (ix1 hlt).2.2.1
                    have f1 := H1.mem.row.frozen (480 + 8 * k + 1)
                    have e1 : ((480 : Int) + 8 * (k : Int) + 1).toNat = 480 + 8 * k + 1 := (ix1 hlt).1
                    have b1 : (480 : Int) + 8 * (k : Int) + 1 < 738 := (ix1 hlt).2.1
                    have m2 := H1.mem.cell (m := 480 + 8 * k + 2) (ix2 hlt).2.2.1
                    have f2 := H1.mem.row.frozen (480 + 8 * k + 2)
                    have e2 : ((480 : Int) + 8 * (k : Int) + 2).toNat = 480 + 8 * k + 2 := (ix2 hlt).1
                    have b2 : (480 : Int) + 8 * (k : Int) + 2 < 738 := (ix2 hlt).2.1
                    have r1 := H1.cell (j := 1) rfl
                    obtain ⟨lo1, hi1⟩ := HF.out.size
                    have r2 := H1.cell (j := 2) rfl
                    obtain ⟨lo2, hi2⟩ := HF.out.used
                    have HP := Lib.hid ((H1.put (m := 480 + 8 * k + 1) (v := x.size) (ix1 hlt).2.2.1 (big40 HF.out.size)).put (m := 480 + 8 * k + 2) (v := x.used) (ix2 hlt).2.2.1 (big40 HF.out.used))
                    go_wp2_with fail
                    go_meet
                    rw [HK.out]
                    exact HP.out
              · as_aux_lemma =>
                    have HK : Hid (kindL k x L1 = setL (setL (L1) (ow k 1) (x.first)) (ow k 2) (x.radix)) := Lib.hid (by unfold kindL; rw [hkd.out]; rfl)
                    have m1 := H1.mem.cell (m := 480 + 8 * k + 1) (ix1 hlt).2.2.1
                    have f1 := H1.mem.row.frozen (480 + 8 * k + 1)
                    have e1 : ((480 : Int) + 8 * (k : Int) + 1).toNat = 480 + 8 * k + 1 := (ix1 hlt).1
                    have b1 : (480 : Int) + 8 * (k : Int) + 1 < 738 := (ix1 hlt).2.1
                    have m2 := H1.mem.cell (m := 480 + 8 * k + 2) (ix2 hlt).2.2.1
                    have f2 := H1.mem.row.frozen (480 + 8 * k + 2)
                    have e2 : ((480 : Int) + 8 * (k : Int) + 2).toNat = 480 + 8 * k + 2 := (ix2 hlt).1
                    have b2 : (480 : Int) + 8 * (k : Int) + 2 < 738 := (ix2 hlt).2.1
                    have r1 := H1.cell (j := 3) rfl
                    obtain ⟨lo1, hi1⟩ := HF.out.first
                    have r2 := H1.cell (j := 4) rfl
                    obtain ⟨lo2, hi2⟩ := HF.out.radix
                    have HP := Lib.hid ((H1.put (m := 480 + 8 * k + 1) (v := x.first) (ix1 hlt).2.2.1 (big40 HF.out.first)).put (m := 480 + 8 * k + 2) (v := x.radix) (ix2 hlt).2.2.1 (big40 HF.out.radix))
                    go_wp2_with fail
                    go_meet
                    rw [HK.out]
                    exact HP.out
              · as_aux_lemma =>
                    have HK : Hid (kindL k x L1 = setL (L1) (ow k 1) (x.wait)) := Lib.hid (by unfold kindL; rw [hkd.out]; rfl)
                    have m1 := H1.mem.cell (m := 480 + 8 * k + 1) (ix1 hlt).2.2.1
                    have f1 := H1.mem.row.frozen (480 + 8 * k + 1)
                    have e1 : ((480 : Int) + 8 * (k : Int) + 1).toNat = 480 + 8 * k + 1 := (ix1 hlt).1
                    have b1 : (480 : Int) + 8 * (k : Int) + 1 < 738 := (ix1 hlt).2.1
                    have r1 := H1.cell (j := 5) rfl
                    obtain ⟨lo1, hi1⟩ := HF.out.wait
                    have HP := Lib.hid (H1.put (m := 480 + 8 * k + 1) (v := x.wait) (ix1 hlt).2.2.1 (big40 HF.out.wait))
                    go_wp2_with fail
                    go_meet
                    rw [HK.out]
                    exact HP.out
              · as_aux_lemma =>
                    have HK : Hid (kindL k x L1 = setL (L1) (ow k 1) (x.word)) := Lib.hid (by unfold kindL; rw [hkd.out]; rfl)
                    have m1 := H1.mem.cell (m := 480 + 8 * k + 1) (ix1 hlt).2.2.1
                    have f1 := H1.mem.row.frozen (480 + 8 * k + 1)
                    have e1 : ((480 : Int) + 8 * (k : Int) + 1).toNat = 480 + 8 * k + 1 := (ix1 hlt).1
                    have b1 : (480 : Int) + 8 * (k : Int) + 1 < 738 := (ix1 hlt).2.1
                    have r1 := H1.cell (j := 7) rfl
                    obtain ⟨lo1, hi1⟩ := HF.out.word
                    have HP := Lib.hid (H1.put (m := 480 + 8 * k + 1) (v := x.word) (ix1 hlt).2.2.1 (big40 HF.out.word))
                    go_wp2_with fail
                    go_meet
                    rw [HK.out]
                    exact HP.out
              · as_aux_lemma =>
                    have HK : Hid (kindL k x L1 = threadL k x L1) := Lib.hid (by unfold kindL; rw [hkd.out, if_neg (by decide), if_neg (by decide), if_neg (by decide), if_neg (by decide), if_pos rfl])
                    have m1 := H1.mem.cell (m := 480 + 8 * k + 1) (ix1 hlt).2.2.1
                    have f1 := H1.mem.row.frozen (480 + 8 * k + 1)
                    have e1 : ((480 : Int) + 8 * (k : Int) + 1).toNat = 480 + 8 * k + 1 := (ix1 hlt).1
                    have b1 : (480 : Int) + 8 * (k : Int) + 1 < 738 := (ix1 hlt).2.1
                    have r1 := H1.cell (j := 8) rfl
                    obtain ⟨lo1, hi1⟩ := HF.out.state
                    have H2 := Lib.hid (H1.put (m := 480 + 8 * k + 1) (v := x.state) (ix1 hlt).2.2.1 (big40 HF.out.state))
                    clear H1
                    go_upto_region 36 with fail
                    obtain ⟨w2, hw2⟩ : ∃ w2, Hid (w2 = w1.setCell ⟨w.heap.size, 480 + 8 * k + 1, none⟩ (.int .u64 x.state)) := ⟨_, Lib.hid rfl⟩
                    rw [← hw2.out] at H2
                    rw [← hw2.out]
                    obtain ⟨L2, hL2⟩ : ∃ L2, Hid (setL L1 (ow k 1) x.state = L2) := ⟨_, Lib.hid rfl⟩
                    rw [show ((480 + 8 * k + 1 : Nat) : Int) = ow k 1 from rfl, hL2.out] at H2
                    clear hw2 m1 f1 e1 b1 r1 lo1 hi1
                    have m2 := H2.out.mem.cell (m := 480 + 8 * k + 2) (ix2 hlt).2.2.1
                    have f2 := H2.out.mem.row.frozen (480 + 8 * k + 2)
                    have e2 : ((480 : Int) + 8 * (k : Int) + 2).toNat = 480 + 8 * k + 2 := (ix2 hlt).1
                    have b2 : (480 : Int) + 8 * (k : Int) + 2 < 738 := (ix2 hlt).2.1
                    have z2 : (0 : Int) ≤ (480 : Int) + 8 * (k : Int) + 2 := (ix2 hlt).2.2.2
                    have r2 := H2.out.cell (j := 9) rfl
                    obtain ⟨lo2, hi2⟩ := HF.out.owing
                    have hu := H2.out.mem.us.atL (ow k 2)
                    obtain ⟨v2, hv2⟩ : ∃ v2, Hid (atL L2 (ow k 2) = v2) := ⟨_, Lib.hid rfl⟩
                    rw [show ((480 + 8 * k + 2 : Nat) : Int) = ow k 2 from rfl, hv2.out] at m2
                    rw [hv2.out] at hu
                    obtain ⟨u0, u1⟩ := hu
                    have hgw2 := H2.out.mem.row.lt
                    have hBl2 := H2.out.blk.lt
                    have y1 := wr2 hlt
                    obtain ⟨y2, y3, y4, y5⟩ := wrP HF.out.owing
                    have y6 := wrA v2 (x.owing + 1)
                    go_still_tail 14, (by kernel_rfl)
                    change wpList _ _ _ _ _ w2.drew
                    have H3 := Lib.hid (H2.out.only0 ((Only.refl [] w2).drewN 1))
                    obtain ⟨w3, hw3⟩ : ∃ w3, Hid (w3 = w2.drew) := ⟨_, Lib.hid rfl⟩
                    rw [show w2.drewN 1 = w2.drew from rfl, ← hw3.out] at H3
                    rw [← hw3.out]
                    clear m2 f2 r2 hgw2 hBl2 hw3 H2
                    have m2 := H3.out.mem.cell (m := 480 + 8 * k + 2) (ix2 hlt).2.2.1
                    have f2 := H3.out.mem.row.frozen (480 + 8 * k + 2)
                    have hgw2 := H3.out.mem.row.lt
                    have H4 := Lib.hid (H3.out.put (m := 480 + 8 * k + 2) (v := addU v2 (x.owing + 1)) (ix2 hlt).2.2.1 (addU_rng _ _))
                    go_upto_region 37 with fail
                    obtain ⟨w4, hw4⟩ : ∃ w4, Hid (w4 = w3.setCell ⟨w.heap.size, 480 + 8 * k + 2, none⟩ (.int .u64 (addU v2 (x.owing + 1)))) := ⟨_, Lib.hid rfl⟩
                    rw [← hw4.out] at H4
                    rw [← hw4.out]
                    clear hw4 m2 f2 e2 b2 z2 hgw2 H3 y1 y2 y3 y4 y5 y6 lo2 hi2 u0 u1
                    have m3 := H4.out.mem.cell (m := 480 + 8 * k + 3) (ix3 hlt).2.2.1
                    have f3 := H4.out.mem.row.frozen (480 + 8 * k + 3)
                    have e3 := (ix3 hlt).1
                    have b3 := (ix3 hlt).2.1
                    have r3 := H4.out.cell (j := 7) rfl
                    have hgw2 := H4.out.mem.row.lt
                    have hBl2 := H4.out.blk.lt
                    obtain ⟨lo3, hi3⟩ := HF.out.word
                    have H5 := Lib.hid (H4.out.put (m := 480 + 8 * k + 3) (v := x.word) (ix3 hlt).2.2.1 (big40 HF.out.word))
                    go_upto_region 38 with fail
                    obtain ⟨w5, hw5⟩ : ∃ w5, Hid (w5 = w4.setCell ⟨w.heap.size, 480 + 8 * k + 3, none⟩ (.int .u64 (x.word))) := ⟨_, Lib.hid rfl⟩
                    rw [← hw5.out] at H5
                    rw [← hw5.out]
                    clear hw5 m3 f3 e3 b3 r3 hgw2 hBl2 H4
                    have m4 := H5.out.mem.cell (m := 480 + 8 * k + 4) (ix4 hlt).2.2.1
                    have f4 := H5.out.mem.row.frozen (480 + 8 * k + 4)
                    have e4 := (ix4 hlt).1
                    have b4 := (ix4 hlt).2.1
                    have r4 := H5.out.cell (j := 10) rfl
                    have hgw2 := H5.out.mem.row.lt
                    have hBl2 := H5.out.blk.lt
                    obtain ⟨lo4, hi4⟩ := HF.out.badge
                    have H6 := Lib.hid (H5.out.put (m := 480 + 8 * k + 4) (v := x.badge) (ix4 hlt).2.2.1 (big40 HF.out.badge))
                    go_upto_region 39 with fail
                    obtain ⟨w6, hw6⟩ : ∃ w6, Hid (w6 = w5.setCell ⟨w.heap.size, 480 + 8 * k + 4, none⟩ (.int .u64 (x.badge))) := ⟨_, Lib.hid rfl⟩
                    rw [← hw6.out] at H6
                    rw [← hw6.out]
                    clear hw6 m4 f4 e4 b4 r4 hgw2 hBl2 H5
                    have m5 := H6.out.mem.cell (m := 480 + 8 * k + 5) (ix5 hlt).2.2.1
                    have f5 := H6.out.mem.row.frozen (480 + 8 * k + 5)
                    have e5 := (ix5 hlt).1
                    have b5 := (ix5 hlt).2.1
                    have r5 := H6.out.cell (j := 11) rfl
                    have hgw2 := H6.out.mem.row.lt
                    have hBl2 := H6.out.blk.lt
                    have r5b := H6.out.cell (j := 12) rfl
                    obtain ⟨-, t5, t6, t7, t8⟩ := big256 HF.out.prio HF.out.on
                    obtain ⟨lo5, hi5⟩ := HF.out.on
                    obtain ⟨lo6, hi6⟩ := HF.out.prio
                    have H7 := Lib.hid (H6.out.put (m := 480 + 8 * k + 5) (v := x.prio + 256 * (x.on + 1)) (ix5 hlt).2.2.1 (big256 HF.out.prio HF.out.on).1)
                    go_upto_region 40 with fail
                    obtain ⟨w7, hw7⟩ : ∃ w7, Hid (w7 = w6.setCell ⟨w.heap.size, 480 + 8 * k + 5, none⟩ (.int .u64 (x.prio + 256 * (x.on + 1)))) := ⟨_, Lib.hid rfl⟩
                    rw [← hw7.out] at H7
                    rw [← hw7.out]
                    clear hw7 r5b m5 f5 e5 b5 r5 hgw2 hBl2 H6
                    have m6 := H7.out.mem.cell (m := 480 + 8 * k + 6) (ix6 hlt).2.2.1
                    have f6 := H7.out.mem.row.frozen (480 + 8 * k + 6)
                    have e6 := (ix6 hlt).1
                    have b6 := (ix6 hlt).2.1
                    have r6 := H7.out.cell (j := 13) rfl
                    have hgw2 := H7.out.mem.row.lt
                    have hBl2 := H7.out.blk.lt
                    obtain ⟨lo7, hi7⟩ := HF.out.owes
                    have H8 := Lib.hid (H7.out.put (m := 480 + 8 * k + 6) (v := x.owes + 1) (ix6 hlt).2.2.1 (big41 HF.out.owes))
                    go_upto_region 41 with fail
                    obtain ⟨w8, hw8⟩ : ∃ w8, Hid (w8 = w7.setCell ⟨w.heap.size, 480 + 8 * k + 6, none⟩ (.int .u64 (x.owes + 1))) := ⟨_, Lib.hid rfl⟩
                    rw [← hw8.out] at H8
                    rw [← hw8.out]
                    clear hw8 m6 f6 e6 b6 r6 hgw2 hBl2 H7
                    have r14 := H8.out.cell (j := 14) rfl
                    have r15 := H8.out.cell (j := 15) rfl
                    have r16 := H8.out.cell (j := 16) rfl
                    have r17 := H8.out.cell (j := 17) rfl
                    have r18 := H8.out.cell (j := 18) rfl
                    have r19 := H8.out.cell (j := 19) rfl
                    have e7 := (ix7 hlt).1
                    have b7 := (ix7 hlt).2.1
                    have hBl2 := H8.out.blk.lt
                    have HC := Lib.hid (fun W => refWord_any x.root W HF.out.root)
                    go_wp2_with ((with_reducible refine (HC.out _).mono ?_); rintro e w9 ⟨rfl, o9⟩; have H9 := Lib.hid (H8.out.only0 o9); have m7 := H9.out.mem.cell (m := 480 + 8 * k + 7) (ix7 hlt).2.2.1; have f7 := H9.out.mem.row.frozen (480 + 8 * k + 7); clear r14 r15 r16 r17 r18 r19; have hgw2 := H9.out.mem.row.lt)
                    go_meet
                    have e9 : threadL k x L1 = setL (setL (setL (setL (setL (setL L2 (ow k 2) (addU v2 (x.owing + 1))) (ow k 3) x.word) (ow k 4) x.badge) (ow k 5) (x.prio + 256 * (x.on + 1))) (ow k 6) (x.owes + 1)) (ow k 7) x.root.word := by
                      unfold threadL
                      rw [hL2.out, hv2.out]
                    rw [HK.out, e9]
                    exact H9.out.put (m := 480 + 8 * k + 7) (v := x.root.word) (ix7 hlt).2.2.1 (wordU64 HF.out.root)
              · as_aux_lemma =>
                    have HK : Hid (kindL k x L1 = setL (setL (L1) (ow k 1) (x.inn + 1)) (ow k 2) (x.page)) := Lib.hid (by unfold kindL; rw [hkd.out]; rfl)
                    have m1 := H1.mem.cell (m := 480 + 8 * k + 1) (ix1 hlt).2.2.1
                    have f1 := H1.mem.row.frozen (480 + 8 * k + 1)
                    have e1 : ((480 : Int) + 8 * (k : Int) + 1).toNat = 480 + 8 * k + 1 := (ix1 hlt).1
                    have b1 : (480 : Int) + 8 * (k : Int) + 1 < 738 := (ix1 hlt).2.1
                    have m2 := H1.mem.cell (m := 480 + 8 * k + 2) (ix2 hlt).2.2.1
                    have f2 := H1.mem.row.frozen (480 + 8 * k + 2)
                    have e2 : ((480 : Int) + 8 * (k : Int) + 2).toNat = 480 + 8 * k + 2 := (ix2 hlt).1
                    have b2 : (480 : Int) + 8 * (k : Int) + 2 < 738 := (ix2 hlt).2.1
                    have r1 := H1.cell (j := 28) rfl
                    obtain ⟨lo1, hi1⟩ := HF.out.inn
                    have r2 := H1.cell (j := 29) rfl
                    obtain ⟨lo2, hi2⟩ := HF.out.page
                    have HP := Lib.hid ((H1.put (m := 480 + 8 * k + 1) (v := x.inn + 1) (ix1 hlt).2.2.1 (big41 HF.out.inn)).put (m := 480 + 8 * k + 2) (v := x.page) (ix2 hlt).2.2.1 (big40 HF.out.page))
                    go_wp2_with fail
                    go_meet
                    rw [HK.out]
                    exact HP.out
              · as_aux_lemma =>
                    have HK : Hid (kindL k x L1 = spaceL k x L1 4) := Lib.hid (by unfold kindL; rw [hkd.out, if_neg (by decide), if_neg (by decide), if_neg (by decide), if_neg (by decide), if_neg (by decide), if_neg (by decide), if_pos rfl])
                    clear H1
                    go_wp2_with fail
                    go_loopw [11] (fun i W => ∃ p : Nat, p ≤ 4 ∧ i = .int .i64 p ∧ OAt w w.heap.size B A cp x (spaceL k x L1 p) W) (fun i _ => 4 - (intOf i).toNat)
                    case atStart => exact ⟨0, Nat.zero_le _, rfl, HH1.out⟩
                    case round =>
                      obtain ⟨wo, rfl⟩ : ∃ z, z = wr := ⟨_, rfl⟩
                      obtain ⟨n, hn4, rfl, hO⟩ := hrel
                      obtain ⟨Ln, hLn⟩ : ∃ Ln, Hid (spaceL k x L1 n = Ln) := ⟨_, Lib.hid rfl⟩
                      rw [hLn.out] at hO
                      by_cases hn : n < 4
                      · have HN := Lib.hid hn
                        have hpg := HF.out.pg n hn
                        have hrt := HF.out.rt n hn
                        obtain ⟨c20, c24⟩ := hO.pg hn
                        obtain ⟨pg, hp⟩ : ∃ pg, Hid (x.pg n = pg) := ⟨_, Lib.hid rfl⟩
                        obtain ⟨rt, hr⟩ : ∃ rt, Hid (x.rt n = rt) := ⟨_, Lib.hid rfl⟩
                        rw [hp.out] at hpg c20
                        rw [hr.out] at hrt c24
                        obtain ⟨x1, x2, x3, x4, x5, x6, x7, x8, x9⟩ := ixp hlt hn
                        have hBl2 := hO.blk.lt
                        have HO := Lib.hid hO
                        have HX := Lib.hid x3
                        by_cases h0 : 0 ≤ pg
                        · have hE : Hid (spaceL k x L1 (n + 1) = setL Ln (ow k (1 + n)) (8 * (pg + 1) + rt)) := Lib.hid (by
                            rw [show spaceL k x L1 (n + 1) = pageL k x (spaceL k x L1 n) n from rfl, pageL, hLn.out, hp.out, hr.out, if_pos h0])
                          obtain ⟨y1, y2, y3, y4⟩ := wrS hrt ⟨h0, hpg.2⟩
                          have HU := Lib.hid (big8 hrt hpg)
                          clear hO hn
                          go_upto_region 50 with fail
                          go_still_tail 18, (by kernel_rfl)
                          change wpList _ _ _ _ _ wo.drew
                          have H3 := Lib.hid (HO.out.only0 ((Only.refl [] wo).drewN 1))
                          obtain ⟨w3, hw3⟩ : ∃ w3, Hid (w3 = wo.drew) := ⟨_, Lib.hid rfl⟩
                          rw [show wo.drewN 1 = wo.drew from rfl, ← hw3.out] at H3
                          rw [← hw3.out]
                          clear c20 c24 hBl2 hw3 HO y1 y2 y3 y4 h0
                          have m3 := H3.out.mem.cell (m := 480 + 8 * k + (1 + n)) HX.out
                          have f3 := H3.out.mem.row.frozen (480 + 8 * k + (1 + n))
                          have hgw2 := H3.out.mem.row.lt
                          go_wp2_with fail
                          go_roundw
                          case rel => exact ⟨n + 1, HN.out, by go_num, by rw [hE.out]; exact H3.out.put (m := 480 + 8 * k + (1 + n)) HX.out HU.out⟩
                          case measure => have := HN.out; simp [intOf]; omega
                        · have hE : Hid (spaceL k x L1 (n + 1) = Ln) := Lib.hid (by
                            rw [show spaceL k x L1 (n + 1) = pageL k x (spaceL k x L1 n) n from rfl, pageL, hLn.out, hp.out, if_neg h0])
                          have h0' : pg < 0 := Int.not_le.1 h0
                          clear hO hn h0
                          go_wp2_with fail
                          go_roundw
                          case rel => exact ⟨n + 1, HN.out, by go_num, by rw [hE.out]; exact HO.out⟩
                          case measure => have := HN.out; simp [intOf]; omega
                      · obtain rfl : n = 4 := Nat.le_antisymm hn4 (Nat.not_lt.1 hn)
                        have HO := Lib.hid hO
                        clear hO hn
                        go_wp2_with fail
                        go_meet
                        rw [HK.out, hLn.out]
                        exact HO.out
              · as_aux_lemma =>
                    have HK : Hid (kindL k x L1 = setL (setL (setL (L1) (ow k 1) (x.bound + 1)) (ow k 2) (x.badge)) (ow k 3) (x.mask)) := Lib.hid (by unfold kindL; rw [hkd.out]; rfl)
                    have m1 := H1.mem.cell (m := 480 + 8 * k + 1) (ix1 hlt).2.2.1
                    have f1 := H1.mem.row.frozen (480 + 8 * k + 1)
                    have e1 : ((480 : Int) + 8 * (k : Int) + 1).toNat = 480 + 8 * k + 1 := (ix1 hlt).1
                    have b1 : (480 : Int) + 8 * (k : Int) + 1 < 738 := (ix1 hlt).2.1
                    have m2 := H1.mem.cell (m := 480 + 8 * k + 2) (ix2 hlt).2.2.1
                    have f2 := H1.mem.row.frozen (480 + 8 * k + 2)
                    have e2 : ((480 : Int) + 8 * (k : Int) + 2).toNat = 480 + 8 * k + 2 := (ix2 hlt).1
                    have b2 : (480 : Int) + 8 * (k : Int) + 2 < 738 := (ix2 hlt).2.1
                    have m3 := H1.mem.cell (m := 480 + 8 * k + 3) (ix3 hlt).2.2.1
                    have f3 := H1.mem.row.frozen (480 + 8 * k + 3)
                    have e3 : ((480 : Int) + 8 * (k : Int) + 3).toNat = 480 + 8 * k + 3 := (ix3 hlt).1
                    have b3 : (480 : Int) + 8 * (k : Int) + 3 < 738 := (ix3 hlt).2.1
                    have r1 := H1.cell (j := 30) rfl
                    obtain ⟨lo1, hi1⟩ := HF.out.bound
                    have r2 := H1.cell (j := 10) rfl
                    obtain ⟨lo2, hi2⟩ := HF.out.badge
                    have r3 := H1.cell (j := 31) rfl
                    obtain ⟨lo3, hi3⟩ := HF.out.mask
                    have HP := Lib.hid (((H1.put (m := 480 + 8 * k + 1) (v := x.bound + 1) (ix1 hlt).2.2.1 (big41 HF.out.bound)).put (m := 480 + 8 * k + 2) (v := x.badge) (ix2 hlt).2.2.1 (big40 HF.out.badge)).put (m := 480 + 8 * k + 3) (v := x.mask) (ix3 hlt).2.2.1 (big40 HF.out.mask))
                    go_wp2_with fail
                    go_meet
                    rw [HK.out]
                    exact HP.out
              · as_aux_lemma =>
                    have HK : Hid (kindL k x L1 = L1) := Lib.hid (by unfold kindL; rw [hkd.out, if_neg n1, if_neg n2, if_neg n3, if_neg n4, if_neg n5, if_neg n6, if_neg n7, if_neg n8])
                    have q1 : (kd == 1) = false := by simp [n1]
                    have q2 : (kd == 2) = false := by simp [n2]
                    have q3 : (kd == 3) = false := by simp [n3]
                    have q4 : (kd == 4) = false := by simp [n4]
                    have q5 : (kd == 5) = false := by simp [n5]
                    have q6 : (kd == 6) = false := by simp [n6]
                    have q7 : (kd == 7) = false := by simp [n7]
                    have q8 : (kd == 8) = false := by simp [n8]
                    clear n1 n2 n3 n4 n5 n6 n7 n8
                    go_wp2_with fail
                    go_meet
                    rw [HK.out]
                    exact HH1.out
            case rest =>
              as_aux_lemma =>
                obtain ⟨LK, hLK⟩ : ∃ LK, Hid (kindL k x L1 = LK) := ⟨_, Lib.hid rfl⟩
                rw [hLK.out] at hcut
                have HC := Lib.hid hcut
                clear hcut H1 HH1 e0 b0 kl kh hgw hBl
                obtain ⟨q, hq⟩ : ∃ q, Hid (x.queue = q) := ⟨_, Lib.hid rfl⟩
                have hqin := HF.out.qin
                have hql := HF.out.qlen
                rw [hq.out] at hqin hql
                have HQ := Lib.hid hqin
                clear hqin
                go_wp2_with fail
                go_loopw [12, 13] (fun i _ W => ∃ m : Nat, m ≤ q.length ∧ i = .int .i64 m ∧ OAt w w.heap.size B A cp x (queueL k q LK m) W) (fun i _ _ => q.length - (intOf i).toNat)
                case atStart => exact ⟨0, Nat.zero_le _, rfl, HC.out⟩
                case round =>
                  clear HC
                  obtain ⟨wo, rfl⟩ : ∃ z, z = wr := ⟨_, rfl⟩
                  obtain ⟨m, hm, rfl, hO⟩ := hrel
                  obtain ⟨Lm, hLm⟩ : ∃ Lm, Hid (queueL k q LK m = Lm) := ⟨_, Lib.hid rfl⟩
                  rw [hLm.out] at hO
                  have c6 := hO.cell (j := 6) rfl
                  rw [hq.out] at c6
                  have HO := Lib.hid hO
                  by_cases hlt2 : m < q.length
                  · obtain ⟨t, ht⟩ : ∃ t, q[m]? = some t := ⟨_, List.getElem?_eq_getElem hlt2⟩
                    obtain ⟨y, rfl, hy⟩ := nat_of (HQ.out t (List.mem_of_getElem? ht))
                    have hrow := hO.row
                    rw [hq.out] at hrow
                    obtain ⟨gk, rfl, hgk, cy⟩ := rowN_cell hrow ht
                    have hBl2 := hO.blk.lt
                    have HT := Lib.hid ht
                    have HN := Lib.hid hlt2
                    have hmI : (m : Int) < (q.length : Int) := Int.ofNat_lt.2 hlt2
                    clear ht hrow hO hlt2
                    go_upto_if 315 with fail
                    go_cut [] (fun W => OAt w w.heap.size B (some ⟨gk, 0, none⟩) cp x (qw1 k q m Lm) W)
                    case first =>
                      by_cases hm0 : m = 0
                      · subst hm0
                        have hE : Hid (qw1 k q 0 Lm = setL Lm (ow k 2) ((y : Int) + 1)) := Lib.hid (by unfold qw1; rw [if_pos rfl, get_d HT.out])
                        have m2 := HO.out.mem.cell (m := 480 + 8 * k + 2) (ix2 hlt).2.2.1
                        have f2 := HO.out.mem.row.frozen (480 + 8 * k + 2)
                        have e2 := (ix2 hlt).1
                        have b2 := (ix2 hlt).2.1
                        have hgw2 := HO.out.mem.row.lt
                        go_wp2_with fail
                        go_meet
                        rw [hE.out]
                        exact HO.out.put (m := 480 + 8 * k + 2) (ix2 hlt).2.2.1 (ixt hy).2.2.2.2
                      · have hE : Hid (qw1 k q m Lm = Lm) := Lib.hid (by unfold qw1; rw [if_neg hm0])
                        have hmB := eq_no hm0
                        clear hm0
                        go_wp2_with fail
                        go_meet
                        rw [hE.out]
                        exact HO.out
                    case rest =>
                      have HC2 := Lib.hid hcut
                      have c6 := hcut.cell (j := 6) rfl
                      rw [hq.out] at c6
                      have hrow := hcut.row
                      rw [hq.out] at hrow
                      have hBl3 := hcut.blk.lt
                      have hgw3 := hcut.mem.row.lt
                      clear hcut HO cy hBl2 hgk
                      by_cases h2 : m + 1 < q.length
                      · obtain ⟨t', ht'⟩ : ∃ t', q[m + 1]? = some t' := ⟨_, List.getElem?_eq_getElem h2⟩
                        obtain ⟨u, rfl, hu⟩ := nat_of (HQ.out t' (List.mem_of_getElem? ht'))
                        obtain ⟨gk', e9, hgk', cu⟩ := rowN_cell hrow ht'
                        injection e9 with e9
                        injection e9 with e9 _ _
                        subst e9
                        have hE : Hid (qw2 k q m (qw1 k q m Lm) = setL (qw1 k q m Lm) ((480 + 8 * y + 2 : Nat) : Int) ((u : Int) + 1)) := Lib.hid (by unfold qw2; rw [if_pos h2, get_d HT.out, get_d ht', cast_y])
                        obtain ⟨t1, t2, t3⟩ := ixm h2 hql
                        have mt := HC2.out.mem.cell (m := 480 + 8 * y + 2) (ixt hy).2.2.1
                        have ft := HC2.out.mem.row.frozen (480 + 8 * y + 2)
                        have et := (ixt hy).1
                        have bt := (ixt hy).2.1
                        clear hrow ht' h2
                        go_wp2_with fail
                        go_roundw
                        case rel => exact ⟨m + 1, HN.out, by go_num, by rw [queueL_two, hLm.out, hE.out]; exact HC2.out.put (m := 480 + 8 * y + 2) (ixt hy).2.2.1 (ixt hu).2.2.2.2⟩
                        case measure => have := HN.out; simp [intOf]; omega
                      · have hE : Hid (qw2 k q m (qw1 k q m Lm) = setL (qw1 k q m Lm) (ow k 3) ((y : Int) + 1)) := Lib.hid (by unfold qw2; rw [if_neg h2, get_d HT.out])
                        have h2I := next_no h2
                        have m3 := HC2.out.mem.cell (m := 480 + 8 * k + 3) (ix3 hlt).2.2.1
                        have f3 := HC2.out.mem.row.frozen (480 + 8 * k + 3)
                        have e3 := (ix3 hlt).1
                        have b3 := (ix3 hlt).2.1
                        clear hrow h2
                        go_wp2_with fail
                        go_roundw
                        case rel => exact ⟨m + 1, HN.out, by go_num, by rw [queueL_two, hLm.out, hE.out]; exact HC2.out.put (m := 480 + 8 * k + 3) (ix3 hlt).2.2.1 (ixt hy).2.2.2.2⟩
                        case measure => have := HN.out; simp [intOf]; omega
                  · obtain rfl : m = q.length := Nat.le_antisymm hm (Nat.not_lt.1 hlt2)
                    clear hO hlt2
                    have happ : Hid (objsL S LS (k + 1) = Lm) := Lib.hid (by
                      rw [show objsL S LS (k + 1) = objL S (objsL S LS k) k from rfl, hLk.out]
                      unfold objL
                      rw [hx.out, hkd.out, hL1.out, hLK.out, hq.out, hLm.out])
                    go_wp2_with fail
                    go_roundw
                    case rel => exact ⟨k + 1, hlt, by go_num, by rw [happ.out]; exact HO.out.mem, HO.out.only⟩
                    case measure => have := hlt; simp [intOf]; omega
        · obtain rfl : k = 32 := by omega
          have hr := h.only0 ho
          obtain ⟨⟨cs, co, hh⟩, -, -⟩ := hr
          have c2 : wr.cell? ⟨p, 2, none⟩ = some (.int .i64 S.ns) := hh.cell 2
          have c3 : wr.cell? ⟨p, 3, none⟩ = some (.int .i64 S.no) := hh.cell 3
          have hpw : p ≠ w.heap.size := fun e => by have := h.ltP; omega
          have hpz := hh.lt
          obtain ⟨n0, n1⟩ := hF.ns
          obtain ⟨m0, m1⟩ := hF.no
          have c6 := hm.cell (m := 736) (by omega)
          have c7 := hm.cell (m := 737) (by omega)
          have f6 := hm.row.frozen 736
          have f7 := hm.row.frozen 737
          have hP := (hm.put (m := 736) (x := S.ns) (by omega) ⟨n0, n1⟩).put (m := 737) (x := S.no) (by omega) ⟨m0, m1⟩
          have oP := (ho.setCell (p := ⟨w.heap.size, 736, none⟩) (.inr (Nat.le_refl _)) (.int .u64 S.ns)).setCell (p := ⟨w.heap.size, 737, none⟩) (.inr (Nat.le_refl _)) (.int .u64 S.no)
          have HP := Lib.hid (And.intro hP oP)
          rw [show ((32 : Nat) : Int) = 32 from rfl]
          clear hm ho hP oP hh hlt
          go_wp2_with fail
          go_ret
          exact ⟨rfl, by unfold wordsG; rw [hLS.out]; exact HP.out.1, HP.out.2⟩
end
end Go.Proofs.Ytihipcbhfjpgbaa
