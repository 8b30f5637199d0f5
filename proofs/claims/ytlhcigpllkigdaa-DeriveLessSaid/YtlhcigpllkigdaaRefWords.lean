/- Words of the document's state (layers 9 and 10: no object is anything): all words. -/
import Derived.Test.YtlhcigpllkigdaaRefRow
import Derived.Test.YtlhcigpllkigdaaJ7
import Derived.Deep.MidRow
namespace Go.Proofs.Ytlhcigpllkigdaa
open Go.RowKit
/-- what words can tell -/
structure RSt.Fit (S : RSt) : Prop where
  cap : ∀ i, InS i → (S.cap i).Small
  par : ∀ i, InS i → -1 ≤ S.par i ∧ S.par i < 96
  kids : ∀ i, InS i → ∀ x, x ∈ S.kids i → InS x
  ns : U64 S.ns
  no : U64 S.no
/-- what an object that isn't anything puts -/
def objW0 (i : Nat) : List (Int × Int) := [(480 + 8 * (i : Int), 0)]
theorem gd {l : List Int} {i : Nat} {x : Int} (h : l[i]? = some x) : l.getD i 0 = x := by rw [List.getD_eq_getElem?_getD, h]; rfl
theorem wordU64 {c : Cp} (h : c.Small) : U64 c.word := by
  have := Cp.word_lt h
  obtain ⟨h1, h2, h3, h4, h5, h6, h7, h8, h9, h10, h11, h12⟩ := h
  unfold Cp.word at this ⊢
  exact ⟨by omega, by omega⟩
section
variable {w : World} {p gs go : Nat} {S : RSt}
theorem RefAt.cSlot (h : RefM w p gs go S) {i : Nat} (hi : i < 96) : ∃ A cp, RowN w A ItT irow' 1 (S.kids i) ∧ ∀ (j : Nat) (v : Value), (slotRow (S.cap i) (S.par i) (.slice A (S.kids i).length cp))[j]? = some v → w.cell? ⟨gs, i * 8 + j, none⟩ = some v := by
  obtain ⟨-, ⟨cur, h2, h3⟩, -⟩ := h
  obtain ⟨kv, q1, A, cp, rfl, q2⟩ := h3 i hi
  exact ⟨A, cp, q2, fun j v hv => by rw [h2.cell]; exact q1 j v hv⟩
set_option maxRecDepth 100000 in
set_option maxHeartbeats 4000000 in
theorem rwords_any (h : RefM w p gs go S) (hF : S.Fit) (hs : S.Short) (hO : ∀ i, S.ob i = RObj.fresh 0) :
    Calls Try.prog 6 #[.pointer (some ⟨p, 0, none⟩)] w fun e w' => ∃ L, e = .returned (.slice (some ⟨w.heap.size, 0, none⟩) 738 738) ∧ MemP w.heap.size 738 UT w' L ∧ L = setL (setL (applyW ((List.range 32).flatMap objW0) (applyW ((List.range 96).flatMap (slotW S)) zeros)) 736 S.ns) 737 S.no ∧ Only [] w w' := by
  have hmk := Lib.hid fun W : World => run_makeN (P := Try.prog) (t := 24) (f := u64row) 0 infoU64 Try.underlying24 (fun _ => rfl) (by omega) rfl .i64 .i64 738 738 (by omega) (by omega) (by omega) (by omega) W
  have hb := Blk.new w UT (flat u64row (List.replicate 738 0))
  go_enter Try.func6, Try.ntmps6
  go_wp2
  rw [hmk.out]
  go_wp2_with fail
  go_loopw [4] (fun i wr => ∃ k : Nat, k ≤ 96 ∧ i = .int .i64 k ∧ MemP w.heap.size 738 UT wr (applyW ((List.range k).flatMap (slotW S)) zeros) ∧ Only [] w wr) (fun i _ => 96 - (intOf i).toNat)
  case atStart => exact ⟨0, by omega, rfl, ⟨zeros_len, rowU_flat hb, zeros_us⟩, (Only.refl _ _).alloc _⟩
  case round =>
    clear hb hmk
    obtain ⟨k, hk, rfl, hm, ho⟩ := hrel
    by_cases hlt : k < 96
    · as_aux_lemma =>
        have hr := h.only0 ho
        obtain ⟨cs, c0⟩ := hr.cSlots
        obtain ⟨A, cp, hR, hrow⟩ := hr.cSlot hlt
        have r0 := hrow 0 _ rfl
        have r1 := hrow 1 _ rfl
        have r2 := hrow 2 _ rfl
        have r3 := hrow 3 _ rfl
        have r4 := hrow 4 _ rfl
        have r5 := hrow 5 _ rfl
        have r6 := hrow 6 _ rfl
        have r7 := hrow 7 _ rfl
        rw [Nat.add_zero] at r0
        have hpz := hr.ltP
        have hgz := hr.ltS
        have hkI : (k : Int) < 96 := by omega
        have hin : InS (k : Int) := ⟨by omega, hkI⟩
        have hgw := hm.row.lt
        have cW := fun W => refWord_any (S.cap k) W (hF.cap k hin)
        have HC := Lib.hid cW
        have hB := Blk.new wr SlT #[.int .i64 (S.cap k).kind, .int .i64 (S.cap k).rights, .int .i64 (S.cap k).obj, .int .i64 (S.cap k).badge, .int .i64 (S.cap k).guard, .int .i64 (S.cap k).bits, .int .i64 (S.par k), .slice A (S.kids k).length cp]
        have oB : Only [] wr (wr.alloc (.cells #[.int .i64 (S.cap k).kind, .int .i64 (S.cap k).rights, .int .i64 (S.cap k).obj, .int .i64 (S.cap k).badge, .int .i64 (S.cap k).guard, .int .i64 (S.cap k).bits, .int .i64 (S.par k), .slice A (S.kids k).length cp] SlT)) := (Only.refl _ _).alloc _
        have HB := Lib.hid (And.intro hB (And.intro oB (And.intro hm (And.intro ho hR))))
        clear hr hR hrow hB oB hm ho cW
        go_upto_region 6 with fail
        generalize (wr.alloc (.cells #[.int .i64 (S.cap k).kind, .int .i64 (S.cap k).rights, .int .i64 (S.cap k).obj, .int .i64 (S.cap k).badge, .int .i64 (S.cap k).guard, .int .i64 (S.cap k).bits, .int .i64 (S.par k), .slice A (S.kids k).length cp] SlT)) = wB at HB ⊢
        clear r0 r1 r2 r3 r4 r5 r6 r7 c0 hpz
        obtain ⟨hB, oB, hm, ho, hR⟩ := HB.out
        obtain ⟨L0, hL0⟩ : ∃ L0, Hid (applyW ((List.range k).flatMap (slotW S)) zeros = L0) := ⟨_, Lib.hid rfl⟩
        rw [hL0.out] at hm
        obtain ⟨l, hl⟩ : ∃ l, Hid (S.kids k = l) := ⟨_, Lib.hid rfl⟩
        rw [hl.out] at hB hR
        obtain ⟨pk, hpk⟩ : ∃ pk, Hid (S.par k = pk) := ⟨_, Lib.hid rfl⟩
        have hpr := hF.par k hin
        rw [hpk.out] at hpr hB
        have q0 := hB.cell 0
        have q1 := hB.cell 1
        have q2 := hB.cell 2
        have q3 := hB.cell 3
        have q4 := hB.cell 4
        have q5 := hB.cell 5
        simp only [List.getElem?_toArray, List.getElem?_cons_zero, List.getElem?_cons_succ] at q0 q1 q2 q3 q4 q5
        have hne : wr.heap.size ≠ w.heap.size := by omega
        have e5 : ((5 : Int) * (k : Int)).toNat = 5 * k := by omega
        have e51 : ((5 : Int) * (k : Int) + 1).toNat = 5 * k + 1 := by omega
        have b5 : (5 : Int) * (k : Int) < 738 := by omega
        have b51 : (5 : Int) * (k : Int) + 1 < 738 := by omega
        have hmB := hm.only oB (by simp)
        have hRB := hR.only oB (fun _ _ _ => by simp)
        have hoB := ho.trans oB
        have HM := Lib.hid (And.intro hmB (And.intro hRB (And.intro hoB hB)))
        clear hB oB hm ho hR HB hmB hRB hoB
        go_wp2_with fail
        (with_reducible refine (HC.out _).mono ?_)
        rintro e w6 ⟨rfl, o6⟩
        have hm6 := HM.out.1.only o6 (by simp)
        have hB6 := o6.blk HM.out.2.2.2 (by simp)
        have c6 := hm6.cell (m := 5 * k) (by omega)
        have c61 := hm6.cell (m := 5 * k + 1) (by omega)
        have f6 := hm6.row.frozen (5 * k)
        have f61 := hm6.row.frozen (5 * k + 1)
        have qp := hB6.cell 6
        simp only [List.getElem?_toArray, List.getElem?_cons_zero, List.getElem?_cons_succ] at qp
        have hc9 := hF.cap k hin
        have hm7 := (hm6.put (m := 5 * k) (by omega) (wordU64 hc9)).put (m := 5 * k + 1) (x := pk + 1) (by omega) ⟨by omega, by omega⟩
        have o7 := ((HM.out.2.2.1.trans o6).setCell (p := ⟨w.heap.size, 5 * k, none⟩) (.inr (Nat.le_refl _)) (.int .u64 (S.cap k).word)).setCell (p := ⟨w.heap.size, 5 * k + 1, none⟩) (.inr (Nat.le_refl _)) (.int .u64 (pk + 1))
        have s7 : Only [w.heap.size] w6 ((w6.setCell ⟨w.heap.size, 5 * k, none⟩ (.int .u64 (S.cap k).word)).setCell ⟨w.heap.size, 5 * k + 1, none⟩ (.int .u64 (pk + 1))) := (((Only.refl _ w6).setCell (p := ⟨w.heap.size, 5 * k, none⟩) (.inl (by simp)) (.int .u64 (S.cap k).word))).setCell (p := ⟨w.heap.size, 5 * k + 1, none⟩) (.inl (by simp)) (.int .u64 (pk + 1))
        have hB7 := s7.blk hB6 (by simpa using hne)
        have hR7 := (HM.out.2.1.only o6 (fun _ _ _ => by simp)).only s7 (fun x cur hx hx2 => by
          simp at hx2
          subst hx2
          obtain ⟨cur9, hb9, -⟩ := hm6.row
          exact absurd (hx.uniq hb9).1 (by decide))
        have H7 := Lib.hid (And.intro hm7 (And.intro o7 (And.intro hB7 hR7)))
        clear HM hm6 hB6 hm7 o7 s7 hB7 hR7 q0 q1 q2 q3 q4 q5 o6
        go_wp2_with fail
        obtain ⟨B, hBB⟩ : ∃ B, wr.heap.size = B := ⟨_, rfl⟩
        rw [hBB] at H7 hne hgw ⊢
        generalize (w6.setCell ⟨w.heap.size, 5 * k, none⟩ (.int .u64 (S.cap k).word)).setCell ⟨w.heap.size, 5 * k + 1, none⟩ (.int .u64 (pk + 1)) = w7 at H7 ⊢
        obtain ⟨L1, hL1⟩ : ∃ L1, Hid (setL (setL L0 ((5 * k : Nat) : Int) (S.cap k).word) ((5 * k + 1 : Nat) : Int) (pk + 1) = L1) := ⟨_, Lib.hid rfl⟩
        rw [hL1.out] at H7
        have hls : l.length ≤ 500 := by rw [← hl.out]; exact hs k
        have hlin : ∀ x, x ∈ l → InS x := by rw [← hl.out]; exact hF.kids k hin
        clear c6 c61 f6 f61 qp hBB
        obtain ⟨wo, hwo⟩ : ∃ x, x = wr := ⟨_, rfl⟩
        clear hwo wo
        go_loopw [6, 7] (fun i _ wq => ∃ m : Nat, m ≤ l.length ∧ i = .int .i64 m ∧ MemP w.heap.size 738 UT wq (applyW ((List.range m).flatMap (kidW k l)) L1) ∧ Only [] w wq ∧ Blk wq B SlT #[.int .i64 (S.cap k).kind, .int .i64 (S.cap k).rights, .int .i64 (S.cap k).obj, .int .i64 (S.cap k).badge, .int .i64 (S.cap k).guard, .int .i64 (S.cap k).bits, .int .i64 pk, .slice A l.length cp] ∧ RowN wq A ItT irow' 1 l) (fun i _ _ => l.length - (intOf i).toNat)
        case atStart => exact ⟨0, by omega, rfl, H7.out.1, H7.out.2.1, H7.out.2.2.1, H7.out.2.2.2⟩
        case round =>
          clear H7
          obtain ⟨m, hm', rfl, hmem, ho, hB, hR⟩ := hrel
          obtain ⟨Lm, HLm⟩ : ∃ Lm, Hid (Lm = applyW ((List.range m).flatMap (kidW k l)) L1) := ⟨_, Lib.hid rfl⟩
          rw [← HLm.out] at hmem
          have qK := hB.cell 7
          simp only [List.getElem?_toArray, List.getElem?_cons_zero, List.getElem?_cons_succ] at qK
          have hBl := hB.lt
          by_cases hlt2 : m < l.length
          · obtain ⟨x, hx⟩ : ∃ x, l[m]? = some x := ⟨_, List.getElem?_eq_getElem hlt2⟩
            have hxin := hlin x (List.mem_of_getElem? hx)
            obtain ⟨y, rfl⟩ : ∃ y : Nat, x = y := ⟨x.toNat, by have := hxin.1; omega⟩
            have hy : y < 96 := by have := hxin.2; omega
            have hFR : ∀ x cur, Blk wr x ItT cur → x ∉ [w.heap.size] := fun x cur hx hx2 => by
              simp at hx2
              subst hx2
              obtain ⟨cur9, hb9, -⟩ := hmem.row
              exact absurd (hx.uniq hb9).1 (by decide)
            obtain ⟨gk, rfl, hgk, cx⟩ := rowN_cell hR hx
            have hgg : gk ≠ w.heap.size := fun e => by
              obtain ⟨g', cur', e9, hb9, -⟩ := hR m _ hx
              injection e9 with e9
              injection e9 with e9 _ _
              subst e9
              exact hFR gk cur' hb9 (by simp [e])
            have hmI : (m : Int) < (l.length : Int) := by omega
            have d1 : ((5 : Int) * (y : Int) + 4).toNat = 5 * y + 4 := by omega
            have d2 : ((5 : Int) * (y : Int) + 3).toNat = 5 * y + 3 := by omega
            have d3 : ((5 : Int) * (k : Int) + 2).toNat = 5 * k + 2 := by omega
            have b1 : (5 : Int) * (y : Int) + 4 < 738 := by omega
            have b2 : (5 : Int) * (y : Int) + 3 < 738 := by omega
            have b3 : (5 : Int) * (k : Int) + 2 < 738 := by omega
            have x1 := hmem.cell (m := 5 * y + 4) (by omega)
            have x2 := hmem.cell (m := 5 * y + 3) (by omega)
            have x3 := hmem.cell (m := 5 * k + 2) (by omega)
            have g1 := hmem.row.frozen (5 * y + 4)
            have g2 := hmem.row.frozen (5 * y + 3)
            have g3 := hmem.row.frozen (5 * k + 2)
            have HX : Hid (l[m]? = some (y : Int)) := Lib.hid hx
            have hnext : m + 1 < l.length ∨ ¬ m + 1 < l.length := by omega
            by_cases hm0 : m = 0
            · subst hm0
              rcases hnext with h2 | h2
              · obtain ⟨x', hx'⟩ : ∃ x', l[0 + 1]? = some x' := ⟨_, List.getElem?_eq_getElem h2⟩
                have hxin' := hlin x' (List.mem_of_getElem? hx')
                obtain ⟨u, rfl⟩ : ∃ u : Nat, x' = u := ⟨x'.toNat, by have := hxin'.1; omega⟩
                have hu : u < 96 := by have := hxin'.2; omega
                obtain ⟨gk', e9, -, cu⟩ := rowN_cell hR hx'
                injection e9 with e9
                injection e9 with e9 _ _
                subst e9
                have HU : Hid (l[0 + 1]? = some (u : Int)) := Lib.hid hx'
                have h2I : (1 : Int) < (l.length : Int) := by omega
                clear hx hx' hxin hxin' hlin
                have hkw : Hid (kidW k l 0 = [((((5 * k + 2) : Nat) : Int), ((y : Int) + 1)), (((5 * y + 3 : Nat) : Int), (u : Int) + 1)]) := Lib.hid (by unfold kidW; rw [if_pos rfl, if_pos h2, gd HX.out, gd HU.out]; simp)
                have hP := (hmem.put (m := (5 * k + 2)) (x := ((y : Int) + 1)) (by omega) ⟨by omega, by omega⟩).put (m := 5 * y + 3) (x := (u : Int) + 1) (by omega) ⟨by omega, by omega⟩
                have oP := ((Only.refl [w.heap.size] wr).setCell (p := ⟨w.heap.size, (5 * k + 2), none⟩) (.inl (by simp)) (.int .u64 ((y : Int) + 1))).setCell (p := ⟨w.heap.size, 5 * y + 3, none⟩) (.inl (by simp)) (.int .u64 ((u : Int) + 1))
                have HP := Lib.hid (And.intro hP (And.intro (ho.then oP (fun x hx => .inr (by simp at hx; omega))) (And.intro (oP.blk hB (by simpa using hne)) (hR.only oP hFR))))
                clear hP oP hmem ho hB hR hFR
                go_wp2_with fail
                go_roundw
                case rel =>
                  refine ⟨0 + 1, by omega, by go_num, ?_, HP.out.2.1, HP.out.2.2.1, HP.out.2.2.2⟩
                  rw [applyW_step, hkw.out, ← HLm.out]
                  exact HP.out.1
                case measure => simp [intOf]; omega
              · have h2I : ¬ (1 : Int) < (l.length : Int) := by omega
                clear hx hxin hlin
                have hkw : Hid (kidW k l 0 = [((((5 * k + 2) : Nat) : Int), ((y : Int) + 1))]) := Lib.hid (by simp [kidW, HX.out, h2])
                have hP := hmem.put (m := (5 * k + 2)) (x := ((y : Int) + 1)) (by omega) ⟨by omega, by omega⟩
                have oP := (Only.refl [w.heap.size] wr).setCell (p := ⟨w.heap.size, (5 * k + 2), none⟩) (.inl (by simp)) (.int .u64 ((y : Int) + 1))
                have HP := Lib.hid (And.intro hP (And.intro (ho.then oP (fun x hx => .inr (by simp at hx; omega))) (And.intro (oP.blk hB (by simpa using hne)) (hR.only oP hFR))))
                clear hP oP hmem ho hB hR hFR
                go_wp2_with fail
                go_roundw
                case rel =>
                  refine ⟨0 + 1, by omega, by go_num, ?_, HP.out.2.1, HP.out.2.2.1, HP.out.2.2.2⟩
                  rw [applyW_step, hkw.out, ← HLm.out]
                  exact HP.out.1
                case measure => simp [intOf]; omega
            · obtain ⟨x'', hx''⟩ : ∃ x'', l[m - 1]? = some x'' := ⟨_, List.getElem?_eq_getElem (by omega)⟩
              have hxin'' := hlin x'' (List.mem_of_getElem? hx'')
              obtain ⟨z, rfl⟩ : ∃ z : Nat, x'' = z := ⟨x''.toNat, by have := hxin''.1; omega⟩
              have hz : z < 96 := by have := hxin''.2; omega
              obtain ⟨gk'', e8, -, cz⟩ := rowN_cell hR hx''
              injection e8 with e8
              injection e8 with e8 _ _
              subst e8
              have HZ : Hid (l[m - 1]? = some (z : Int)) := Lib.hid hx''
              have hmB : ((m : Int) == 0) = false := by simp; omega
              have t1 : ((m : Int) - 1).toNat = m - 1 := by omega
              have t2 : (0 : Int) ≤ (m : Int) - 1 := by omega
              have t3 : (m : Int) - 1 < (l.length : Int) := by omega
              rcases hnext with h2 | h2
              · obtain ⟨x', hx'⟩ : ∃ x', l[m + 1]? = some x' := ⟨_, List.getElem?_eq_getElem h2⟩
                have hxin' := hlin x' (List.mem_of_getElem? hx')
                obtain ⟨u, rfl⟩ : ∃ u : Nat, x' = u := ⟨x'.toNat, by have := hxin'.1; omega⟩
                have hu : u < 96 := by have := hxin'.2; omega
                obtain ⟨gk', e9, -, cu⟩ := rowN_cell hR hx'
                injection e9 with e9
                injection e9 with e9 _ _
                subst e9
                have HU : Hid (l[m + 1]? = some (u : Int)) := Lib.hid hx'
                have h2I : (m : Int) + 1 < (l.length : Int) := by omega
                have t4 : ((m : Int) + 1).toNat = m + 1 := by omega
                clear hx hx' hx'' hxin hxin' hxin'' hlin
                have hkw : Hid (kidW k l m = [((((5 * y + 4) : Nat) : Int), ((z : Int) + 1)), (((5 * y + 3 : Nat) : Int), (u : Int) + 1)]) := Lib.hid (by unfold kidW; rw [if_neg hm0, if_pos h2, gd HX.out, gd HZ.out, gd HU.out]; simp)
                have hP := (hmem.put (m := (5 * y + 4)) (x := ((z : Int) + 1)) (by omega) ⟨by omega, by omega⟩).put (m := 5 * y + 3) (x := (u : Int) + 1) (by omega) ⟨by omega, by omega⟩
                have oP := ((Only.refl [w.heap.size] wr).setCell (p := ⟨w.heap.size, (5 * y + 4), none⟩) (.inl (by simp)) (.int .u64 ((z : Int) + 1))).setCell (p := ⟨w.heap.size, 5 * y + 3, none⟩) (.inl (by simp)) (.int .u64 ((u : Int) + 1))
                have HP := Lib.hid (And.intro hP (And.intro (ho.then oP (fun x hx => .inr (by simp at hx; omega))) (And.intro (oP.blk hB (by simpa using hne)) (hR.only oP hFR))))
                clear hP oP hmem ho hB hR hFR
                go_wp2_with fail
                go_roundw
                case rel =>
                  refine ⟨m + 1, by omega, by go_num, ?_, HP.out.2.1, HP.out.2.2.1, HP.out.2.2.2⟩
                  rw [applyW_step, hkw.out, ← HLm.out]
                  exact HP.out.1
                case measure => simp [intOf]; omega
              · have h2I : ¬ (m : Int) + 1 < (l.length : Int) := by omega
                clear hx hx'' hxin hxin'' hlin
                have hkw : Hid (kidW k l m = [((((5 * y + 4) : Nat) : Int), ((z : Int) + 1))]) := Lib.hid (by simp [kidW, HX.out, HZ.out, hm0, h2])
                have hP := hmem.put (m := (5 * y + 4)) (x := ((z : Int) + 1)) (by omega) ⟨by omega, by omega⟩
                have oP := (Only.refl [w.heap.size] wr).setCell (p := ⟨w.heap.size, (5 * y + 4), none⟩) (.inl (by simp)) (.int .u64 ((z : Int) + 1))
                have HP := Lib.hid (And.intro hP (And.intro (ho.then oP (fun x hx => .inr (by simp at hx; omega))) (And.intro (oP.blk hB (by simpa using hne)) (hR.only oP hFR))))
                clear hP oP hmem ho hB hR hFR
                go_wp2_with fail
                go_roundw
                case rel =>
                  refine ⟨m + 1, by omega, by go_num, ?_, HP.out.2.1, HP.out.2.2.1, HP.out.2.2.2⟩
                  rw [applyW_step, hkw.out, ← HLm.out]
                  exact HP.out.1
                case measure => simp [intOf]; omega
          · obtain rfl : m = l.length := by omega
            have happ : Hid (applyW ((List.range (k + 1)).flatMap (slotW S)) zeros = Lm) := Lib.hid (by
              rw [applyW_step, hL0.out, applyW_slot, hl.out, hpk.out, HLm.out, ← hL1.out]
              rw [Int.natCast_add, Int.natCast_mul]
              rfl)
            have HM2 := Lib.hid (And.intro hmem ho)
            clear hmem ho hR hlin hlt2
            go_wp2_with fail
            go_roundw
            case rel =>
              refine ⟨k + 1, by omega, by go_num, ?_, HM2.out.2⟩
              rw [happ.out]
              exact HM2.out.1
            case measure => simp [intOf]; omega
    · obtain rfl : k = 96 := by omega
      obtain ⟨wo, hwo⟩ : ∃ x, x = wr := ⟨_, rfl⟩
      subst hwo
      obtain ⟨LS, hLS⟩ : ∃ LS, Hid (applyW ((List.range 96).flatMap (slotW S)) zeros = LS) := ⟨_, Lib.hid rfl⟩
      rw [hLS.out] at hm
      rw [show ((96 : Nat) : Int) = 96 from rfl]
      clear hlt
      go_wp2_with fail
      go_loopw [8] (fun i wr => ∃ k : Nat, k ≤ 32 ∧ i = .int .i64 k ∧ MemP w.heap.size 738 UT wr (applyW ((List.range k).flatMap objW0) LS) ∧ Only [] w wr) (fun i _ => 32 - (intOf i).toNat)
      case atStart => exact ⟨0, by omega, rfl, hm, ho⟩
      case round =>
        clear hm ho
        obtain ⟨k, hk, rfl, hm, ho⟩ := hrel
        by_cases hlt : k < 32
        · as_aux_lemma =>
            have hr := h.only0 ho
            obtain ⟨co, c0⟩ := hr.cObjs
            obtain ⟨A, cp, hrow⟩ : ∃ A cp, ∀ (j : Nat) (v : Value), (objRow (RObj.fresh 0) (.slice A 0 cp))[j]? = some v → wr.cell? ⟨go, k * 32 + j, none⟩ = some v := by
              obtain ⟨-, -, ⟨cur, h2, h3⟩⟩ := hr
              obtain ⟨qv, q1, A, cp, e, -⟩ := h3 k hlt
              rw [hO k] at q1 e
              subst e
              exact ⟨A, cp, fun j v hv => by rw [h2.cell]; exact q1 j v hv⟩
            have hpz := hr.ltP
            have hgz := hr.ltO
            have hkI : (k : Int) < 32 := by omega
            have hgw := hm.row.lt
            have hra : wr.rangeAt go (k * 32) [.int .i64 0, .int .i64 0, .int .i64 0, .int .i64 0, .int .i64 0, .int .i64 0, .slice A 0 cp, .int .i64 0, .int .i64 0, .int .i64 (-1), .int .i64 0, .int .i64 0, .int .i64 (-1), .int .i64 (-1), .int .i64 0, .int .i64 0, .int .i64 0, .int .i64 0, .int .i64 0, .int .i64 0, .int .i64 (-1), .int .i64 (-1), .int .i64 (-1), .int .i64 (-1), .int .i64 0, .int .i64 0, .int .i64 0, .int .i64 0, .int .i64 (-1), .int .i64 0, .int .i64 (-1), .int .i64 0] := hrow
            have HR := Lib.hid hra
            obtain ⟨Lk, hLk⟩ : ∃ Lk, Hid (Lk = applyW ((List.range k).flatMap objW0) LS) := ⟨_, Lib.hid rfl⟩
            rw [← hLk.out] at hm
            have e5 : ((480 : Int) + 8 * (k : Int)).toNat = 480 + 8 * k := by omega
            have b5 : (480 : Int) + 8 * (k : Int) < 738 := by omega
            have c6 := hm.cell (m := 480 + 8 * k) (by omega)
            have f6 := hm.row.frozen (480 + 8 * k)
            have hP := (hm.put (m := 480 + 8 * k) (x := 0) (by omega) ⟨by omega, by omega⟩).only ((Only.refl [] _).alloc (.cells #[.int .i64 0, .int .i64 0, .int .i64 0, .int .i64 0, .int .i64 0, .int .i64 0, .slice A 0 cp, .int .i64 0, .int .i64 0, .int .i64 (-1), .int .i64 0, .int .i64 0, .int .i64 (-1), .int .i64 (-1), .int .i64 0, .int .i64 0, .int .i64 0, .int .i64 0, .int .i64 0, .int .i64 0, .int .i64 (-1), .int .i64 (-1), .int .i64 (-1), .int .i64 (-1), .int .i64 0, .int .i64 0, .int .i64 0, .int .i64 0, .int .i64 (-1), .int .i64 0, .int .i64 (-1), .int .i64 0] ObT)) (by simp)
            have oP := (ho.setCell (p := ⟨w.heap.size, 480 + 8 * k, none⟩) (.inr (Nat.le_refl _)) (.int .u64 0)).alloc (.cells #[.int .i64 0, .int .i64 0, .int .i64 0, .int .i64 0, .int .i64 0, .int .i64 0, .slice A 0 cp, .int .i64 0, .int .i64 0, .int .i64 (-1), .int .i64 0, .int .i64 0, .int .i64 (-1), .int .i64 (-1), .int .i64 0, .int .i64 0, .int .i64 0, .int .i64 0, .int .i64 0, .int .i64 0, .int .i64 (-1), .int .i64 (-1), .int .i64 (-1), .int .i64 (-1), .int .i64 0, .int .i64 0, .int .i64 0, .int .i64 0, .int .i64 (-1), .int .i64 0, .int .i64 (-1), .int .i64 0] ObT)
            have HP := Lib.hid (And.intro hP oP)
            clear hr hrow hra hm ho hP oP
            go_upto_region 20 with fail
            refine wp_region_lit ?_
            refine wpList_mv rfl _ rfl ?_
            go_wp2_with (first | (refine wpList_load_mid rfl ObT _ rfl go (k * 32) (by rfl) [.int .i64 0, .int .i64 0, .int .i64 0, .int .i64 0, .int .i64 0, .int .i64 0, .slice A 0 cp, .int .i64 0, .int .i64 0, .int .i64 (-1), .int .i64 0, .int .i64 0, .int .i64 (-1), .int .i64 (-1), .int .i64 0, .int .i64 0, .int .i64 0, .int .i64 0, .int .i64 0, .int .i64 0, .int .i64 (-1), .int .i64 (-1), .int .i64 (-1), .int .i64 (-1), .int .i64 0, .int .i64 0, .int .i64 0, .int .i64 0, .int .i64 (-1), .int .i64 0, .int .i64 (-1), .int .i64 0] _ HR.out Try.underlying50 rfl sizeOb ?_) | (refine wpList_store_row rfl ObT _ _ rfl wr.heap.size #[.int .i64 0, .int .i64 0, .int .i64 0, .int .i64 0, .int .i64 0, .int .i64 0, .slice A 0 cp, .int .i64 0, .int .i64 0, .int .i64 (-1), .int .i64 0, .int .i64 0, .int .i64 (-1), .int .i64 (-1), .int .i64 0, .int .i64 0, .int .i64 0, .int .i64 0, .int .i64 0, .int .i64 0, .int .i64 (-1), .int .i64 (-1), .int .i64 (-1), .int .i64 (-1), .int .i64 0, .int .i64 0, .int .i64 0, .int .i64 0, .int .i64 (-1), .int .i64 0, .int .i64 (-1), .int .i64 0] (by rfl) (by rfl) ObT _ (heap_alloc_new wr _) sizeOb rfl (objRow_one (RObj.fresh 0) A 0 cp) ?_; rw [World.setRow_alloc_new]))
            have hB6 : ((wr.setCell ⟨w.heap.size, 480 + 8 * k, none⟩ (.int .u64 0)).alloc (.cells #[.int .i64 0, .int .i64 0, .int .i64 0, .int .i64 0, .int .i64 0, .int .i64 0, .slice A 0 cp, .int .i64 0, .int .i64 0, .int .i64 (-1), .int .i64 0, .int .i64 0, .int .i64 (-1), .int .i64 (-1), .int .i64 0, .int .i64 0, .int .i64 0, .int .i64 0, .int .i64 0, .int .i64 0, .int .i64 (-1), .int .i64 (-1), .int .i64 (-1), .int .i64 (-1), .int .i64 0, .int .i64 0, .int .i64 0, .int .i64 0, .int .i64 (-1), .int .i64 0, .int .i64 (-1), .int .i64 0] ObT)).cell? ⟨wr.heap.size, 6, none⟩ = some (.slice A 0 cp) := by
              rw [show wr.heap.size = (wr.setCell ⟨w.heap.size, 480 + 8 * k, none⟩ (.int .u64 0)).heap.size by simp [World.setCell]]
              exact (Blk.new _ ObT #[.int .i64 0, .int .i64 0, .int .i64 0, .int .i64 0, .int .i64 0, .int .i64 0, .slice A 0 cp, .int .i64 0, .int .i64 0, .int .i64 (-1), .int .i64 0, .int .i64 0, .int .i64 (-1), .int .i64 (-1), .int .i64 0, .int .i64 0, .int .i64 0, .int .i64 0, .int .i64 0, .int .i64 0, .int .i64 (-1), .int .i64 (-1), .int .i64 (-1), .int .i64 (-1), .int .i64 0, .int .i64 0, .int .i64 0, .int .i64 0, .int .i64 (-1), .int .i64 0, .int .i64 (-1), .int .i64 0]).cell 6
            obtain ⟨B, hBB⟩ : ∃ B, wr.heap.size = B := ⟨_, rfl⟩
            rw [hBB] at hB6 ⊢
            generalize (wr.setCell ⟨w.heap.size, 480 + 8 * k, none⟩ (.int .u64 0)).alloc (.cells #[.int .i64 0, .int .i64 0, .int .i64 0, .int .i64 0, .int .i64 0, .int .i64 0, .slice A 0 cp, .int .i64 0, .int .i64 0, .int .i64 (-1), .int .i64 0, .int .i64 0, .int .i64 (-1), .int .i64 (-1), .int .i64 0, .int .i64 0, .int .i64 0, .int .i64 0, .int .i64 0, .int .i64 0, .int .i64 (-1), .int .i64 (-1), .int .i64 (-1), .int .i64 (-1), .int .i64 0, .int .i64 0, .int .i64 0, .int .i64 0, .int .i64 (-1), .int .i64 0, .int .i64 (-1), .int .i64 0] ObT) = w9 at HP hB6 ⊢
            clear c0 c6 f6 HR hBB hpz hgz
            go_loopw [12] (fun i wq => i = .int .i64 0 ∧ MemP w.heap.size 738 UT wq (setL Lk ((480 + 8 * k : Nat) : Int) 0) ∧ Only [] w wq ∧ wq.cell? ⟨B, 6, none⟩ = some (.slice A 0 cp)) (fun _ _ => 0)
            case atStart => exact ⟨rfl, HP.out.1, HP.out.2, hB6⟩
            case round =>
              clear hB6 HP
              obtain ⟨rfl, hm9, ho9, c6⟩ := hrel
              have happ : Hid (applyW ((List.range (k + 1)).flatMap objW0) LS = setL Lk ((480 + 8 * k : Nat) : Int) 0) := Lib.hid (by
                rw [applyW_step, ← hLk.out]
                rw [Int.natCast_add, Int.natCast_mul]
                rfl)
              have H9 := Lib.hid (And.intro hm9 ho9)
              clear hm9 ho9
              go_wp2_with fail
              go_roundw
              case rel =>
                refine ⟨k + 1, by omega, by go_num, ?_, H9.out.2⟩
                rw [happ.out]
                exact H9.out.1
              case measure => simp [intOf]; omega
        · obtain rfl : k = 32 := by omega
          have hr := h.only0 ho
          obtain ⟨⟨cs, co, hh⟩, -, -⟩ := hr
          have c2 : wr.cell? ⟨p, 2, none⟩ = some (.int .i64 S.ns) := hh.cell 2
          have c3 : wr.cell? ⟨p, 3, none⟩ = some (.int .i64 S.no) := hh.cell 3
          have hpw : p ≠ w.heap.size := fun e => by have := h.ltP; omega
          have hpz := hh.lt
          obtain ⟨n0, n1⟩ := hF.ns
          obtain ⟨m0, m1⟩ := hF.no
          have c6 := hm.cell (m := 736) (by omega)
          have c7 := hm.cell (m := 737) (by omega)
          have f6 := hm.row.frozen 736
          have f7 := hm.row.frozen 737
          have hP := (hm.put (m := 736) (x := S.ns) (by omega) ⟨n0, n1⟩).put (m := 737) (x := S.no) (by omega) ⟨m0, m1⟩
          have oP := (ho.setCell (p := ⟨w.heap.size, 736, none⟩) (.inr (Nat.le_refl _)) (.int .u64 S.ns)).setCell (p := ⟨w.heap.size, 737, none⟩) (.inr (Nat.le_refl _)) (.int .u64 S.no)
          have HP := Lib.hid (And.intro hP oP)
          rw [show ((32 : Nat) : Int) = 32 from rfl]
          clear hm ho hP oP hh hlt
          go_wp2_with fail
          go_ret
          exact ⟨_, rfl, HP.out.1, by rw [hLS.out]; rfl, HP.out.2⟩
end
end Go.Proofs.Ytlhcigpllkigdaa
