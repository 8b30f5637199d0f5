/- Replace of the document's state (layer 10). -/
import Derived.Test.YtopbbpjjiamdcaaRefUnlink
import Derived.Test.YtopbbpjjiamdcaaRefLeaf
import Derived.Deep.DeepCutAuto
namespace Go.Proofs.Ytopbbpjjiamdcaa
open Go.RowKit
def parsTo (P : Int → Int) (l : List Int) (b : Int) : Int → Int := l.foldl (fun P x => setF P x b) P
theorem parsTo_snoc (P : Int → Int) (l : List Int) (x b : Int) : parsTo P (l ++ [x]) b = setF (parsTo P l b) x b := by simp [parsTo]
def kids1 (S : RSt) (a b : Int) : Int → List Int := if 0 ≤ S.par a then setF S.kids (S.par a) ((S.kids (S.par a)).map (swapK a b)) else S.kids
def replaceN (S : RSt) (a b : Int) : Int := if slotOk a = false ∨ slotOk b = false then 2 else if a = b ∨ 0 ≤ S.par b ∨ S.kids b ≠ [] then 10 else 0
def replaceOk (S : RSt) (a b : Int) : RSt :=
  { S with par := parsTo (setF (setF S.par b (S.par a)) a (-1)) (kids1 S a b a) b, kids := setF (setF (kids1 S a b) b (kids1 S a b a)) a [] }
def replaceS (S : RSt) (a b : Int) : RSt := if replaceN S a b = 0 then replaceOk S a b else S
theorem map_swap_step {L : List Int} {k : Nat} {x a b : Int} (hx : L[k]? = some x) : (L.take (k + 1)).map (swapK a b) ++ L.drop (k + 1) = ((L.take k).map (swapK a b) ++ L.drop k).set k (swapK a b x) := by
  have hk := (List.getElem?_eq_some_iff.1 hx).1
  have e1 : L.take (k + 1) = L.take k ++ [x] := by rw [List.take_add_one, hx]; rfl
  have e2 : L.drop k = x :: L.drop (k + 1) := by
    rw [List.drop_eq_getElem_cons hk, (List.getElem?_eq_some_iff.1 hx).2]
  have e3 : ((L.take k).map (swapK a b)).length = k := by simp; omega
  rw [e1, e2, List.map_append, List.set_append_right _ _ (by rw [e3]; omega), e3, Nat.sub_self]
  simp
theorem set_same {L : List Int} {k : Nat} {x : Int} (h : L[k]? = some x) : L.set k x = L := by
  obtain ⟨hk, rfl⟩ := List.getElem?_eq_some_iff.1 h
  exact List.set_getElem_self hk
section
variable {w : World} {p gs go : Nat} {S : RSt}
set_option maxRecDepth 100000 in
set_option maxHeartbeats 4000000 in
theorem rreplace_ok (h : RefM w p gs go S) (hs : S.Short) (hP : S.Pars) (a b : Nat) (ha : a < 96) (hb : b < 96) (hab : a ≠ b) (hpb : S.par b < 0) (hkb : S.kids b = []) (hin : ∀ x, x ∈ S.kids a → InS x) (hqa : S.par a ≠ a) :
    Calls Try.prog 14 #[.pointer (some ⟨p, 0, none⟩), .int .i64 a, .int .i64 b] w fun e w' => e = .returned (.int .i64 0) ∧ RefM w' p gs go (replaceOk S a b) ∧ Only [gs] w w' := by
  obtain ⟨iI, hi0, hi1, hi2, hi3⟩ := info_parts infoIt
  obtain ⟨cs, c0⟩ := h.cSlots
  have c1 := h.cPar hb
  have c2 := h.cPar ha
  obtain ⟨Ab, cpb, cKb, -⟩ := h.cKids hb
  rw [hkb] at cKb
  have hpz := h.ltP
  have hgz := h.ltS
  have haI : (a : Int) < 96 := by omega
  have hbI : (b : Int) < 96 := by omega
  have sA := Lib.hid (rslot_is (slotOk_yes.2 (show 0 ≤ (a : Int) ∧ (a : Int) < 96 by omega)))
  have sB := Lib.hid (rslot_is (slotOk_yes.2 (show 0 ≤ (b : Int) ∧ (b : Int) < 96 by omega)))
  have hne : ((a : Int) == (b : Int)) = false := by simp; omega
  have HB := Lib.hid h
  have hab' : (b : Int) ≠ (a : Int) := by omega
  obtain ⟨q, hq⟩ : ∃ q, S.par a = q := ⟨_, rfl⟩
  have hqP : q < 96 := by rw [← hq]; exact hP a
  rw [hq] at c2
  have hk1 : Hid (kids1 S a b = if 0 ≤ q then setF S.kids q ((S.kids q).map (swapK a b)) else S.kids) := Lib.hid (by rw [kids1, hq])
  have hk2 : Hid (kids1 S a b a = S.kids a) := Lib.hid (by
    rw [hk1.out]
    split
    · rw [setF_ne (by rw [← hq]; exact fun e => hqa e.symm)]
    · rfl)
  clear h
  go_enter Try.func14, Try.ntmps14
  go_wp2_with fail
  (with_reducible refine (sA.out _).mono ?_)
  rintro e w1 ⟨rfl, rfl⟩
  go_wp2_with fail
  (with_reducible refine (sB.out _).mono ?_)
  rintro e w1 ⟨rfl, rfl⟩
  go_upto_if 58 with fail
  clear c1 cKb
  go_cut [] (fun wx => RefM wx p gs go { S with kids := kids1 S a b } ∧ Only [gs] w1 wx)
  case first =>
    by_cases h0 : 0 ≤ q
    · obtain ⟨m, rfl⟩ : ∃ m : Nat, q = m := ⟨q.toNat, by omega⟩
      have hm : m < 96 := by omega
      have hmI : (m : Int) < 96 := by omega
      obtain ⟨A, cp, cK, hR⟩ := HB.out.cKids hm
      have hlen : (S.kids m).length ≤ 500 := hs m
      have hk3 : Hid (kids1 S a b = setF S.kids m ((S.kids m).map (swapK a b))) := Lib.hid (by rw [hk1.out, if_pos h0])
      obtain ⟨L, hL⟩ : ∃ L, Hid (S.kids m = L) := ⟨_, Lib.hid rfl⟩
      rw [hL.out] at cK hR hlen
      have hoB : Only [] w1 (w1.alloc (.cells #[] ItT)) := (Only.refl [] w1).alloc _
      have hR2 := hR.only hoB (fun _ _ _ => by simp)
      have hown := World.ownsRow_lit (base := w1.heap.size) (e := ItT) (size := 1) w1 #[] 0 (Nat.le_refl _) (by unfold maxLen; omega) rfl
      clear hR
      go_wp2_with (at_builtin; refine wpList_append_nums _ (by rfl) _ _ 41 (by rfl) w1.heap.size ItT ItT iI (.int .i64 0) Try.underlying41 hi0 hi1 hi2 hi3 rfl w1.heap.size 0 [] (by rfl) hown A L cp (by rfl) hR2 (by omega) (by omega) (by simp) ?_; intro v5 w5 hrow5 hgrow5)
      have ho5 := only_grows hoB hgrow5 (fun j hj => by injection hj with hj; omega)
      have hz5 : w1.heap.size < w5.heap.size := Nat.lt_of_lt_of_le (by simp) hgrow5.size
      rw [Nat.zero_add, List.nil_append] at hrow5
      clear hown hgrow5 hR2 hoB cK
      obtain ⟨A5, cp5, rfl, -⟩ := RowN.of_owns irow'_len hrow5
      go_loopw [11] (fun i wr => ∃ k : Nat, k ≤ L.length ∧ i = .int .i64 k ∧ wr.ownsRow w1.heap.size ItT 1 (.slice A5 L.length cp5) L.length (((L.take k).map (swapK a b) ++ L.drop k).flatMap irow') ∧ Only [] w1 wr) (fun i _ => L.length - (intOf i).toNat)
      case atStart => exact ⟨0, by omega, rfl, by simpa using hrow5, ho5⟩
      case round =>
        clear hrow5 ho5 hz5
        obtain ⟨k, hk, rfl, hrow, ho⟩ := hrel
        have hrlen : ((L.take k).map (swapK a b) ++ L.drop k).length = L.length := by simp; omega
        by_cases hlt : k < L.length
        · obtain ⟨x, hx⟩ : ∃ x, L[k]? = some x := ⟨_, List.getElem?_eq_getElem hlt⟩
          obtain ⟨g, cap, e5, hgb, hgl⟩ := hrow.form (by omega)
          injection e5 with e5 _ e6
          subst e5 e6
          have hat : ((L.take k).map (swapK a b) ++ L.drop k)[k]? = some x := by
            rw [List.getElem?_append_right (by simp; omega)]
            simp
            rw [show k - min k L.length = 0 by omega, Nat.add_zero, hx]
          have hcx : wr.cell? ⟨g, k, none⟩ = some (.int .i64 x) := by
            rw [hrow.cellAt k (by omega)]
            have := flat_get (f := irow') (L := (L.take k).map (swapK a b) ++ L.drop k) irow'_len k 0 (by omega)
            rw [hat] at this
            simpa [flat, irow'] using this
          have hfx := hrow.frozenAt k
          have hst := (hrow.stored k (.int .i64 b)).1
          have hst2 : (((L.take k).map (swapK a b) ++ L.drop k).flatMap irow').set k (.int .i64 b) = (((L.take k).map (swapK a b) ++ L.drop k).set k b).flatMap irow' := by
            have := flat_set (f := irow') (L := (L.take k).map (swapK a b) ++ L.drop k) (n := 1) (i := k) (j := 0) (b := (b : Int)) (v := .int .i64 b) irow'_len hat (by omega) rfl
            have h3 : (flat irow' ((L.take k).map (swapK a b) ++ L.drop k)).setIfInBounds (k * 1 + 0) (.int .i64 b) = (((((L.take k).map (swapK a b) ++ L.drop k).flatMap irow').set k (.int .i64 b)).toArray) := by
              unfold flat
              rw [List.setIfInBounds_toArray]
              simp
            rw [h3] at this
            have := congrArg Array.toList this
            simpa [flat] using this
          rw [hst2] at hst
          have hmap := map_swap_step (a := (a : Int)) (b := (b : Int)) hx
          have HM := Lib.hid (And.intro hst (And.intro hrow (And.intro hmap (And.intro ho (And.intro hgb hat)))))
          have hkL : (k : Int) < (L.length : Int) := by omega
          clear hst hst2 hrow hmap ho hat hx hrlen
          by_cases e : x = a
          · have e' : (x == (a : Int)) = true := by simp [e]
            have HE := Lib.hid e
            clear e
            go_wp2_with fail
            go_roundw
            case rel =>
              refine ⟨k + 1, by omega, by go_num, ?_, HM.out.2.2.2.1.setCell (.inr HM.out.2.2.2.2.1) _⟩
              rw [HM.out.2.2.1, HE.out, swap_self]
              exact HM.out.1
            case measure => simp [intOf]; omega
          · have e' : (x == (a : Int)) = false := by simp [e]
            have HE := Lib.hid e
            clear e
            go_wp2_with fail
            go_roundw
            case rel =>
              refine ⟨k + 1, by omega, by go_num, ?_, HM.out.2.2.2.1⟩
              rw [HM.out.2.2.1, swap_ne HE.out, set_same HM.out.2.2.2.2.2]
              exact HM.out.2.1
            case measure => simp [intOf]; omega
        · obtain rfl : k = L.length := by omega
          rw [List.take_length, List.drop_length, List.append_nil] at hrow
          have hrow' : wr.ownsRow w1.heap.size ItT 1 (.slice A5 L.length cp5) (L.map (swapK (a : Int) b)).length ((L.map (swapK (a : Int) b)).flatMap irow') := by simpa using hrow
          obtain ⟨A6, cp6, e6, hR6⟩ := RowN.of_owns irow'_len hrow'
          injection e6 with e7 e9 e8
          subst e7 e8
          have hr := HB.out.only0 ho
          obtain ⟨cs6, c06⟩ := hr.cSlots
          obtain ⟨A7, cp7, c7, -⟩ := hr.cKids hm
          have f7 := hr.frozenS (m * 8 + 7)
          have h8 := hr.setKids (by decide) (by decide) (by decide) hm (v := .slice A5 L.length cp5) (l := L.map (swapK (a : Int) b)) ⟨A5, cp5, by rw [← e9], hR6⟩
          have o8 := (ho.more (S' := [gs]) (fun _ _ hm => absurd hm (List.not_mem_nil))).setCell (p := ⟨gs, m * 8 + 7, none⟩) (.inl (by simp)) (.slice A5 L.length cp5)
          have H8 := Lib.hid (And.intro h8 o8)
          rw [hL.out] at c7
          clear hrow hrow' hR6 hr h8 o8 ho hlt hrlen e9
          go_wp2_with fail
          go_meet
          rw [hk3.out, hL.out]
          exact H8.out
    · have hk3 : Hid (kids1 S a b = S.kids) := Lib.hid (by rw [hk1.out, if_neg h0])
      have h0' : q < 0 := by omega
      clear h0
      go_wp2_with fail
      go_meet
      rw [hk3.out]
      exact ⟨HB.out, Only.refl _ _⟩
  case rest =>
    obtain ⟨h1, o1⟩ := hcut
    clear c0 c2 hpz hgz
    obtain ⟨cs1, c0⟩ := h1.cSlots
    have f1 := h1.frozenS (b * 8 + 6)
    have c1 := h1.cPar hb
    have f2 := h1.frozenS (a * 8 + 6)
    have c2 := h1.cPar ha
    have hpz := h1.ltP
    have hgz := h1.ltS
    have h2 := h1.setPar (by decide) (by decide) (by decide) hb q
    have h3 : RefM _ p gs go { S with par := setF (setF S.par b q) a (-1), kids := kids1 S a b } := h2.setPar (by decide) (by decide) (by decide) ha (-1)
    have o3 := (o1.setCell (p := ⟨gs, b * 8 + 6, none⟩) (.inl (by simp)) (.int .i64 q)).setCell (p := ⟨gs, a * 8 + 6, none⟩) (.inl (by simp)) (.int .i64 (-1))
    have hpg : p ≠ gs := fun e => by
      obtain ⟨⟨cs9, co9, hb9⟩, ⟨cur9, hs9, -⟩, -⟩ := h1
      exact hb9.ne_ hs9 (by decide) e
    have H3 := Lib.hid (And.intro h3 o3)
    clear h1 h2 h3 o1 o3
    obtain ⟨P2, hP2⟩ : ∃ P2, Hid (setF (setF S.par b q) a (-1) = P2) := ⟨_, Lib.hid rfl⟩
    obtain ⟨K1, hK1⟩ : ∃ K1, Hid (kids1 S a b = K1) := ⟨_, Lib.hid rfl⟩
    rw [hP2.out, hK1.out] at H3
    go_upto_region 18 with fail
    generalize (wc.setCell ⟨gs, b * 8 + 6, none⟩ (.int .i64 q)).setCell ⟨gs, a * 8 + 6, none⟩ (.int .i64 (-1)) = w3 at H3 ⊢
    clear c0 f1 c1 f2 c2 hpz hgz
    obtain ⟨cs3, c0⟩ := H3.out.1.cSlots
    obtain ⟨A, cp, cK, hR⟩ := H3.out.1.cKids ha
    obtain ⟨A', cp', cK', -⟩ := H3.out.1.cKids hb
    have f3 := H3.out.1.frozenS (b * 8 + 7)
    have hLa : Hid (K1 a = S.kids a) := Lib.hid (by rw [← hK1.out]; exact hk2.out)
    obtain ⟨L, hL⟩ : ∃ L, Hid (S.kids a = L) := ⟨_, Lib.hid rfl⟩
    have hLK : K1 a = L := hLa.out.trans hL.out
    obtain ⟨n', hn'⟩ : ∃ n', (K1 b).length = n' := ⟨_, rfl⟩
    simp only [hLK, hn'] at cK hR cK'
    have h4 : RefM (w3.setCell ⟨gs, b * 8 + 7, none⟩ (.slice A L.length cp)) p gs go { S with par := P2, kids := setF K1 b L } := H3.out.1.setKids (by decide) (by decide) (by decide) hb (v := .slice A L.length cp) (l := L) ⟨A, cp, rfl, hR⟩
    have o4 := H3.out.2.setCell (p := ⟨gs, b * 8 + 7, none⟩) (.inl (by simp)) (.slice A L.length cp)
    have hS0 : w3.drew.cell? ⟨p, 0, none⟩ = some (.slice (some ⟨gs, 0, none⟩) 96 cs3) ∧ w3.drew.cell? ⟨gs, a * 8 + 7, none⟩ = some (.slice A L.length cp) := ⟨c0, cK⟩
    have hS1 : (w3.setCell ⟨gs, b * 8 + 7, none⟩ (.slice A L.length cp)).cell? ⟨p, 0, none⟩ = some (.slice (some ⟨gs, 0, none⟩) 96 cs3) ∧ (w3.setCell ⟨gs, b * 8 + 7, none⟩ (.slice A L.length cp)).cell? ⟨gs, a * 8 + 7, none⟩ = some (.slice A L.length cp) :=
      ⟨(World.cell?_setCell_other _ _ _ _ (by intro e; injection e with e; exact hpg e.symm)).trans c0, (World.cell?_setCell_other _ _ _ _ (by intro e; injection e with e1 e2; omega)).trans cK⟩
    have H4 := Lib.hid (And.intro h4 o4)
    clear h4 o4
    go_region_held3 (fun W => W.cell? ⟨p, 0, none⟩ = some (.slice (some ⟨gs, 0, none⟩) 96 cs3) ∧ W.cell? ⟨gs, a * 8 + 7, none⟩ = some (.slice A L.length cp)) (first | exact hS0 | exact hS1) (first | fail)
    have h4d : RefM (w3.setCell ⟨gs, b * 8 + 7, none⟩ (.slice A L.length cp)).drew p gs go { S with par := P2, kids := setF K1 b L } := H4.out.1.drewN 1
    have o4d : Only [gs] w1 (w3.setCell ⟨gs, b * 8 + 7, none⟩ (.slice A L.length cp)).drew := H4.out.2.drewN 1
    clear hS0 hS1 H4 cK cK' c0 f3
    generalize (w3.setCell ⟨gs, b * 8 + 7, none⟩ (.slice A L.length cp)).drew = w4 at h4d o4d ⊢
    obtain ⟨cs4, c0⟩ := h4d.cSlots
    obtain ⟨A4, cp4, cK4, -⟩ := h4d.cKids ha
    have f4 := h4d.frozenS (a * 8 + 7)
    have h5 : RefM (w4.setCell ⟨gs, a * 8 + 7, none⟩ (.slice none 0 0)) p gs go { S with par := P2, kids := setF (setF K1 b L) a [] } := h4d.setKids (by decide) (by decide) (by decide) ha (v := .slice none 0 0) (l := []) (NumsV.nil _ _)
    have o5 := o4d.setCell (p := ⟨gs, a * 8 + 7, none⟩) (.inl (by simp)) (.slice none 0 0)
    have hpz := h5.ltP
    have hgz := h5.ltS
    have H5 := Lib.hid (And.intro h5 o5)
    have hLs : L.length ≤ 500 := by rw [← hL.out]; exact hs a
    have hKb : Hid (setF (setF K1 b L) a [] b = L) := Lib.hid (by rw [setF_ne hab', setF_self])
    obtain ⟨K5, hK5⟩ : ∃ K5, Hid (setF (setF K1 b L) (a : Int) [] = K5) := ⟨_, Lib.hid rfl⟩
    rw [hK5.out] at H5 hKb
    obtain ⟨n4, hn4⟩ : ∃ n4, (setF K1 (b : Int) L (a : Int)).length = n4 := ⟨_, rfl⟩
    simp only [hn4] at cK4
    clear h4d h5 o4d o5 hpz hgz hR hn4
    go_wp2_with fail
    go_loopw [12] (fun i wr => ∃ k : Nat, k ≤ L.length ∧ i = .int .i64 k ∧ RefM wr p gs go { S with par := parsTo P2 (L.take k) b, kids := K5 } ∧ Only [gs] w1 wr) (fun i _ => L.length - (intOf i).toNat)
    case atStart => exact ⟨0, by omega, rfl, H5.out.1, H5.out.2⟩
    case round =>
      clear H5 c0 cK4 f4
      obtain ⟨k, hk, rfl, h6, o6⟩ := hrel
      obtain ⟨cs6, c0⟩ := h6.cSlots
      obtain ⟨A6, cp6, cK, hR⟩ := h6.cKids hb
      have hpz := h6.ltP
      have hgz := h6.ltS
      simp only [hKb.out] at cK hR
      have hk0 : (0 : Int) ≤ (k : Int) := Int.natCast_nonneg _
      by_cases hlt : k < L.length
      · obtain ⟨x, hx⟩ : ∃ x, L[k]? = some x := ⟨_, List.getElem?_eq_getElem hlt⟩
        obtain ⟨g, rfl, hg, cx⟩ := rowN_cell hR hx
        have hxin := hin x (by rw [hL.out]; exact List.mem_of_getElem? hx)
        obtain ⟨y, rfl⟩ : ∃ y : Nat, x = y := ⟨x.toNat, by have := hxin.1; omega⟩
        have hy : y < 96 := by have := hxin.2; omega
        have hyI : (y : Int) < 96 := by omega
        have cy := h6.cPar hy
        have fy := h6.frozenS (y * 8 + 6)
        have hkL : (k : Int) < (L.length : Int) := by omega
        have htk : L.take (k + 1) = L.take k ++ [(y : Int)] := by rw [List.take_add_one, hx]; rfl
        have h7 : RefM (wr.setCell ⟨gs, y * 8 + 6, none⟩ (.int .i64 b)) p gs go { S with par := parsTo P2 (L.take (k + 1)) b, kids := K5 } := by
          rw [htk, parsTo_snoc]
          exact h6.setPar (by decide) (by decide) (by decide) hy b
        have o7 := o6.setCell (p := ⟨gs, y * 8 + 6, none⟩) (.inl (by simp)) (.int .i64 b)
        have H7 := Lib.hid (And.intro (h7.drewN 1) (o7.drewN 1))
        have hgg : g ≠ gs := by
          obtain ⟨g', cur', e9, hb9, -⟩ := hR k _ hx
          injection e9 with e9
          injection e9 with e9 _ _
          subst e9
          obtain ⟨-, ⟨cur8, hs8, -⟩, -⟩ := h6
          exact hb9.ne_ hs8 (by decide)
        have hS0 : wr.drew.cell? ⟨p, 0, none⟩ = some (.slice (some ⟨gs, 0, none⟩) 96 cs6) ∧ wr.drew.cell? ⟨gs, b * 8 + 7, none⟩ = some (.slice (some ⟨g, 0, none⟩) L.length cp6) ∧ wr.drew.cell? ⟨g, k, none⟩ = some (.int .i64 y) := ⟨c0, cK, cx⟩
        have hS1 : (wr.setCell ⟨gs, y * 8 + 6, none⟩ (.int .i64 b)).cell? ⟨p, 0, none⟩ = some (.slice (some ⟨gs, 0, none⟩) 96 cs6) ∧ (wr.setCell ⟨gs, y * 8 + 6, none⟩ (.int .i64 b)).cell? ⟨gs, b * 8 + 7, none⟩ = some (.slice (some ⟨g, 0, none⟩) L.length cp6) ∧ (wr.setCell ⟨gs, y * 8 + 6, none⟩ (.int .i64 b)).cell? ⟨g, k, none⟩ = some (.int .i64 y) :=
          ⟨(World.cell?_setCell_other _ _ _ _ (by intro e; injection e with e; exact hpg e.symm)).trans c0, (World.cell?_setCell_other _ _ _ _ (by intro e; injection e with e1 e2; omega)).trans cK, (World.cell?_setCell_other _ _ _ _ (by intro e; injection e with e1 e2; exact hgg e1.symm)).trans cx⟩
        clear h6 o6 h7 o7 hR hx hxin htk
        go_upto_region 23 with fail
        go_region_held3 (fun W => W.cell? ⟨p, 0, none⟩ = some (.slice (some ⟨gs, 0, none⟩) 96 cs6) ∧ W.cell? ⟨gs, b * 8 + 7, none⟩ = some (.slice (some ⟨g, 0, none⟩) L.length cp6) ∧ W.cell? ⟨g, k, none⟩ = some (.int .i64 y)) (first | exact hS0 | exact hS1) (first | fail)
        clear hS0 hS1 c0 cK cx
        go_wp2_with fail
        go_roundw
        case rel => exact ⟨k + 1, by omega, by go_num, H7.out.1, H7.out.2⟩
        case measure => simp [intOf]; omega
      · obtain rfl : k = L.length := by omega
        rw [List.take_length] at h6
        have HF : Hid (replaceOk S a b = { S with par := parsTo P2 L b, kids := K5 }) := Lib.hid (by
          unfold replaceOk
          rw [hk2.out, hL.out, hq, hP2.out, hK1.out, hK5.out])
        have H6 := Lib.hid (And.intro h6 o6)
        clear hlt hR h6 o6
        go_wp2_with fail
        go_ret
        rw [HF.out]
        exact ⟨rfl, H6.out.1, H6.out.2⟩
end
end Go.Proofs.Ytopbbpjjiamdcaa
