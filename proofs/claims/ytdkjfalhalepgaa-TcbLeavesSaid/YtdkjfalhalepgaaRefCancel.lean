/- What the document's Cancel does (layers 15 to 22). -/
import Derived.Test.YtdkjfalhalepgaaJ17
import Derived.Test.YtdkjfalhalepgaaRefWithout
import Derived.Test.YtdkjfalhalepgaaRefBlock
import Derived.Deep.CutBlock
import Derived.Deep.DeepCutAuto
namespace Go.Proofs.Ytdkjfalhalepgaa
open Go.RowKit
section
variable {w w' : World} {p gs go : Nat} {S : RSt}
theorem keepO' {t : TypeId} {k : Nat} {cs : Array Value} (hb : Blk w k t cs) (hk : k ≠ go) (ho : Only [go] w w') : Blk w' k t cs := ho.blk hb (fun e => by simp at e; exact hk e)
set_option maxRecDepth 100000 in
set_option maxHeartbeats 2000000 in
theorem rcancel_any (h : RefM w p gs go S) {t : Nat} (ht : t < 32) (hO : (S.ob (t : Int)).owing.toNat < 32) (hO2 : (S.ob (t : Int)).on.toNat < 32) (hQL : ∀ x : Int, (S.ob x).queue.length ≤ 900) :
    Calls Try.prog 39 #[.pointer (some ⟨p, 0, none⟩), .int .i64 t] w fun e w' => e = .returned (.tuple #[]) ∧ RefM w' p gs go (cancelS S t) ∧ Only [go] w w' := by
  have h0 : (0 : Int) ≤ (t : Int) := by omega
  have h1 : (t : Int) < 32 := by omega
  have hSC : ∀ x, cancelS S t = x → ∀ W, RefM W p gs go x → RefM W p gs go (cancelS S t) := fun x e W hx => e ▸ hx
  have HSC := Lib.hid hSC
  clear hSC
  obtain ⟨co, c1⟩ := h.cObjs
  obtain ⟨A, cp, hrow, hqr⟩ := h.cObj ht
  obtain ⟨row, hR⟩ : ∃ row, row = objRow (S.ob (t : Int)) (.slice A (S.ob (t : Int)).queue.length cp) := ⟨_, rfl⟩
  have hrl : row.length = 32 := hR ▸ rfl
  have hone : row.toArray.all (·.oneCell') = true := hR ▸ objRow_one _ _ _ _
  rw [← hR] at hrow
  have hrg : w.rangeAt go (t * 32) row := hrow
  have e8 : row[8]? = some (.int .i64 (S.ob (t : Int)).state) := by rw [hR]; rfl
  have e9 : row[9]? = some (.int .i64 (S.ob (t : Int)).owing) := by rw [hR]; rfl
  have e12 : row[12]? = some (.int .i64 (S.ob (t : Int)).on) := by rw [hR]; rfl
  have hsz : row.toArray.size = 32 := by simpa using hrl
  have HW := Lib.hid h
  have HR := Lib.hid hrg
  clear hR hrow hqr hrg
  go_enter Try.func39, Try.ntmps39
  go_upto_region 1 with (first | (refine wpList_load_mid rfl ObT _ rfl go (t * 32) (by kernel_rfl) row _ HR.out Try.underlying61 rfl (by rw [hrl]; exact sizeOb) ?_) | (refine wpList_store_row rfl ObT _ _ rfl w.heap.size row.toArray (by kernel_rfl) (by kernel_rfl) ObT _ (heap_alloc_new w _) (by rw [hsz]; exact sizeOb) (by rw [hsz]; rfl) hone ?_; rw [World.setRow_alloc_new]) | fail)
  obtain ⟨D, hD⟩ : ∃ D, Hid (D = w.heap.size) := ⟨_, Lib.hid rfl⟩
  obtain ⟨w1, hw1⟩ : ∃ w1, Hid (w1 = w.alloc (.cells row.toArray ObT)) := ⟨_, Lib.hid rfl⟩
  have ho1 := (Only.refl [] w).alloc (.cells row.toArray ObT)
  have hb1 := Blk.new w ObT row.toArray
  have hr1 := HW.out.only0 ho1
  have hne : D ≠ go := by have := HW.out.ltO; rw [hD.out]; omega
  rw [← hw1.out] at ho1 hb1 hr1 ⊢
  rw [← hD.out] at hb1 ⊢
  have f8 : w1.cell? ⟨D, 8, none⟩ = some (.int .i64 (S.ob (t : Int)).state) := by rw [hb1.cell]; simpa using e8
  have f9 : w1.cell? ⟨D, 9, none⟩ = some (.int .i64 (S.ob (t : Int)).owing) := by rw [hb1.cell]; simpa using e9
  have f12 : w1.cell? ⟨D, 12, none⟩ = some (.int .i64 (S.ob (t : Int)).on) := by rw [hb1.cell]; simpa using e12
  obtain ⟨st, hst⟩ : ∃ st, (S.ob (t : Int)).state = st := ⟨_, rfl⟩
  obtain ⟨ow', how⟩ : ∃ x, (S.ob (t : Int)).owing = x := ⟨_, rfl⟩
  obtain ⟨on', hon⟩ : ∃ x, (S.ob (t : Int)).on = x := ⟨_, rfl⟩
  rw [hst] at f8
  rw [how] at f9
  rw [hon] at f12 e12
  have dz := hb1.lt
  have He12 : Hid (row.toArray[12]? = some (.int .i64 on')) := Lib.hid (by simpa using e12)
  replace ho1 : Only [go] w w1 := (Only.refl [go] w).then ho1 (fun y hy => by simp at hy)
  have HB := Lib.hid (And.intro hr1 (And.intro ho1 hb1))
  have HOW := Lib.hid (And.intro hO hO2)
  rw [how, hon] at HOW
  have HX := Lib.hid (And.intro hst (And.intro how hon))
  clear hw1 hD c1 e8 e9 e12 hone hsz hrl HR HW h hr1 ho1 hb1 hst how hon hO hO2
  obtain ⟨co, c1⟩ := HB.out.1.cObjs
  by_cases h4 : st = 4
  · subst h4
    by_cases hw0 : 0 ≤ ow'
    · skip
      obtain ⟨v, e, f⟩ := HB.out.1.fld (i := ow'.toNat) (j := 13) HOW.out.1 (by omega)
      have q1 := HB.out.1.setF1 (i := ow'.toNat) HOW.out.1 (j := 13) (by omega) (.int .i64 (-1)) (fun x => { x with owes := -1 }) (fun _ _ => rfl) (fun _ => rfl)
      have hi2 : ow' < 32 := by have := HOW.out.1; omega
      have hd1 : Only [go] (w1.setCell ⟨go, ow'.toNat * 32 + 13, none⟩ (.int .i64 (-1))) (w1.setCell ⟨go, ow'.toNat * 32 + 13, none⟩ (.int .i64 (-1))).drew := (Only.refl [go] _).drewN 1
      have hd2 : RefM (w1.setCell ⟨go, ow'.toNat * 32 + 13, none⟩ (.int .i64 (-1))).drew p gs go (S.upO (ow'.toNat : Int) fun x => { x with owes := -1 }) := q1.1.drewN 1
      have H1 := Lib.hid (And.intro hd2 ((HB.out.2.1.trans q1.2).trans hd1))
      clear q1 hd1 hd2
      go_upto_region 3 with fail
      refine wp_region_still_tail 8 (by kernel_rfl) (by kernel_rfl) ?_
      simp only [List.take_succ_cons, List.take_zero, List.drop_succ_cons, List.drop_zero]
      iterate 8 still_step
      refine wpStill_nil ?_
      change wpList _ _ _ _ _ w1.drew
      go_upto_region 4 with fail
      obtain ⟨w2, hw2⟩ : ∃ X, Hid (X = (w1.setCell ⟨go, ow'.toNat * 32 + 13, none⟩ (.int .i64 (-1))).drew) := ⟨_, Lib.hid rfl⟩
      have hw2' := hw2.out
      rw [← hw2'] at H1 ⊢
      clear c1 e f hw2 hw2'
      obtain ⟨co, c1⟩ := H1.out.1.cObjs
      obtain ⟨v, e, f⟩ := H1.out.1.fld (j := 9) ht (by omega)
      have q1 := H1.out.1.setF1 ht (j := 9) (by omega) (.int .i64 (-1)) (fun x => { x with owing := -1 }) (fun _ _ => rfl) (fun _ => rfl)
      have N0 := Lib.hid (And.intro q1.1 (H1.out.2.trans q1.2))
      clear q1
      go_upto_region 9 with fail
      obtain ⟨v0, hv0⟩ : ∃ X, Hid (X = w2.setCell ⟨go, t * 32 + 9, none⟩ (.int .i64 (-1))) := ⟨_, Lib.hid rfl⟩
      rw [← hv0.out] at N0 ⊢
      clear c1 e f hv0
      obtain ⟨co, c1⟩ := N0.out.1.cObjs
      obtain ⟨v, e, f⟩ := N0.out.1.fld (j := 8) ht (by omega)
      have q1 := N0.out.1.setF1 ht (j := 8) (by omega) (.int .i64 0) (fun x => { x with state := 0 }) (fun _ _ => rfl) (fun _ => rfl)
      have N1 := Lib.hid (And.intro q1.1 (N0.out.2.trans q1.2))
      clear q1
      go_upto_region 10 with fail
      obtain ⟨v1, hv1⟩ : ∃ X, Hid (X = v0.setCell ⟨go, t * 32 + 8, none⟩ (.int .i64 0)) := ⟨_, Lib.hid rfl⟩
      rw [← hv1.out] at N1 ⊢
      clear c1 e f hv1
      obtain ⟨co, c1⟩ := N1.out.1.cObjs
      obtain ⟨v, e, f⟩ := N1.out.1.fld (j := 12) ht (by omega)
      have q1 := N1.out.1.setF1 ht (j := 12) (by omega) (.int .i64 (-1)) (fun x => { x with on := -1 }) (fun _ _ => rfl) (fun _ => rfl)
      have N2 := Lib.hid (And.intro q1.1 (N1.out.2.trans q1.2))
      clear q1
      go_wp2_with fail
      go_end0
      refine ⟨rfl, HSC.out _ ?_ _ N2.out.1, N2.out.2⟩
      rw [cancelS, HX.out.1, HX.out.2.1, HX.out.2.2, if_pos rfl, if_pos hw0]
      rw [Int.toNat_of_nonneg hw0]
      exact RSt.ext' rfl rfl rfl (fun i => by
        simp only [stopS, owingS, owesS, upO_at]
        by_cases e : i = (t : Int) <;> by_cases e2 : i = ow' <;> by_cases e3 : ow' = (t : Int) <;> simp_all) rfl rfl
    · skip
      have H1 := Lib.hid (And.intro HB.out.1 HB.out.2.1)
      clear c1
      go_upto_region 4 with fail
      obtain ⟨co, c1⟩ := H1.out.1.cObjs
      obtain ⟨v, e, f⟩ := H1.out.1.fld (j := 9) ht (by omega)
      have q1 := H1.out.1.setF1 ht (j := 9) (by omega) (.int .i64 (-1)) (fun x => { x with owing := -1 }) (fun _ _ => rfl) (fun _ => rfl)
      have N0 := Lib.hid (And.intro q1.1 (H1.out.2.trans q1.2))
      clear q1
      go_upto_region 9 with fail
      obtain ⟨v0, hv0⟩ : ∃ X, Hid (X = w1.setCell ⟨go, t * 32 + 9, none⟩ (.int .i64 (-1))) := ⟨_, Lib.hid rfl⟩
      rw [← hv0.out] at N0 ⊢
      clear c1 e f hv0
      obtain ⟨co, c1⟩ := N0.out.1.cObjs
      obtain ⟨v, e, f⟩ := N0.out.1.fld (j := 8) ht (by omega)
      have q1 := N0.out.1.setF1 ht (j := 8) (by omega) (.int .i64 0) (fun x => { x with state := 0 }) (fun _ _ => rfl) (fun _ => rfl)
      have N1 := Lib.hid (And.intro q1.1 (N0.out.2.trans q1.2))
      clear q1
      go_upto_region 10 with fail
      obtain ⟨v1, hv1⟩ : ∃ X, Hid (X = v0.setCell ⟨go, t * 32 + 8, none⟩ (.int .i64 0)) := ⟨_, Lib.hid rfl⟩
      rw [← hv1.out] at N1 ⊢
      clear c1 e f hv1
      obtain ⟨co, c1⟩ := N1.out.1.cObjs
      obtain ⟨v, e, f⟩ := N1.out.1.fld (j := 12) ht (by omega)
      have q1 := N1.out.1.setF1 ht (j := 12) (by omega) (.int .i64 (-1)) (fun x => { x with on := -1 }) (fun _ _ => rfl) (fun _ => rfl)
      have N2 := Lib.hid (And.intro q1.1 (N1.out.2.trans q1.2))
      clear q1
      go_wp2_with fail
      go_end0
      refine ⟨rfl, HSC.out _ ?_ _ N2.out.1, N2.out.2⟩
      rw [cancelS, HX.out.1, HX.out.2.1, HX.out.2.2, if_pos rfl, if_neg (by omega)]
      exact RSt.ext' rfl rfl rfl (fun i => by
        simp only [stopS, owingS, owesS, upO_at]
        by_cases e : i = (t : Int) <;> by_cases e2 : i = ow' <;> by_cases e3 : ow' = (t : Int) <;> simp_all) rfl rfl
  · have e4 : (st == 4) = false := by simpa using h4
    by_cases hn0 : 0 ≤ on'
    · skip
      obtain ⟨o, rfl⟩ : ∃ o : Nat, on' = o := ⟨on'.toNat, by omega⟩
      have ho : o < 32 := by have := HOW.out.2; omega
      have hoi : (o : Int) < 32 := by omega
      have ho0 : (0 : Int) ≤ (o : Int) := by omega
      obtain ⟨Ar, cpr, ch, hRw, -⟩ := HB.out.1.cQueue ho
      obtain ⟨l, hl⟩ : ∃ l, Hid ((S.ob (o : Int)).queue = l) := ⟨_, Lib.hid rfl⟩
      have HLN := Lib.hid (hQL (o : Int))
      rw [hl.out] at ch hRw HLN
      have hlp := HB.out.1.ltP
      have hlo := HB.out.1.ltO
      obtain ⟨v6, -, fh⟩ := HB.out.1.fld (j := 6) ho (by omega)
      have HRow := Lib.hid fun (W : World) (q : Only [] w1 W) => hRw.only q (fun _ _ _ => by simp)
      have HS := Lib.hid fun (W : World) (q : Only [] w1 W) => And.intro ((q.cell (p := ⟨p, 1, none⟩) hlp (by simp)).trans c1) (And.intro ((q.cell (p := ⟨D, 12, none⟩) dz (by simp)).trans f12) ((q.cell (p := ⟨go, o * 32 + 6, none⟩) hlo (by simp)).trans ch))
      have HK := Lib.hid fun (W : World) (q : Only [] w1 W) => And.intro ((q.cell (p := ⟨p, 1, none⟩) hlp (by simp)).trans c1) (And.intro ((q.cell (p := ⟨go, o * 32 + 6, none⟩) hlo (by simp)).trans ch) ((q.frozen (p := ⟨go, o * 32 + 6, none⟩) hlo (by simp)).trans fh))
      have HNE := Lib.hid hne
      clear hQL hRw
      go_upto_region 6 with fail
      clear c1 ch fh
      go_cut [] (fun W => RefM W p gs go (queueS S o (l.erase (t : Int))) ∧ Only [go] w W ∧ Blk W D ObT row.toArray)
      case first =>
        refine wp_region_last (S := fun W => W.cell? ⟨p, 1, none⟩ = some (.slice (some ⟨go, 0, none⟩) 32 co) ∧ W.cell? ⟨D, 12, none⟩ = some (.int .i64 (o : Int)) ∧ W.cell? ⟨go, o * 32 + 6, none⟩ = some (.slice Ar l.length cpr)) 19 (by kernel_rfl) rfl (by kernel_rfl) (by kernel_rfl) (HS.out _ ((Only.refl [] w1).drewN 1)) (fun hHeld => ?_)
        refine wpAnyH_take (i := 0) (v := ?_) rfl (by kernel_rfl) (by kernel_rfl) (by kernel_rfl) (fun _ _ _ h => h) (Or.inl ⟨by rfl, ?_⟩) (by assumption) ?_
        rotate_left
        · intro w hSw
          try dsimp only at hSw
          go_simp
          all_goals with_reducible rfl
        simp only [Act.put, List.setIfInBounds_toArray, List.set_cons_zero, List.set_cons_succ]
        refine wpAnyH_take (i := 1) (v := ?_) rfl (by kernel_rfl) (by kernel_rfl) (by kernel_rfl) (fun _ _ _ h => h) (Or.inl ⟨by rfl, ?_⟩) (by assumption) ?_
        rotate_left
        · intro w hSw
          try dsimp only at hSw
          go_simp
          all_goals with_reducible rfl
        simp only [Act.put, List.setIfInBounds_toArray, List.set_cons_zero, List.set_cons_succ]
        refine wpAnyH_take (i := 2) (v := ?_) rfl (by kernel_rfl) (by kernel_rfl) (by kernel_rfl) (fun _ _ _ h => h) (Or.inl ⟨by rfl, ?_⟩) (by assumption) ?_
        rotate_left
        · intro w hSw
          try dsimp only at hSw
          go_simp
          all_goals with_reducible rfl
        simp only [Act.put, List.setIfInBounds_toArray, List.set_cons_zero, List.set_cons_succ]
        refine wpAnyH_take (i := 3) (v := ?_) rfl (by kernel_rfl) (by kernel_rfl) (by kernel_rfl) (fun _ _ _ h => h) (Or.inl ⟨by rfl, ?_⟩) (by assumption) ?_
        rotate_left
        · intro w hSw
          try dsimp only at hSw
          go_simp
          all_goals with_reducible rfl
        simp only [Act.put, List.setIfInBounds_toArray, List.set_cons_zero, List.set_cons_succ]
        refine wpAnyH_take (i := 4) (v := ?_) rfl (by kernel_rfl) (by kernel_rfl) (by kernel_rfl) (fun _ _ _ h => h) (Or.inl ⟨by rfl, ?_⟩) (by assumption) ?_
        rotate_left
        · intro w hSw
          try dsimp only at hSw
          go_simp
          all_goals with_reducible rfl
        simp only [Act.put, List.setIfInBounds_toArray, List.set_cons_zero, List.set_cons_succ]
        refine wpAnyH_take (i := 5) (v := ?_) rfl (by kernel_rfl) (by kernel_rfl) (by kernel_rfl) (fun _ _ _ h => h) (Or.inl ⟨by rfl, ?_⟩) (by assumption) ?_
        rotate_left
        · intro w hSw
          try dsimp only at hSw
          go_simp
          all_goals with_reducible rfl
        simp only [Act.put, List.setIfInBounds_toArray, List.set_cons_zero, List.set_cons_succ]
        refine wpAnyH_take (i := 6) (v := ?_) rfl (by kernel_rfl) (by kernel_rfl) (by kernel_rfl) (fun _ _ _ h => h) (Or.inl ⟨by rfl, ?_⟩) (by assumption) ?_
        rotate_left
        · intro w hSw
          try dsimp only at hSw
          go_simp
          all_goals with_reducible rfl
        simp only [Act.put, List.setIfInBounds_toArray, List.set_cons_zero, List.set_cons_succ]
        refine wpAnyH_take (i := 7) (v := ?_) rfl (by kernel_rfl) (by kernel_rfl) (by kernel_rfl) (fun _ _ _ h => h) (Or.inl ⟨by rfl, ?_⟩) (by assumption) ?_
        rotate_left
        · intro w hSw
          try dsimp only at hSw
          go_simp
          all_goals with_reducible rfl
        simp only [Act.put, List.setIfInBounds_toArray, List.set_cons_zero, List.set_cons_succ]
        refine wpAnyH_take (i := 8) (v := ?_) rfl (by kernel_rfl) (by kernel_rfl) (by kernel_rfl) (fun _ _ _ h => h) (Or.inl ⟨by rfl, ?_⟩) (by assumption) ?_
        rotate_left
        · intro w hSw
          try dsimp only at hSw
          go_simp
          all_goals with_reducible rfl
        simp only [Act.put, List.setIfInBounds_toArray, List.set_cons_zero, List.set_cons_succ]
        refine wpAnyH_take (i := 9) (v := ?_) rfl (by kernel_rfl) (by kernel_rfl) (by kernel_rfl) (fun _ _ _ h => h) (Or.inl ⟨by rfl, ?_⟩) (by assumption) ?_
        rotate_left
        · intro w hSw
          try dsimp only at hSw
          go_simp
          all_goals with_reducible rfl
        simp only [Act.put, List.setIfInBounds_toArray, List.set_cons_zero, List.set_cons_succ]
        refine wpAnyH_take (i := 10) (v := ?_) rfl (by kernel_rfl) (by kernel_rfl) (by kernel_rfl) (fun _ _ _ h => h) (Or.inl ⟨by rfl, ?_⟩) (by assumption) ?_
        rotate_left
        · intro w hSw
          try dsimp only at hSw
          go_simp
          all_goals with_reducible rfl
        simp only [Act.put, List.setIfInBounds_toArray, List.set_cons_zero, List.set_cons_succ]
        refine wpAnyH_take (i := 11) (v := ?_) rfl (by kernel_rfl) (by kernel_rfl) (by kernel_rfl) (fun _ _ _ h => h) (Or.inl ⟨by rfl, ?_⟩) (by assumption) ?_
        rotate_left
        · intro w hSw
          try dsimp only at hSw
          go_simp
          all_goals with_reducible rfl
        simp only [Act.put, List.setIfInBounds_toArray, List.set_cons_zero, List.set_cons_succ]
        refine wpAnyH_take (i := 12) (v := ?_) rfl (by kernel_rfl) (by kernel_rfl) (by kernel_rfl) (fun _ _ _ h => h) (Or.inl ⟨by rfl, ?_⟩) (by assumption) ?_
        rotate_left
        · intro w hSw
          try dsimp only at hSw
          go_simp
          all_goals with_reducible rfl
        simp only [Act.put, List.setIfInBounds_toArray, List.set_cons_zero, List.set_cons_succ]
        refine wpAnyH_take (i := 13) (v := ?_) rfl (by kernel_rfl) (by kernel_rfl) (by kernel_rfl) (fun _ _ _ h => h) (Or.inl ⟨by rfl, ?_⟩) (by assumption) ?_
        rotate_left
        · intro w hSw
          try dsimp only at hSw
          go_simp
          all_goals with_reducible rfl
        simp only [Act.put, List.setIfInBounds_toArray, List.set_cons_zero, List.set_cons_succ]
        refine wpAnyH_take (i := 14) (v := ?_) rfl (by kernel_rfl) (by kernel_rfl) (by kernel_rfl) (fun _ _ _ h => h) (Or.inl ⟨by rfl, ?_⟩) (by assumption) ?_
        rotate_left
        · intro w hSw
          try dsimp only at hSw
          go_simp
          all_goals with_reducible rfl
        simp only [Act.put, List.setIfInBounds_toArray, List.set_cons_zero, List.set_cons_succ]
        refine wpAnyH_take (i := 15) (v := ?_) rfl (by kernel_rfl) (by kernel_rfl) (by kernel_rfl) (fun _ _ _ h => h) (Or.inl ⟨by rfl, ?_⟩) (by assumption) ?_
        rotate_left
        · intro w hSw
          try dsimp only at hSw
          go_simp
          all_goals with_reducible rfl
        simp only [Act.put, List.setIfInBounds_toArray, List.set_cons_zero, List.set_cons_succ]
        refine wpAnyH_ready (rs := [16]) (by kernel_rfl) (by simp) ?_
        refine AllReadyH.cons rfl (fun K1 hK1 => ?_) AllReadyH.nil
        · go_simp
          have oy : Only [] w1 w1.drew := (Only.refl [] w1).drewN 1
          have cW := withoutC_any cpr (t : Int) (HRow.out _ oy) (by have := HLN.out; omega)
          (with_reducible refine cW.mono ?_)
          clear cW
          rintro e w3 ⟨v3, rfl, hv3, ho3⟩
          replace ho3 := oy.trans ho3
          have hn3 := hv3
          obtain ⟨A3, cp3, rfl, -, -⟩ := hv3
          refine hK1.out _ _ (HS.out _ ho3) (fun hHeld1 => ?_)
          clear hK1
          clear K1
          try simp only [Act.put, List.setIfInBounds_toArray, List.set_cons_zero, List.set_cons_succ]
          refine wpAnyH_take (i := 17) (v := ?_) rfl (by kernel_rfl) (by kernel_rfl) (by kernel_rfl) (fun _ _ _ h => h) (Or.inl ⟨by rfl, ?_⟩) (by assumption) ?_
          rotate_left
          · intro w hSw
            try dsimp only at hSw
            go_simp
            all_goals with_reducible rfl
          simp only [Act.put, List.setIfInBounds_toArray, List.set_cons_zero, List.set_cons_succ]
          refine wpAnyH_take (i := 18) (v := ?_) rfl (by kernel_rfl) (by kernel_rfl) (by kernel_rfl) (fun _ _ _ h => h) (Or.inl ⟨by rfl, ?_⟩) (by assumption) ?_
          rotate_left
          · intro w hSw
            try dsimp only at hSw
            go_simp
            all_goals with_reducible rfl
          simp only [Act.put, List.setIfInBounds_toArray, List.set_cons_zero, List.set_cons_succ]
          refine wpAnyH_done (by kernel_rfl) (lastQ_intro rfl rfl ?_) _
          try simp only [List.getElem_toArray, List.getElem_cons_succ, List.getElem_cons_zero]
          have hq := (HB.out.1.only0 ho3).setQ ho (v := .slice A3 (l.erase (t : Int)).length cp3) (l := l.erase (t : Int)) hn3
          have hbq := keepO' HB.out.2.2 HNE.out (ho3.trans0 hq.2)
          have HE := Lib.hid (And.intro hq.1 (And.intro (HB.out.2.1.trans (ho3.trans0 hq.2)) hbq))
          obtain ⟨-, kq, kf⟩ := HK.out _ ho3
          clear hq hbq hn3
          go_simp
          go_step
          go_meet
          exact HE.out
      case rest =>
        obtain ⟨hr, hon, hbD⟩ := hcut
        have hsz0 := hbD.lt
        have g12 : wc.cell? ⟨D, 12, none⟩ = some (.int .i64 (o : Int)) := by rw [hbD.cell]; exact He12.out
        obtain ⟨co, c1⟩ := hr.cObjs
        obtain ⟨A9, cp9, hc9, -⟩ := hr.obj ho
        obtain ⟨kd, hkd⟩ : ∃ kd, (S.ob (o : Int)).kind = kd := ⟨_, rfl⟩
        have c0 : wc.cell? ⟨go, o * 32, none⟩ = some (.int .i64 kd) := hkd ▸ ((hc9 0 _ rfl).trans (by rw [queueS_kind]))
        have H0 := Lib.hid (And.intro hr hon)
        clear hr hon hbD hc9
        go_upto_region 7 with fail
        go_quiet (fail)
        have hd1 : Only [go] wc (wc.drewN nq) := (Only.refl [go] _).drewN nq
        have H1 := Lib.hid (And.intro (H0.out.1.drewN nq) (H0.out.2.trans hd1))
        clear hd1 H0 c1 c0
        obtain ⟨w2, hw2⟩ : ∃ X, Hid (X = wc.drewN nq) := ⟨_, Lib.hid rfl⟩
        have g12' : (wc.drewN nq).cell? ⟨D, 12, none⟩ = some (.int .i64 (o : Int)) := by simpa using g12
        rw [← hw2.out] at H1 g12' ⊢
        clear g12 hw2
        by_cases h3 : kd = 3
        · have cR := rrest_any H1.out.1 ho
          clear hsz0
          subst h3
          go_wp2_with fail
          (with_reducible refine cR.mono ?_)
          clear cR g12'
          rintro e w5 ⟨rfl, hr5, ho5⟩
          have H5 := Lib.hid (And.intro hr5 (H1.out.2.trans ho5))
          clear hr5 ho5 H1
          go_upto_region 9 with fail
          obtain ⟨co, c1⟩ := H5.out.1.cObjs
          obtain ⟨v, e, f⟩ := H5.out.1.fld (j := 8) ht (by omega)
          have q1 := H5.out.1.setF1 ht (j := 8) (by omega) (.int .i64 0) (fun x => { x with state := 0 }) (fun _ _ => rfl) (fun _ => rfl)
          have N0 := Lib.hid (And.intro q1.1 (H5.out.2.trans q1.2))
          clear q1
          go_upto_region 10 with fail
          obtain ⟨v0, hv0⟩ : ∃ X, Hid (X = w5.setCell ⟨go, t * 32 + 8, none⟩ (.int .i64 0)) := ⟨_, Lib.hid rfl⟩
          rw [← hv0.out] at N0 ⊢
          clear c1 e f hv0
          obtain ⟨co, c1⟩ := N0.out.1.cObjs
          obtain ⟨v, e, f⟩ := N0.out.1.fld (j := 12) ht (by omega)
          have q1 := N0.out.1.setF1 ht (j := 12) (by omega) (.int .i64 (-1)) (fun x => { x with on := -1 }) (fun _ _ => rfl) (fun _ => rfl)
          have N1 := Lib.hid (And.intro q1.1 (N0.out.2.trans q1.2))
          clear q1
          go_wp2_with fail
          go_end0
          refine ⟨rfl, HSC.out _ ?_ _ N1.out.1, N1.out.2⟩
          rw [cancelS, HX.out.1, HX.out.2.1, HX.out.2.2, if_neg h4, if_pos ho0, outS, hl.out, hkd, if_pos rfl]
          exact RSt.ext' rfl rfl rfl (fun i => by
            simp only [stopS, upO_at]
            by_cases e : i = (t : Int) <;> simp [e]) rfl rfl
        · have h3' : (kd == 3) = false := by simpa using h3
          clear g12'
          go_upto_region 9 with fail
          obtain ⟨co, c1⟩ := H1.out.1.cObjs
          obtain ⟨v, e, f⟩ := H1.out.1.fld (j := 8) ht (by omega)
          have q1 := H1.out.1.setF1 ht (j := 8) (by omega) (.int .i64 0) (fun x => { x with state := 0 }) (fun _ _ => rfl) (fun _ => rfl)
          have N0 := Lib.hid (And.intro q1.1 (H1.out.2.trans q1.2))
          clear q1
          go_upto_region 10 with fail
          obtain ⟨v0, hv0⟩ : ∃ X, Hid (X = w2.setCell ⟨go, t * 32 + 8, none⟩ (.int .i64 0)) := ⟨_, Lib.hid rfl⟩
          rw [← hv0.out] at N0 ⊢
          clear c1 e f hv0
          obtain ⟨co, c1⟩ := N0.out.1.cObjs
          obtain ⟨v, e, f⟩ := N0.out.1.fld (j := 12) ht (by omega)
          have q1 := N0.out.1.setF1 ht (j := 12) (by omega) (.int .i64 (-1)) (fun x => { x with on := -1 }) (fun _ _ => rfl) (fun _ => rfl)
          have N1 := Lib.hid (And.intro q1.1 (N0.out.2.trans q1.2))
          clear q1
          go_wp2_with fail
          go_end0
          refine ⟨rfl, HSC.out _ ?_ _ N1.out.1, N1.out.2⟩
          rw [cancelS, HX.out.1, HX.out.2.1, HX.out.2.2, if_neg h4, if_pos ho0, outS, hl.out, hkd, if_neg h3]
          exact RSt.ext' rfl rfl rfl (fun i => by
            simp only [stopS, upO_at]
            by_cases e : i = (t : Int) <;> simp [e]) rfl rfl
    · skip
      have H1 := Lib.hid (And.intro HB.out.1 HB.out.2.1)
      clear c1
      go_upto_region 9 with fail
      obtain ⟨co, c1⟩ := H1.out.1.cObjs
      obtain ⟨v, e, f⟩ := H1.out.1.fld (j := 8) ht (by omega)
      have q1 := H1.out.1.setF1 ht (j := 8) (by omega) (.int .i64 0) (fun x => { x with state := 0 }) (fun _ _ => rfl) (fun _ => rfl)
      have N0 := Lib.hid (And.intro q1.1 (H1.out.2.trans q1.2))
      clear q1
      go_upto_region 10 with fail
      obtain ⟨v0, hv0⟩ : ∃ X, Hid (X = w1.setCell ⟨go, t * 32 + 8, none⟩ (.int .i64 0)) := ⟨_, Lib.hid rfl⟩
      rw [← hv0.out] at N0 ⊢
      clear c1 e f hv0
      obtain ⟨co, c1⟩ := N0.out.1.cObjs
      obtain ⟨v, e, f⟩ := N0.out.1.fld (j := 12) ht (by omega)
      have q1 := N0.out.1.setF1 ht (j := 12) (by omega) (.int .i64 (-1)) (fun x => { x with on := -1 }) (fun _ _ => rfl) (fun _ => rfl)
      have N1 := Lib.hid (And.intro q1.1 (N0.out.2.trans q1.2))
      clear q1
      go_wp2_with fail
      go_end0
      refine ⟨rfl, HSC.out _ ?_ _ N1.out.1, N1.out.2⟩
      rw [cancelS, HX.out.1, HX.out.2.1, HX.out.2.2, if_neg h4, if_neg (by omega)]
      exact RSt.ext' rfl rfl rfl (fun i => by
        simp only [stopS, owingS, owesS, upO_at]
        by_cases e : i = (t : Int) <;> by_cases e2 : i = ow' <;> by_cases e3 : ow' = (t : Int) <;> simp_all) rfl rfl
end
end Go.Proofs.Ytdkjfalhalepgaa
