/- What the document's pop answers, and does (layers 15 to 22). -/
import Derived.Test.YtdkjfalhalepgaaRefBlock
import Derived.Test.YtdkjfalhalepgaaQueApp
namespace Go.Proofs.Ytdkjfalhalepgaa
open Go.RowKit
section
variable {w w' : World} {p gs go : Nat} {S : RSt}
theorem numsC_of {base : Nat} {v : Value} {L : List Int} (h : w.ownsRow base ItT 1 v L.length (L.flatMap irow')) : NumsC w ItT v L := by
  obtain ⟨A, cp, rfl, hR⟩ := RowN.of_owns irow'_len h
  exact ⟨A, cp, rfl, hR, (own_cap h).1⟩
set_option maxRecDepth 100000 in
set_option maxHeartbeats 4000000 in
theorem rpop_is (h : RefM w p gs go S) {o : Nat} (ho : o < 32) {x : Int} {tl : List Int} (hq : (S.ob o).queue = x :: tl) (hql : tl.length ≤ 900) :
    Calls Try.prog 54 #[.pointer (some ⟨p, 0, none⟩), .int .i64 o] w fun e w' => e = .returned (.int .i64 x) ∧ RefM w' p gs go (popS S o) ∧ Only [go] w w' := by
  have h0 : (0 : Int) ≤ (o : Int) := by omega
  have h1 : (o : Int) < 32 := by omega
  have e0 : popS S o = queueS S o tl := by
    have e : tl = (S.ob (o : Int)).queue.tail := by rw [hq]; rfl
    rw [e]
    rfl
  rw [e0]
  obtain ⟨co, c1⟩ := h.cObjs
  obtain ⟨Ar, cpr, ch, hR, hcp⟩ := h.cQueue ho
  obtain ⟨v6, -, fh⟩ := h.fld (j := 6) ho (by omega)
  rw [hq] at ch hR hcp
  obtain ⟨gA, rfl, hgA, k0⟩ := rowN_cell (k := 0) (x := x) hR rfl
  rw [show (x :: tl).length = tl.length + 1 from rfl] at ch hcp
  have hlp := h.ltP
  have hlo := h.ltO
  obtain ⟨iI, hi0, hi1, hi2, hi3⟩ := info_parts infoIt
  have HW := Lib.hid (World.ownsRow_lit (base := w.heap.size) (e := ItT) (size := 1) w.drew #[] 0 (Nat.le_refl _) (by unfold maxLen; omega) rfl)
  have HO : Hid (Only [] w (w.drew.alloc (.cells #[] ItT))) := Lib.hid (((Only.refl [] w).drewN 1).alloc (.cells #[] ItT))
  have HL : Hid (∀ (j : Nat) (y : Int), tl[j]? = some y → (w.drew.alloc (.cells #[] ItT)).cell? ((⟨gA, 1, none⟩ : Addr).add j) = some (.int .i64 y)) := Lib.hid fun j y hy => by
    obtain ⟨gB, e, hgB, hc⟩ := rowN_cell (k := j + 1) (x := y) hR hy
    injection e with e
    injection e with e
    subst e
    rw [addr_plus, HO.out.cell (p := ⟨gA, 1 + j, none⟩) hgA (by simp), Nat.add_comm 1 j]
    exact hc
  have HK := Lib.hid fun (W : World) (q : Only [] w W) => And.intro ((q.cell (p := ⟨p, 1, none⟩) hlp (by simp)).trans c1) (And.intro ((q.cell (p := ⟨go, o * 32 + 6, none⟩) hlo (by simp)).trans ch) ((q.frozen (p := ⟨go, o * 32 + 6, none⟩) hlo (by simp)).trans fh))
  have HS := Lib.hid fun (W : World) (q : Only [] w W) => And.intro (HK.out W q).1 (HK.out W q).2.1
  have HM := Lib.hid h
  have hz : (cpr = 1 ∧ tl = []) ∨ ¬ cpr = 1 := by
    by_cases e : cpr = 1
    · exact .inl ⟨e, List.eq_nil_of_length_eq_zero (by omega)⟩
    · exact .inr e
  clear hR h hq e0
  go_enter Try.func54, Try.ntmps54
  go_upto_region 4 with fail
  clear c1 ch fh k0
  have hle : (1 : Int) ≤ (tl.length : Int) + 1 := by omega
  go_cut [] (fun W => RefM W p gs go (queueS S o tl) ∧ Only [go] w W)
  case first =>
    rcases hz with ⟨rfl, htl⟩ | hz
    · skip
      have HT := Lib.hid htl
      clear htl
      refine wp_region_last (S := fun W => W.cell? ⟨p, 1, none⟩ = some (.slice (some ⟨go, 0, none⟩) 32 co) ∧ W.cell? ⟨go, o * 32 + 6, none⟩ = some (.slice (some ⟨gA, 0, none⟩) (tl.length + 1) 1)) 18 (by kernel_rfl) rfl (by kernel_rfl) (by kernel_rfl) (HS.out _ ((Only.refl [] w).drewN 1)) (fun hHeld => ?_)
      refine wpAnyH_take (i := 0) (v := ?_) rfl (by kernel_rfl) (by kernel_rfl) (by kernel_rfl) (fun _ _ _ h => h) (Or.inl ⟨by rfl, ?_⟩) (by assumption) ?_
      rotate_left
      · intro w hSw
        try dsimp only at hSw
        go_simp
        all_goals with_reducible rfl
      simp only [Act.put, List.setIfInBounds_toArray, List.set_cons_zero, List.set_cons_succ]
      refine wpAnyH_take (i := 1) (v := ?_) rfl (by kernel_rfl) (by kernel_rfl) (by kernel_rfl) (fun _ _ _ h => h) (Or.inl ⟨by rfl, ?_⟩) (by assumption) ?_
      rotate_left
      · intro w hSw
        try dsimp only at hSw
        go_simp
        all_goals with_reducible rfl
      simp only [Act.put, List.setIfInBounds_toArray, List.set_cons_zero, List.set_cons_succ]
      refine wpAnyH_take (i := 2) (v := ?_) rfl (by kernel_rfl) (by kernel_rfl) (by kernel_rfl) (fun _ _ _ h => h) (Or.inl ⟨by rfl, ?_⟩) (by assumption) ?_
      rotate_left
      · intro w hSw
        try dsimp only at hSw
        go_simp
        all_goals with_reducible rfl
      simp only [Act.put, List.setIfInBounds_toArray, List.set_cons_zero, List.set_cons_succ]
      refine wpAnyH_take (i := 3) (v := ?_) rfl (by kernel_rfl) (by kernel_rfl) (by kernel_rfl) (fun _ _ _ h => h) (Or.inl ⟨by rfl, ?_⟩) (by assumption) ?_
      rotate_left
      · intro w hSw
        try dsimp only at hSw
        go_simp
        all_goals with_reducible rfl
      simp only [Act.put, List.setIfInBounds_toArray, List.set_cons_zero, List.set_cons_succ]
      refine wpAnyH_take (i := 4) (v := ?_) rfl (by kernel_rfl) (by kernel_rfl) (by kernel_rfl) (fun _ _ _ h => h) (Or.inl ⟨by rfl, ?_⟩) (by assumption) ?_
      rotate_left
      · intro w hSw
        try dsimp only at hSw
        go_simp
        all_goals with_reducible rfl
      simp only [Act.put, List.setIfInBounds_toArray, List.set_cons_zero, List.set_cons_succ]
      refine wpAnyH_take (i := 6) (v := ?_) rfl (by kernel_rfl) (by kernel_rfl) (by kernel_rfl) (fun _ _ _ h => h) (Or.inl ⟨by rfl, ?_⟩) (by assumption) ?_
      rotate_left
      · intro w hSw
        try dsimp only at hSw
        go_simp
        all_goals with_reducible rfl
      simp only [Act.put, List.setIfInBounds_toArray, List.set_cons_zero, List.set_cons_succ]
      refine wpAnyH_take (i := 7) (v := ?_) rfl (by kernel_rfl) (by kernel_rfl) (by kernel_rfl) (fun _ _ _ h => h) (Or.inl ⟨by rfl, ?_⟩) (by assumption) ?_
      rotate_left
      · intro w hSw
        try dsimp only at hSw
        go_simp
        all_goals with_reducible rfl
      simp only [Act.put, List.setIfInBounds_toArray, List.set_cons_zero, List.set_cons_succ]
      refine wpAnyH_take (i := 8) (v := ?_) rfl (by kernel_rfl) (by kernel_rfl) (by kernel_rfl) (fun _ _ _ h => h) (Or.inl ⟨by rfl, ?_⟩) (by assumption) ?_
      rotate_left
      · intro w hSw
        try dsimp only at hSw
        go_simp
        all_goals with_reducible rfl
      simp only [Act.put, List.setIfInBounds_toArray, List.set_cons_zero, List.set_cons_succ]
      refine wpAnyH_take (i := 9) (v := ?_) rfl (by kernel_rfl) (by kernel_rfl) (by kernel_rfl) (fun _ _ _ h => h) (Or.inl ⟨by rfl, ?_⟩) (by assumption) ?_
      rotate_left
      · intro w hSw
        try dsimp only at hSw
        go_simp
        all_goals with_reducible rfl
      simp only [Act.put, List.setIfInBounds_toArray, List.set_cons_zero, List.set_cons_succ]
      refine wpAnyH_take (i := 10) (v := ?_) rfl (by kernel_rfl) (by kernel_rfl) (by kernel_rfl) (fun _ _ _ h => h) (Or.inl ⟨by rfl, ?_⟩) (by assumption) ?_
      rotate_left
      · intro w hSw
        try dsimp only at hSw
        go_simp
        all_goals with_reducible rfl
      simp only [Act.put, List.setIfInBounds_toArray, List.set_cons_zero, List.set_cons_succ]
      refine wpAnyH_take (i := 11) (v := ?_) rfl (by kernel_rfl) (by kernel_rfl) (by kernel_rfl) (fun _ _ _ h => h) (Or.inl ⟨by rfl, ?_⟩) (by assumption) ?_
      rotate_left
      · intro w hSw
        try dsimp only at hSw
        go_simp
        all_goals with_reducible rfl
      simp only [Act.put, List.setIfInBounds_toArray, List.set_cons_zero, List.set_cons_succ]
      refine wpAnyH_take (i := 12) (v := ?_) rfl (by kernel_rfl) (by kernel_rfl) (by kernel_rfl) (fun _ _ _ h => h) (Or.inl ⟨by rfl, ?_⟩) (by assumption) ?_
      rotate_left
      · intro w hSw
        try dsimp only at hSw
        go_simp
        all_goals with_reducible rfl
      simp only [Act.put, List.setIfInBounds_toArray, List.set_cons_zero, List.set_cons_succ]
      refine wpAnyH_take (i := 13) (v := ?_) rfl (by kernel_rfl) (by kernel_rfl) (by kernel_rfl) (fun _ _ _ h => h) (Or.inl ⟨by rfl, ?_⟩) (by assumption) ?_
      rotate_left
      · intro w hSw
        try dsimp only at hSw
        go_simp
        all_goals with_reducible rfl
      simp only [Act.put, List.setIfInBounds_toArray, List.set_cons_zero, List.set_cons_succ]
      refine wpAnyH_take (i := 14) (v := ?_) rfl (by kernel_rfl) (by kernel_rfl) (by kernel_rfl) (fun _ _ _ h => h) (Or.inl ⟨by rfl, ?_⟩) (by assumption) ?_
      rotate_left
      · intro w hSw
        try dsimp only at hSw
        go_simp
        all_goals with_reducible rfl
      simp only [Act.put, List.setIfInBounds_toArray, List.set_cons_zero, List.set_cons_succ]
      refine wpAnyH_ready (rs := [5]) (by kernel_rfl) (by simp) ?_
      refine AllReadyH.cons rfl (fun K1 hK1 => ?_) AllReadyH.nil
      · go_simp
        refine hK1.out _ _ (HS.out _ HO.out) (fun hHeld1 => ?_)
        clear hK1
        clear K1
        refine wpAnyH_ready (rs := [15]) (by kernel_rfl) (by simp) ?_
        refine AllReadyH.cons rfl (fun K2 hK2 => ?_) AllReadyH.nil
        · refine step_append_at _ (by rfl) _ _ _ (by rfl) w.heap.size ItT iI (.int .i64 0) Try.underlying58 hi0 hi1 hi2 hi3 rfl w.heap.size 0 [] (by rfl) HW.out ⟨gA, 0, none⟩ ([] : List Int) 0 (by rfl) (fun j y hy => by simp at hy) (by first | omega | simp) (by omega) (by simp) ?_
          intro v7 w7 hrow7 hgrow7
          have ho7 := only_grows HO.out hgrow7 (fun j hj => by injection hj with hj; omega)
          rw [Nat.zero_add, List.nil_append] at hrow7
          replace hrow7 : w7.ownsRow w.heap.size ItT 1 v7 tl.length (tl.flatMap irow') := by rw [HT.out]; exact hrow7
          have hn7 := numsC_of hrow7
          obtain ⟨A7, cp7, rfl, -⟩ := hn7
          have hn7 := numsC_of hrow7
          refine hK2.out _ _ (HS.out _ ho7) (fun hHeld2 => ?_)
          clear hK2
          clear K2
          simp only [Act.put, List.setIfInBounds_toArray, List.set_cons_zero, List.set_cons_succ]
          refine wpAnyH_take (i := 16) (v := ?_) rfl (by kernel_rfl) (by kernel_rfl) (by kernel_rfl) (fun _ _ _ h => h) (Or.inl ⟨by rfl, ?_⟩) (by assumption) ?_
          rotate_left
          · intro w hSw
            try dsimp only at hSw
            go_simp
            all_goals with_reducible rfl
          simp only [Act.put, List.setIfInBounds_toArray, List.set_cons_zero, List.set_cons_succ]
          refine wpAnyH_take (i := 17) (v := ?_) rfl (by kernel_rfl) (by kernel_rfl) (by kernel_rfl) (fun _ _ _ h => h) (Or.inl ⟨by rfl, ?_⟩) (by assumption) ?_
          rotate_left
          · intro w hSw
            try dsimp only at hSw
            go_simp
            all_goals with_reducible rfl
          simp only [Act.put, List.setIfInBounds_toArray, List.set_cons_zero, List.set_cons_succ]
          refine wpAnyH_done (by kernel_rfl) (lastQ_intro rfl rfl ?_) _
          simp only [List.getElem_toArray, List.getElem_cons_succ, List.getElem_cons_zero]
          have hq := (HM.out.only0 ho7).setQ ho (v := .slice A7 (tl).length cp7) (l := tl) hn7
          have kc := HK.out _ ho7
          have HE := Lib.hid (And.intro hq.1 (ho7.trans0 hq.2))
          have kq := kc.2.1
          have kf := kc.2.2
          clear hrow7 hgrow7 hq ho7 kc hn7
          go_simp
          go_step
          go_meet
          exact HE.out
    · skip
      refine wp_region_last (S := fun W => W.cell? ⟨p, 1, none⟩ = some (.slice (some ⟨go, 0, none⟩) 32 co) ∧ W.cell? ⟨go, o * 32 + 6, none⟩ = some (.slice (some ⟨gA, 0, none⟩) (tl.length + 1) cpr)) 18 (by kernel_rfl) rfl (by kernel_rfl) (by kernel_rfl) (HS.out _ ((Only.refl [] w).drewN 1)) (fun hHeld => ?_)
      refine wpAnyH_take (i := 0) (v := ?_) rfl (by kernel_rfl) (by kernel_rfl) (by kernel_rfl) (fun _ _ _ h => h) (Or.inl ⟨by rfl, ?_⟩) (by assumption) ?_
      rotate_left
      · intro w hSw
        try dsimp only at hSw
        go_simp
        all_goals with_reducible rfl
      simp only [Act.put, List.setIfInBounds_toArray, List.set_cons_zero, List.set_cons_succ]
      refine wpAnyH_take (i := 1) (v := ?_) rfl (by kernel_rfl) (by kernel_rfl) (by kernel_rfl) (fun _ _ _ h => h) (Or.inl ⟨by rfl, ?_⟩) (by assumption) ?_
      rotate_left
      · intro w hSw
        try dsimp only at hSw
        go_simp
        all_goals with_reducible rfl
      simp only [Act.put, List.setIfInBounds_toArray, List.set_cons_zero, List.set_cons_succ]
      refine wpAnyH_take (i := 2) (v := ?_) rfl (by kernel_rfl) (by kernel_rfl) (by kernel_rfl) (fun _ _ _ h => h) (Or.inl ⟨by rfl, ?_⟩) (by assumption) ?_
      rotate_left
      · intro w hSw
        try dsimp only at hSw
        go_simp
        all_goals with_reducible rfl
      simp only [Act.put, List.setIfInBounds_toArray, List.set_cons_zero, List.set_cons_succ]
      refine wpAnyH_take (i := 3) (v := ?_) rfl (by kernel_rfl) (by kernel_rfl) (by kernel_rfl) (fun _ _ _ h => h) (Or.inl ⟨by rfl, ?_⟩) (by assumption) ?_
      rotate_left
      · intro w hSw
        try dsimp only at hSw
        go_simp
        all_goals with_reducible rfl
      simp only [Act.put, List.setIfInBounds_toArray, List.set_cons_zero, List.set_cons_succ]
      refine wpAnyH_take (i := 4) (v := ?_) rfl (by kernel_rfl) (by kernel_rfl) (by kernel_rfl) (fun _ _ _ h => h) (Or.inl ⟨by rfl, ?_⟩) (by assumption) ?_
      rotate_left
      · intro w hSw
        try dsimp only at hSw
        go_simp
        all_goals with_reducible rfl
      simp only [Act.put, List.setIfInBounds_toArray, List.set_cons_zero, List.set_cons_succ]
      refine wpAnyH_take (i := 6) (v := ?_) rfl (by kernel_rfl) (by kernel_rfl) (by kernel_rfl) (fun _ _ _ h => h) (Or.inl ⟨by rfl, ?_⟩) (by assumption) ?_
      rotate_left
      · intro w hSw
        try dsimp only at hSw
        go_simp
        all_goals with_reducible rfl
      simp only [Act.put, List.setIfInBounds_toArray, List.set_cons_zero, List.set_cons_succ]
      refine wpAnyH_take (i := 7) (v := ?_) rfl (by kernel_rfl) (by kernel_rfl) (by kernel_rfl) (fun _ _ _ h => h) (Or.inl ⟨by rfl, ?_⟩) (by assumption) ?_
      rotate_left
      · intro w hSw
        try dsimp only at hSw
        go_simp
        all_goals with_reducible rfl
      simp only [Act.put, List.setIfInBounds_toArray, List.set_cons_zero, List.set_cons_succ]
      refine wpAnyH_take (i := 8) (v := ?_) rfl (by kernel_rfl) (by kernel_rfl) (by kernel_rfl) (fun _ _ _ h => h) (Or.inl ⟨by rfl, ?_⟩) (by assumption) ?_
      rotate_left
      · intro w hSw
        try dsimp only at hSw
        go_simp
        all_goals with_reducible rfl
      simp only [Act.put, List.setIfInBounds_toArray, List.set_cons_zero, List.set_cons_succ]
      refine wpAnyH_take (i := 9) (v := ?_) rfl (by kernel_rfl) (by kernel_rfl) (by kernel_rfl) (fun _ _ _ h => h) (Or.inl ⟨by rfl, ?_⟩) (by assumption) ?_
      rotate_left
      · intro w hSw
        try dsimp only at hSw
        go_simp
        all_goals with_reducible rfl
      simp only [Act.put, List.setIfInBounds_toArray, List.set_cons_zero, List.set_cons_succ]
      refine wpAnyH_take (i := 10) (v := ?_) rfl (by kernel_rfl) (by kernel_rfl) (by kernel_rfl) (fun _ _ _ h => h) (Or.inl ⟨by rfl, ?_⟩) (by assumption) ?_
      rotate_left
      · intro w hSw
        try dsimp only at hSw
        go_simp
        all_goals with_reducible rfl
      simp only [Act.put, List.setIfInBounds_toArray, List.set_cons_zero, List.set_cons_succ]
      refine wpAnyH_take (i := 11) (v := ?_) rfl (by kernel_rfl) (by kernel_rfl) (by kernel_rfl) (fun _ _ _ h => h) (Or.inl ⟨by rfl, ?_⟩) (by assumption) ?_
      rotate_left
      · intro w hSw
        try dsimp only at hSw
        go_simp
        all_goals with_reducible rfl
      simp only [Act.put, List.setIfInBounds_toArray, List.set_cons_zero, List.set_cons_succ]
      refine wpAnyH_take (i := 12) (v := ?_) rfl (by kernel_rfl) (by kernel_rfl) (by kernel_rfl) (fun _ _ _ h => h) (Or.inl ⟨by rfl, ?_⟩) (by assumption) ?_
      rotate_left
      · intro w hSw
        try dsimp only at hSw
        go_simp
        all_goals with_reducible rfl
      simp only [Act.put, List.setIfInBounds_toArray, List.set_cons_zero, List.set_cons_succ]
      refine wpAnyH_take (i := 13) (v := ?_) rfl (by kernel_rfl) (by kernel_rfl) (by kernel_rfl) (fun _ _ _ h => h) (Or.inl ⟨by rfl, ?_⟩) (by assumption) ?_
      rotate_left
      · intro w hSw
        try dsimp only at hSw
        go_simp
        all_goals with_reducible rfl
      simp only [Act.put, List.setIfInBounds_toArray, List.set_cons_zero, List.set_cons_succ]
      refine wpAnyH_take (i := 14) (v := ?_) rfl (by kernel_rfl) (by kernel_rfl) (by kernel_rfl) (fun _ _ _ h => h) (Or.inl ⟨by rfl, ?_⟩) (by assumption) ?_
      rotate_left
      · intro w hSw
        try dsimp only at hSw
        go_simp
        all_goals with_reducible rfl
      simp only [Act.put, List.setIfInBounds_toArray, List.set_cons_zero, List.set_cons_succ]
      refine wpAnyH_ready (rs := [5]) (by kernel_rfl) (by simp) ?_
      refine AllReadyH.cons rfl (fun K1 hK1 => ?_) AllReadyH.nil
      · go_simp
        refine hK1.out _ _ (HS.out _ HO.out) (fun hHeld1 => ?_)
        clear hK1
        clear K1
        refine wpAnyH_ready (rs := [15]) (by kernel_rfl) (by simp) ?_
        refine AllReadyH.cons rfl (fun K2 hK2 => ?_) AllReadyH.nil
        · refine step_append_at _ (by rfl) _ _ _ (by rfl) w.heap.size ItT iI (.int .i64 0) Try.underlying58 hi0 hi1 hi2 hi3 rfl w.heap.size 0 [] (by rfl) HW.out ⟨gA, 1, none⟩ tl (cpr - 1) (by rfl) HL.out (by first | omega | simp) (by omega) (by simp) ?_
          intro v7 w7 hrow7 hgrow7
          have ho7 := only_grows HO.out hgrow7 (fun j hj => by injection hj with hj; omega)
          rw [Nat.zero_add, List.nil_append] at hrow7
          have hn7 := numsC_of hrow7
          obtain ⟨A7, cp7, rfl, -⟩ := hn7
          have hn7 := numsC_of hrow7
          refine hK2.out _ _ (HS.out _ ho7) (fun hHeld2 => ?_)
          clear hK2
          clear K2
          simp only [Act.put, List.setIfInBounds_toArray, List.set_cons_zero, List.set_cons_succ]
          refine wpAnyH_take (i := 16) (v := ?_) rfl (by kernel_rfl) (by kernel_rfl) (by kernel_rfl) (fun _ _ _ h => h) (Or.inl ⟨by rfl, ?_⟩) (by assumption) ?_
          rotate_left
          · intro w hSw
            try dsimp only at hSw
            go_simp
            all_goals with_reducible rfl
          simp only [Act.put, List.setIfInBounds_toArray, List.set_cons_zero, List.set_cons_succ]
          refine wpAnyH_take (i := 17) (v := ?_) rfl (by kernel_rfl) (by kernel_rfl) (by kernel_rfl) (fun _ _ _ h => h) (Or.inl ⟨by rfl, ?_⟩) (by assumption) ?_
          rotate_left
          · intro w hSw
            try dsimp only at hSw
            go_simp
            all_goals with_reducible rfl
          simp only [Act.put, List.setIfInBounds_toArray, List.set_cons_zero, List.set_cons_succ]
          refine wpAnyH_done (by kernel_rfl) (lastQ_intro rfl rfl ?_) _
          simp only [List.getElem_toArray, List.getElem_cons_succ, List.getElem_cons_zero]
          have hq := (HM.out.only0 ho7).setQ ho (v := .slice A7 (tl).length cp7) (l := tl) hn7
          have kc := HK.out _ ho7
          have HE := Lib.hid (And.intro hq.1 (ho7.trans0 hq.2))
          have kq := kc.2.1
          have kf := kc.2.2
          clear hrow7 hgrow7 hq ho7 kc hn7
          go_simp
          go_step
          go_meet
          exact HE.out
  case rest =>
    have HC := Lib.hid hcut
    clear hcut
    go_wp2_with fail
    go_ret
    exact ⟨rfl, HC.out⟩
end
end Go.Proofs.Ytdkjfalhalepgaa
