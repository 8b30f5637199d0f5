/- What the document's Block does (layers 15 to 22). -/
import Derived.Test.YtdkjfalhalepgaaJ17
import Derived.Test.YtdkjfalhalepgaaJ18
import Derived.Deep.RegionHeld3
import Derived.Deep.CutBlock
import Derived.Deep.DeepCutAuto
namespace Go.Proofs.Ytdkjfalhalepgaa
open Go.RowKit
section
variable {w w' : World} {p gs go : Nat} {S : RSt}
theorem Only.trans0 {a b c : World} {F : List Nat} (h : Only [] a b) (k : Only F b c) : Only F a c := (h.more (fun _ _ hm => absurd hm (List.not_mem_nil))).trans k
set_option maxRecDepth 100000 in
set_option maxHeartbeats 4000000 in
theorem rblock_any (h : RefM w p gs go S) {o t : Nat} (ho : o < 32) (ht : t < 32) (n : Int) (hql : (S.ob o).queue.length ≤ 900) :
    Calls Try.prog 57 #[.pointer (some ⟨p, 0, none⟩), .int .i64 o, .int .i64 t, .int .i64 n] w fun e w' => e = .returned (.tuple #[]) ∧ RefM w' p gs go (blockS S o t n) ∧ Only [go] w w' := by
  have h0 : (0 : Int) ≤ (o : Int) := by omega
  have h1 : (o : Int) < 32 := by omega
  have h2 : (0 : Int) ≤ (t : Int) := by omega
  have h3 : (t : Int) < 32 := by omega
  obtain ⟨x, hx⟩ : ∃ x : Int, Hid ((t : Int) = x) := ⟨_, Lib.hid rfl⟩
  obtain ⟨co, c1⟩ := h.cObjs
  obtain ⟨Ar, cpr, ch, hR, -⟩ := h.cQueue ho
  obtain ⟨v6, -, fh⟩ := h.fld (j := 6) ho (by omega)
  obtain ⟨l, hl⟩ : ∃ l, Hid ((S.ob (o : Int)).queue = l) := ⟨_, Lib.hid rfl⟩
  rw [hl.out] at ch hR hql
  have hlp := h.ltP
  have hlo := h.ltO
  obtain ⟨iI, hi0, hi1, hi2, hi3⟩ := info_parts infoIt
  have O0 : Only [] w w.drew := (Only.refl [] w).drewN 1
  have o1 := O0.alloc (.cells #[] ItT)
  have o2 := o1.alloc (.cells #[.int .i64 x] ItT)
  have o3 := (O0.alloc (.cells #[.int .i64 x] ItT)).alloc (.cells #[] ItT)
  have own1 := World.ownsRow_lit (base := w.heap.size) (e := ItT) (size := 1) w.drew #[] 0 (Nat.le_refl _) (by unfold maxLen; omega) rfl
  have own2 := own1.alloc (.cells #[.int .i64 x] ItT)
  have own3 : ((w.drew.alloc (.cells #[.int .i64 x] ItT)).alloc (.cells #[] ItT)).ownsRow w.heap.size ItT 1 (.slice (some ⟨w.heap.size + 1, 0, none⟩) 0 0) 0 [] := by
    have := World.ownsRow_lit (base := w.heap.size) (e := ItT) (size := 1) (w.drew.alloc (.cells #[.int .i64 x] ItT)) #[] 0 (by simp) (by unfold maxLen; omega) rfl
    simpa using this
  have x2 : ((w.drew.alloc (.cells #[] ItT)).alloc (.cells #[.int .i64 x] ItT)).heap[w.heap.size + 1]? = some (.cells #[.int .i64 x] ItT (0, 0)) := by
    have := heap_alloc_new (w.drew.alloc (.cells #[] ItT)) (.cells #[.int .i64 x] ItT)
    simpa using this
  have x3 : ((w.drew.alloc (.cells #[.int .i64 x] ItT)).alloc (.cells #[] ItT)).heap[w.heap.size]? = some (.cells #[.int .i64 x] ItT (0, 0)) := by
    have h1 : Blk (w.drew.alloc (.cells #[.int .i64 x] ItT)) w.heap.size ItT #[.int .i64 x] := heap_alloc_new w.drew _
    exact h1.alloc _
  have HO := Lib.hid (And.intro o1 (And.intro o2 o3))
  have HW := Lib.hid (And.intro own1 (And.intro own2 own3))
  have HX := Lib.hid (And.intro x2 x3)
  have HR := Lib.hid fun (W : World) (ho : Only [] w W) => hR.only ho (fun _ _ _ => by simp)
  have HK := Lib.hid fun (W : World) (q : Only [] w W) => And.intro ((q.cell (p := ⟨p, 1, none⟩) hlp (by simp)).trans c1) (And.intro ((q.cell (p := ⟨go, o * 32 + 6, none⟩) hlo (by simp)).trans ch) ((q.frozen (p := ⟨go, o * 32 + 6, none⟩) hlo (by simp)).trans fh))
  have HS := Lib.hid fun (W : World) (q : Only [] w W) => And.intro (HK.out W q).1 (HK.out W q).2.1
  have HM := Lib.hid h
  clear O0 o1 o2 o3 own1 own2 own3 x2 x3 hR c1 ch fh h
  rw [hx.out]
  go_enter Try.func57, Try.ntmps57
  go_upto_region 0 with fail
  go_cut [] (fun W => RefM W p gs go (queueS S o (l ++ [x])) ∧ Only [go] w W)
  case first =>
    refine wp_region_last (S := fun W => W.cell? ⟨p, 1, none⟩ = some (.slice (some ⟨go, 0, none⟩) 32 co) ∧ W.cell? ⟨go, o * 32 + 6, none⟩ = some (.slice Ar l.length cpr)) 20 (by kernel_rfl) rfl (by kernel_rfl) (by kernel_rfl) (HS.out _ ((Only.refl [] w).drewN 1)) (fun hHeld => ?_)
    refine wpAnyH_take (i := 0) (v := ?_) rfl (by kernel_rfl) (by kernel_rfl) (by kernel_rfl) (fun _ _ _ h => h) (Or.inl ⟨by rfl, ?_⟩) (by assumption) ?_
    rotate_left
    · intro w hSw
      try dsimp only at hSw
      go_simp
      all_goals with_reducible rfl
    simp only [Act.put, List.setIfInBounds_toArray, List.set_cons_zero, List.set_cons_succ]
    refine wpAnyH_take (i := 1) (v := ?_) rfl (by kernel_rfl) (by kernel_rfl) (by kernel_rfl) (fun _ _ _ h => h) (Or.inl ⟨by rfl, ?_⟩) (by assumption) ?_
    rotate_left
    · intro w hSw
      try dsimp only at hSw
      go_simp
      all_goals with_reducible rfl
    simp only [Act.put, List.setIfInBounds_toArray, List.set_cons_zero, List.set_cons_succ]
    refine wpAnyH_take (i := 2) (v := ?_) rfl (by kernel_rfl) (by kernel_rfl) (by kernel_rfl) (fun _ _ _ h => h) (Or.inl ⟨by rfl, ?_⟩) (by assumption) ?_
    rotate_left
    · intro w hSw
      try dsimp only at hSw
      go_simp
      all_goals with_reducible rfl
    simp only [Act.put, List.setIfInBounds_toArray, List.set_cons_zero, List.set_cons_succ]
    refine wpAnyH_take (i := 3) (v := ?_) rfl (by kernel_rfl) (by kernel_rfl) (by kernel_rfl) (fun _ _ _ h => h) (Or.inl ⟨by rfl, ?_⟩) (by assumption) ?_
    rotate_left
    · intro w hSw
      try dsimp only at hSw
      go_simp
      all_goals with_reducible rfl
    simp only [Act.put, List.setIfInBounds_toArray, List.set_cons_zero, List.set_cons_succ]
    refine wpAnyH_take (i := 4) (v := ?_) rfl (by kernel_rfl) (by kernel_rfl) (by kernel_rfl) (fun _ _ _ h => h) (Or.inl ⟨by rfl, ?_⟩) (by assumption) ?_
    rotate_left
    · intro w hSw
      try dsimp only at hSw
      go_simp
      all_goals with_reducible rfl
    simp only [Act.put, List.setIfInBounds_toArray, List.set_cons_zero, List.set_cons_succ]
    refine wpAnyH_take (i := 6) (v := ?_) rfl (by kernel_rfl) (by kernel_rfl) (by kernel_rfl) (fun _ _ _ h => h) (Or.inl ⟨by rfl, ?_⟩) (by assumption) ?_
    rotate_left
    · intro w hSw
      try dsimp only at hSw
      go_simp
      all_goals with_reducible rfl
    simp only [Act.put, List.setIfInBounds_toArray, List.set_cons_zero, List.set_cons_succ]
    refine wpAnyH_take (i := 7) (v := ?_) rfl (by kernel_rfl) (by kernel_rfl) (by kernel_rfl) (fun _ _ _ h => h) (Or.inl ⟨by rfl, ?_⟩) (by assumption) ?_
    rotate_left
    · intro w hSw
      try dsimp only at hSw
      go_simp
      all_goals with_reducible rfl
    simp only [Act.put, List.setIfInBounds_toArray, List.set_cons_zero, List.set_cons_succ]
    refine wpAnyH_take (i := 8) (v := ?_) rfl (by kernel_rfl) (by kernel_rfl) (by kernel_rfl) (fun _ _ _ h => h) (Or.inl ⟨by rfl, ?_⟩) (by assumption) ?_
    rotate_left
    · intro w hSw
      try dsimp only at hSw
      go_simp
      all_goals with_reducible rfl
    simp only [Act.put, List.setIfInBounds_toArray, List.set_cons_zero, List.set_cons_succ]
    refine wpAnyH_take (i := 9) (v := ?_) rfl (by kernel_rfl) (by kernel_rfl) (by kernel_rfl) (fun _ _ _ h => h) (Or.inl ⟨by rfl, ?_⟩) (by assumption) ?_
    rotate_left
    · intro w hSw
      try dsimp only at hSw
      go_simp
      all_goals with_reducible rfl
    simp only [Act.put, List.setIfInBounds_toArray, List.set_cons_zero, List.set_cons_succ]
    refine wpAnyH_take (i := 10) (v := ?_) rfl (by kernel_rfl) (by kernel_rfl) (by kernel_rfl) (fun _ _ _ h => h) (Or.inl ⟨by rfl, ?_⟩) (by assumption) ?_
    rotate_left
    · intro w hSw
      try dsimp only at hSw
      go_simp
      all_goals with_reducible rfl
    simp only [Act.put, List.setIfInBounds_toArray, List.set_cons_zero, List.set_cons_succ]
    refine wpAnyH_take (i := 11) (v := ?_) rfl (by kernel_rfl) (by kernel_rfl) (by kernel_rfl) (fun _ _ _ h => h) (Or.inl ⟨by rfl, ?_⟩) (by assumption) ?_
    rotate_left
    · intro w hSw
      try dsimp only at hSw
      go_simp
      all_goals with_reducible rfl
    simp only [Act.put, List.setIfInBounds_toArray, List.set_cons_zero, List.set_cons_succ]
    refine wpAnyH_take (i := 12) (v := ?_) rfl (by kernel_rfl) (by kernel_rfl) (by kernel_rfl) (fun _ _ _ h => h) (Or.inl ⟨by rfl, ?_⟩) (by assumption) ?_
    rotate_left
    · intro w hSw
      try dsimp only at hSw
      go_simp
      all_goals with_reducible rfl
    simp only [Act.put, List.setIfInBounds_toArray, List.set_cons_zero, List.set_cons_succ]
    refine wpAnyH_take (i := 13) (v := ?_) rfl (by kernel_rfl) (by kernel_rfl) (by kernel_rfl) (fun _ _ _ h => h) (Or.inl ⟨by rfl, ?_⟩) (by assumption) ?_
    rotate_left
    · intro w hSw
      try dsimp only at hSw
      go_simp
      all_goals with_reducible rfl
    simp only [Act.put, List.setIfInBounds_toArray, List.set_cons_zero, List.set_cons_succ]
    refine wpAnyH_take (i := 15) (v := ?_) rfl (by kernel_rfl) (by kernel_rfl) (by kernel_rfl) (fun _ _ _ h => h) (Or.inl ⟨by rfl, ?_⟩) (by assumption) ?_
    rotate_left
    · intro w hSw
      try dsimp only at hSw
      go_simp
      all_goals with_reducible rfl
    simp only [Act.put, List.setIfInBounds_toArray, List.set_cons_zero, List.set_cons_succ]
    refine wpAnyH_ready (rs := [5, 16]) (by kernel_rfl) (by simp) ?_
    refine AllReadyH.cons rfl (fun K1 hK1 => ?_) (AllReadyH.cons rfl (fun K1 hK1 => ?_) AllReadyH.nil)
    · go_simp
      refine hK1.out _ _ (HS.out _ HO.out.1) (fun hHeld1 => ?_)
      clear hK1
      clear K1
      refine wpAnyH_ready (rs := [14, 16]) (by kernel_rfl) (by simp) ?_
      refine AllReadyH.cons rfl (fun K2 hK2 => ?_) (AllReadyH.cons rfl (fun K2 hK2 => ?_) AllReadyH.nil)
      · refine step_append_nums _ (by rfl) _ _ _ (by rfl) w.heap.size ItT ItT iI (.int .i64 0) Try.underlying58 hi0 hi1 hi2 hi3 rfl (w.heap.size) 0 [] (by rfl) HW.out.1 Ar l cpr (by rfl) (HR.out _ HO.out.1) (by omega) (by omega) (by simp) ?_
        intro v5 w7 hrow7 hgrow7
        have ho7 := only_grows HO.out.1 hgrow7 (fun j hj => by injection hj with hj; omega)
        rw [Nat.zero_add, List.nil_append] at hrow7
        refine hK2.out _ _ (HS.out _ ho7) (fun hHeld2 => ?_)
        clear hK2
        clear K2
        simp only [Act.put, List.setIfInBounds_toArray, List.set_cons_zero, List.set_cons_succ]
        refine wpAnyH_ready (rs := [16]) (by kernel_rfl) (by simp) ?_
        refine AllReadyH.cons rfl (fun K3 hK3 => ?_) AllReadyH.nil
        · go_simp
          refine hK3.out _ _ (HS.out _ (ho7.alloc _)) (fun hHeld3 => ?_)
          clear hK3
          clear K3
          refine wpAnyH_ready (rs := [17]) (by kernel_rfl) (by simp) ?_
          refine AllReadyH.cons rfl (fun K4 hK4 => ?_) AllReadyH.nil
          · refine step_append_lies _ (by rfl) _ _ _ (by rfl) w.heap.size ItT iI (.int .i64 0) 1 8 Try.underlying58 hi0 hi1 hi2 hi3 rfl (by omega) v5 l.length (l.flatMap irow') (by rfl) (hrow7.alloc _) ⟨w7.heap.size, 0, none⟩ 1 1 [.int .i64 x] (by rfl) (by rfl) (World.news_of_block (cs := #[.int .i64 x]) (heap_alloc_new w7 _)) (by simp [Value.oneCell']) (by omega) (by unfold maxLen; omega) (by omega) (by simp; exact Nat.le_succ_of_le ho7.size) (w7.heap.size + 1) (by simp) ?_
            intro g8 cap8 w8 hrow8 hgrow8 hat8 hlt8
            have ho8 := only_grows (ho7.alloc _) hgrow8 (fun j hj => own_base hrow7 hj)
            refine hK4.out _ _ (HS.out _ ho8) (fun hHeld4 => ?_)
            clear hK4
            clear K4
            simp only [Act.put, List.setIfInBounds_toArray, List.set_cons_zero, List.set_cons_succ]
            refine wpAnyH_take (i := 18) (v := ?_) rfl (by kernel_rfl) (by kernel_rfl) (by kernel_rfl) (fun _ _ _ h => h) (Or.inl ⟨by rfl, ?_⟩) (by assumption) ?_
            rotate_left
            · intro w hSw
              try dsimp only at hSw
              go_simp
              all_goals with_reducible rfl
            simp only [Act.put, List.setIfInBounds_toArray, List.set_cons_zero, List.set_cons_succ]
            refine wpAnyH_take (i := 19) (v := ?_) rfl (by kernel_rfl) (by kernel_rfl) (by kernel_rfl) (fun _ _ _ h => h) (Or.inl ⟨by rfl, ?_⟩) (by assumption) ?_
            rotate_left
            · intro w hSw
              try dsimp only at hSw
              go_simp
              all_goals with_reducible rfl
            simp only [Act.put, List.setIfInBounds_toArray, List.set_cons_zero, List.set_cons_succ]
            refine wpAnyH_done (by kernel_rfl) (lastQ_intro rfl rfl ?_) _
            simp only [List.getElem_toArray, List.getElem_cons_succ, List.getElem_cons_zero]
            obtain ⟨hq1, hq2⟩ := (HM.out.only0 ho8).setQ ho (v := .slice (some ⟨g8, 0, none⟩) (l.length + 1) cap8) (l := l ++ [x]) ⟨some ⟨g8, 0, none⟩, cap8, by rw [List.length_append]; rfl, rowN_snoc hrow8, by rw [List.length_append]; exact (own_cap hrow8).1⟩
            have kc := HK.out _ ho8
            have HE := Lib.hid (And.intro hq1 (ho8.trans0 hq2))
            obtain ⟨kq, kf⟩ := kc.2
            clear hrow8 hgrow8 hat8 hlt8 hrow7 hgrow7 hq1 hq2 ho7 ho8 kc
            go_simp
            go_step
            go_meet
            exact HE.out
      · go_simp
        refine hK2.out _ _ (HS.out _ HO.out.2.1) (fun hHeld2 => ?_)
        clear hK2
        clear K2
        refine wpAnyH_ready (rs := [14]) (by kernel_rfl) (by simp) ?_
        refine AllReadyH.cons rfl (fun K3 hK3 => ?_) AllReadyH.nil
        · refine step_append_nums _ (by rfl) _ _ _ (by rfl) w.heap.size ItT ItT iI (.int .i64 0) Try.underlying58 hi0 hi1 hi2 hi3 rfl (w.heap.size) 0 [] (by rfl) HW.out.2.1 Ar l cpr (by rfl) (HR.out _ HO.out.2.1) (by omega) (by omega) (by simp; omega) ?_
          intro v5 w7 hrow7 hgrow7
          have ho7 := only_grows HO.out.2.1 hgrow7 (fun j hj => by injection hj with hj; omega)
          rw [Nat.zero_add, List.nil_append] at hrow7
          have hx7 := (hgrow7.block (w.heap.size + 1) (by simp) (by intro e; injection e with e; omega)).trans HX.out.1
          refine hK3.out _ _ (HS.out _ ho7) (fun hHeld3 => ?_)
          clear hK3
          clear K3
          simp only [Act.put, List.setIfInBounds_toArray, List.set_cons_zero, List.set_cons_succ]
          refine wpAnyH_ready (rs := [17]) (by kernel_rfl) (by simp) ?_
          refine AllReadyH.cons rfl (fun K4 hK4 => ?_) AllReadyH.nil
          · refine step_append_lies _ (by rfl) _ _ _ (by rfl) w.heap.size ItT iI (.int .i64 0) 1 8 Try.underlying58 hi0 hi1 hi2 hi3 rfl (by omega) v5 l.length (l.flatMap irow') (by rfl) hrow7 ⟨_, 0, none⟩ 1 1 [.int .i64 x] (by rfl) (by rfl) (World.news_of_block (cs := #[.int .i64 x]) hx7) (by simp [Value.oneCell']) (by omega) (by unfold maxLen; omega) (by omega) ho7.size w7.heap.size rfl ?_
            intro g8 cap8 w8 hrow8 hgrow8 hat8 hlt8
            have ho8 := only_grows ho7 hgrow8 (fun j hj => own_base hrow7 hj)
            refine hK4.out _ _ (HS.out _ ho8) (fun hHeld4 => ?_)
            clear hK4
            clear K4
            simp only [Act.put, List.setIfInBounds_toArray, List.set_cons_zero, List.set_cons_succ]
            refine wpAnyH_take (i := 18) (v := ?_) rfl (by kernel_rfl) (by kernel_rfl) (by kernel_rfl) (fun _ _ _ h => h) (Or.inl ⟨by rfl, ?_⟩) (by assumption) ?_
            rotate_left
            · intro w hSw
              try dsimp only at hSw
              go_simp
              all_goals with_reducible rfl
            simp only [Act.put, List.setIfInBounds_toArray, List.set_cons_zero, List.set_cons_succ]
            refine wpAnyH_take (i := 19) (v := ?_) rfl (by kernel_rfl) (by kernel_rfl) (by kernel_rfl) (fun _ _ _ h => h) (Or.inl ⟨by rfl, ?_⟩) (by assumption) ?_
            rotate_left
            · intro w hSw
              try dsimp only at hSw
              go_simp
              all_goals with_reducible rfl
            simp only [Act.put, List.setIfInBounds_toArray, List.set_cons_zero, List.set_cons_succ]
            refine wpAnyH_done (by kernel_rfl) (lastQ_intro rfl rfl ?_) _
            simp only [List.getElem_toArray, List.getElem_cons_succ, List.getElem_cons_zero]
            obtain ⟨hq1, hq2⟩ := (HM.out.only0 ho8).setQ ho (v := .slice (some ⟨g8, 0, none⟩) (l.length + 1) cap8) (l := l ++ [x]) ⟨some ⟨g8, 0, none⟩, cap8, by rw [List.length_append]; rfl, rowN_snoc hrow8, by rw [List.length_append]; exact (own_cap hrow8).1⟩
            have kc := HK.out _ ho8
            have HE := Lib.hid (And.intro hq1 (ho8.trans0 hq2))
            obtain ⟨kq, kf⟩ := kc.2
            clear hrow8 hgrow8 hat8 hlt8 hrow7 hgrow7 hq1 hq2 ho7 ho8 kc
            go_simp
            go_step
            go_meet
            exact HE.out
    · go_simp
      refine hK1.out _ _ (HS.out _ (((Only.refl [] w).alloc _).drewN 1)) (fun hHeld1 => ?_)
      clear hK1
      clear K1
      refine wpAnyH_ready (rs := [5]) (by kernel_rfl) (by simp) ?_
      refine AllReadyH.cons rfl (fun K2 hK2 => ?_) AllReadyH.nil
      · go_simp
        refine hK2.out _ _ (HS.out _ HO.out.2.2) (fun hHeld2 => ?_)
        clear hK2
        clear K2
        refine wpAnyH_ready (rs := [14]) (by kernel_rfl) (by simp) ?_
        refine AllReadyH.cons rfl (fun K3 hK3 => ?_) AllReadyH.nil
        · refine step_append_nums _ (by rfl) _ _ _ (by rfl) w.heap.size ItT ItT iI (.int .i64 0) Try.underlying58 hi0 hi1 hi2 hi3 rfl (w.heap.size + 1) 0 [] (by rfl) HW.out.2.2 Ar l cpr (by rfl) (HR.out _ HO.out.2.2) (by omega) (by omega) (by simp; omega) ?_
          intro v5 w7 hrow7 hgrow7
          have ho7 := only_grows HO.out.2.2 hgrow7 (fun j hj => by injection hj with hj; omega)
          rw [Nat.zero_add, List.nil_append] at hrow7
          have hx7 := (hgrow7.block w.heap.size (by simp; omega) (by intro e; injection e with e; omega)).trans HX.out.2
          refine hK3.out _ _ (HS.out _ ho7) (fun hHeld3 => ?_)
          clear hK3
          clear K3
          simp only [Act.put, List.setIfInBounds_toArray, List.set_cons_zero, List.set_cons_succ]
          refine wpAnyH_ready (rs := [17]) (by kernel_rfl) (by simp) ?_
          refine AllReadyH.cons rfl (fun K4 hK4 => ?_) AllReadyH.nil
          · refine step_append_lies _ (by rfl) _ _ _ (by rfl) w.heap.size ItT iI (.int .i64 0) 1 8 Try.underlying58 hi0 hi1 hi2 hi3 rfl (by omega) v5 l.length (l.flatMap irow') (by rfl) hrow7 ⟨_, 0, none⟩ 1 1 [.int .i64 x] (by rfl) (by rfl) (World.news_of_block (cs := #[.int .i64 x]) hx7) (by simp [Value.oneCell']) (by omega) (by unfold maxLen; omega) (by omega) ho7.size w7.heap.size rfl ?_
            intro g8 cap8 w8 hrow8 hgrow8 hat8 hlt8
            have ho8 := only_grows ho7 hgrow8 (fun j hj => own_base hrow7 hj)
            refine hK4.out _ _ (HS.out _ ho8) (fun hHeld4 => ?_)
            clear hK4
            clear K4
            simp only [Act.put, List.setIfInBounds_toArray, List.set_cons_zero, List.set_cons_succ]
            refine wpAnyH_take (i := 18) (v := ?_) rfl (by kernel_rfl) (by kernel_rfl) (by kernel_rfl) (fun _ _ _ h => h) (Or.inl ⟨by rfl, ?_⟩) (by assumption) ?_
            rotate_left
            · intro w hSw
              try dsimp only at hSw
              go_simp
              all_goals with_reducible rfl
            simp only [Act.put, List.setIfInBounds_toArray, List.set_cons_zero, List.set_cons_succ]
            refine wpAnyH_take (i := 19) (v := ?_) rfl (by kernel_rfl) (by kernel_rfl) (by kernel_rfl) (fun _ _ _ h => h) (Or.inl ⟨by rfl, ?_⟩) (by assumption) ?_
            rotate_left
            · intro w hSw
              try dsimp only at hSw
              go_simp
              all_goals with_reducible rfl
            simp only [Act.put, List.setIfInBounds_toArray, List.set_cons_zero, List.set_cons_succ]
            refine wpAnyH_done (by kernel_rfl) (lastQ_intro rfl rfl ?_) _
            simp only [List.getElem_toArray, List.getElem_cons_succ, List.getElem_cons_zero]
            obtain ⟨hq1, hq2⟩ := (HM.out.only0 ho8).setQ ho (v := .slice (some ⟨g8, 0, none⟩) (l.length + 1) cap8) (l := l ++ [x]) ⟨some ⟨g8, 0, none⟩, cap8, by rw [List.length_append]; rfl, rowN_snoc hrow8, by rw [List.length_append]; exact (own_cap hrow8).1⟩
            have kc := HK.out _ ho8
            have HE := Lib.hid (And.intro hq1 (ho8.trans0 hq2))
            obtain ⟨kq, kf⟩ := kc.2
            clear hrow8 hgrow8 hat8 hlt8 hrow7 hgrow7 hq1 hq2 ho7 ho8 kc
            go_simp
            go_step
            go_meet
            exact HE.out
  case rest =>
    obtain ⟨hr, hon⟩ := hcut
    have H0 := Lib.hid (And.intro hr hon)
    obtain ⟨co, c1⟩ := hr.cObjs
    obtain ⟨v, e, f⟩ := hr.fld (j := 8) ht (by omega)
    have q1 := hr.setF1 ht (j := 8) (by omega) (.int .i64 n) (fun x => { x with state := n }) (fun _ _ => rfl) (fun _ => rfl)
    have H1 := Lib.hid (And.intro q1.1 (hon.trans q1.2))
    clear q1 hr hon
    rw [← hx.out]
    go_upto_region 2 with fail
    obtain ⟨w1, hw1⟩ : ∃ X, Hid (X = wc.setCell ⟨go, t * 32 + 8, none⟩ (.int .i64 n)) := ⟨_, Lib.hid rfl⟩
    rw [← hw1.out] at H1 ⊢
    clear c1 e f hw1
    obtain ⟨co, c1⟩ := H1.out.1.cObjs
    obtain ⟨v, e, f⟩ := H1.out.1.fld (j := 12) ht (by omega)
    have q2 := H1.out.1.setF1 ht (j := 12) (by omega) (.int .i64 o) (fun x => { x with on := o }) (fun _ _ => rfl) (fun _ => rfl)
    have H2 := Lib.hid (And.intro q2.1 (H1.out.2.trans q2.2))
    clear q2
    go_wp2_with fail
    go_end0
    refine ⟨rfl, ?_, H2.out.2⟩
    have e : ((queueS S o (l ++ [x])).upO (t : Int) fun x => { x with state := n }).upO (t : Int) (fun x => { x with on := o }) = blockS S o t n :=
      RSt.ext' rfl rfl rfl (fun i => by
        rw [← hl.out, ← hx.out]
        simp only [blockS, onS, pushS, queueS, upO_at]
        by_cases e : i = (t : Int)
        · simp [e]
        · simp [e]) rfl rfl
    rw [← hx.out, ← e]
    exact H2.out.1
end
end Go.Proofs.Ytdkjfalhalepgaa
