/- QueuePlays' walk: for all slices of deeds. -/
import Derived.Test.YtlcefgfcihgocaaQueueStep
import Derived.Test.YtlcefgfcihgocaaQueUp
import Derived.Test.YtlcefgfcihgocaaRefApp
import Derived.Test.YtlcefgfcihgocaaQueApp
import Derived.Test.YtlcefgfcihgocaaCode
import Derived.Test.YtlcefgfcihgocaaErrV
import Derived.Test.YtlcefgfcihgocaaRegionLast
import Derived.Deep.RegionHeld3
import Derived.Deep.CutBlock
import Derived.Deep.DeepCutAuto
namespace Go.Proofs.Ytlcefgfcihgocaa
open Go.RowKit
theorem infoIs : (Try.prog.info? IsT).map (fun i => (i.zero, i.size, i.bytes)) = some (some (.slice none 0 0), 1, 24) := by kernel_rfl
def isRow (_ : Unit) : List Value := [.slice none 0 0]
theorem made_lists (W : World) : (Instr.makeSlice 26 (.int .i64 4) (.int .i64 4)).run Try.prog W = .ok (.slice (some ⟨W.heap.size, 0, none⟩) 4 4) (W.alloc (.cells #[.slice none 0 0, .slice none 0 0, .slice none 0 0, .slice none 0 0] IsT)) :=
  run_makeN (P := Try.prog) (t := 26) (f := isRow) () infoIs Try.underlying26 (fun _ => rfl) (by omega) rfl .i64 .i64 4 4 (by omega) (by omega) (by omega) (by omega) W
theorem rows_new (W : World) : QRows (W.alloc (.cells #[.slice none 0 0, .slice none 0 0, .slice none 0 0, .slice none 0 0] IsT)) W.heap.size (fun _ => []) := by
  refine ⟨_, Blk.new W IsT _, fun k hk => ⟨none, 0, ?_, (fun _ _ h => by simp at h), Nat.le_refl _, Nat.zero_le _⟩⟩
  have : k = 0 ∨ k = 1 ∨ k = 2 ∨ k = 3 := by omega
  rcases this with rfl | rfl | rfl | rfl <;> rfl
set_option maxRecDepth 100000 in
set_option maxHeartbeats 20000000 in
theorem qplays_any (A : Option Addr) (LL : List Q3) (cap : Nat) (w : World) (hL : DeedsQ3 w A LL) (hll : LL.length ≤ 9223372036854775807) :
    Calls Try.prog 3 #[.slice A LL.length cap] w fun e w' => e = .returned (.bool true) ∧ Only [] w w' := by
  have cU := up_any w
  by_cases h2 : 150 < LL.length
  · have h2' : (150 : Int) < (LL.length : Int) := by omega
    go_enter Try.func3, Try.ntmps3
    go_wp2_with ((with_reducible refine cU.mono ?_); clear cU; rintro e w1 ⟨rfl, ho1⟩)
    go_ret
    exact ⟨rfl, ho1⟩
  have h2' : ¬ (150 : Int) < (LL.length : Int) := by omega
  go_enter Try.func3, Try.ntmps3
  go_wp2_with fail
  (with_reducible refine cU.mono ?_)
  clear cU
  rintro e w1 ⟨rfl, ho1⟩
  have m1 := made_words w1
  have hm1 := memP_new w1
  have hz1 := ho1.size
  obtain ⟨g, hg⟩ : ∃ g, Hid (g = w1.heap.size) := ⟨_, Lib.hid rfl⟩
  obtain ⟨w2, hw2⟩ : ∃ w2, Hid (w2 = w1.alloc (.cells zerosA UT)) := ⟨_, Lib.hid rfl⟩
  have ho2 : Only [] w w2 := by rw [hw2.out]; exact ho1.alloc _
  rw [← hw2.out, ← hg.out] at m1 hm1
  rw [← hg.out] at hz1
  have m2 := made_lists w2
  have r2 := rows_new w2
  have hm2 := hm1.only ((Only.refl [] w2).alloc (.cells #[.slice none 0 0, .slice none 0 0, .slice none 0 0, .slice none 0 0] IsT)) (by simp)
  have hz2 := ho2.size
  obtain ⟨h, hh⟩ : ∃ h, Hid (h = w2.heap.size) := ⟨_, Lib.hid rfl⟩
  obtain ⟨w3, hw3⟩ : ∃ w3, Hid (w3 = w2.alloc (.cells #[.slice none 0 0, .slice none 0 0, .slice none 0 0, .slice none 0 0] IsT)) := ⟨_, Lib.hid rfl⟩
  have ho3 : Only [] w w3 := by rw [hw3.out]; exact ho2.alloc _
  rw [← hw3.out, ← hh.out] at m2 r2
  rw [← hw3.out] at hm2
  rw [← hh.out] at hz2
  have HS : Hid (Qst w w3 g h (fun _ => []) (fun _ => [])) := Lib.hid ⟨⟨_, hm2, qw_zero (fun o e => by obtain ⟨a, b⟩ := e; omega)⟩, r2, ho3, hz1, hz2⟩
  clear ho1 hm1 hz1 ho2 r2 hm2 hz2 ho3
  go_wp2_with fail
  clear m1 m2 hw3 hw2 hg hh
  clear w1 w2
  go_loopw [6] (fun i wr => ∃ (k : Nat) (q : Int → List Int), k ≤ LL.length ∧ i = .int .i64 k ∧ Qst w wr g h q q ∧ LensLe q k) (fun i _ => LL.length - (intOf i).toNat)
  case atStart => exact ⟨0, _, by omega, rfl, HS.out, fun _ => by simp⟩
  case round =>
    clear HS
    clear w3
    obtain ⟨k, q, hk, rfl, hS, hlen⟩ := hrel
    by_cases hlt : k < LL.length
    · obtain ⟨d, hd⟩ : ∃ d, LL[k]? = some d := ⟨_, List.getElem?_eq_getElem hlt⟩
      obtain ⟨b, off, rfl, hb, hc⟩ := hL.at_ k d hd
      have hok := hL.ok k d hd
      have c0 : wr.cell? ⟨b, off + k * 3, none⟩ = some (.int .i64 d.what) := (hS.only.cell (p := ⟨b, off + k * 3, none⟩) hb (by simp)).trans (hc 0 _ rfl)
      have c1 : wr.cell? ⟨b, off + k * 3 + 1, none⟩ = some (.int .i64 d.obj) := (hS.only.cell (p := ⟨b, off + k * 3 + 1, none⟩) hb (by simp)).trans (hc 1 _ rfl)
      have c2 : wr.cell? ⟨b, off + k * 3 + 2, none⟩ = some (.int .i64 d.t) := (hS.only.cell (p := ⟨b, off + k * 3 + 2, none⟩) hb (by simp)).trans (hc 2 _ rfl)
      have hbz := hS.only.size
      have hn := Blk.new wr Q3T d.arr
      have hS1 := hS.only0 ((Only.refl [] wr).alloc (.cells d.arr Q3T))
      have HH := Lib.hid (And.intro hn (And.intro hS1 (And.intro hok hlen)))
      have HLT := Lib.hid (And.intro hlt h2)
      clear hd hc hS hn hS1 hok hlen
      go_upto_region 10 with fail
      obtain ⟨n0, hn0⟩ : ∃ n0, Hid (n0 = wr.heap.size) := ⟨_, Lib.hid rfl⟩
      obtain ⟨w4, hw4⟩ : ∃ w4, Hid (w4 = wr.alloc (.cells d.arr Q3T)) := ⟨_, Lib.hid rfl⟩
      rw [← hw4.out, ← hn0.out] at HH
      rw [← hw4.out, ← hn0.out]
      clear c0 c1 c2 hbz hn0 hw4
      clear wr
      obtain ⟨hn, hS, hok, hlen⟩ := HH.out
      obtain ⟨e0, e1, e2⟩ := Q3.cells hn
      have hnl := hn.lt
      obtain ⟨o, ho⟩ : ∃ o, pickN d.obj 4 = o := ⟨_, rfl⟩
      obtain ⟨p, hp⟩ : ∃ p, pickN d.what 4 = p := ⟨_, rfl⟩
      have hor := pickN_rng d.obj (n := 4) (by decide)
      have hpr := pickN_rng d.what (n := 4) (by decide)
      have cO := Lib.hid fun W => pickN_any d.obj 4 hok.obj (by decide) (by decide) W
      have cP := Lib.hid fun W => pickN_any d.what 4 hok.what (by decide) (by decide) W
      rw [ho] at cO hor
      rw [hp] at cP hpr
      obtain ⟨on, rfl, hon⟩ := z4_nat hor
      clear hn hS hok hlen ho hp hor
      go_upto_if 44 with (first | ((with_reducible refine (cO.out _).mono ?_); rintro e w' ⟨rfl, rfl⟩) | ((with_reducible refine (cP.out _).mono ?_); rintro e w' ⟨rfl, rfl⟩))
      clear cO cP
      go_cut [] (fun W => ∃ q', Qst w W g h q' q' ∧ LensLe q' (k + 1))
      case first =>
        by_cases h12 : p < 2
        · by_cases hbad : 0 ≤ d.t ∧ d.t ≤ 31
          · have hb0 : 0 ≤ d.t := hbad.1
            have hb1 : d.t ≤ 31 := hbad.2
            clear hbad
            by_cases ht4 : d.t < 4
            · clear hnl
              go_wp2_with fail
              exact ⟨⟨k + 1, q, by have := HLT.out; omega, by go_num, HH.out.2.1, HH.out.2.2.2.more⟩, by have := HLT.out; simp [intOf]; omega⟩
            · obtain ⟨inn, hin⟩ : ∃ b, inB q d.t = b := ⟨_, rfl⟩
              have cI := Lib.hid (in_any HH.out.2.1.rows d.t (fun i _ => by have := HH.out.2.2.2 i; have := HLT.out; omega))
              rw [hin] at cI
              have HIN := Lib.hid hin
              clear hin
              cases inn with
              | true =>
                go_wp2_with ((with_reducible refine cI.out.mono ?_); rintro e w' ⟨rfl, hw⟩; replace hw := hw.symm; subst hw)
                exact ⟨⟨k + 1, q, by have := HLT.out; omega, by go_num, HH.out.2.1, HH.out.2.2.2.more⟩, by have := HLT.out; simp [intOf]; omega⟩
              | false =>
                as_aux_lemma =>
                  obtain ⟨⟨L, hm, hq⟩, -, -, -, -⟩ := HH.out.2.1
                  have hfree := pushed_free hq HIN.out
                  have cQ := qpush_is hm hq (o := (on : Int)) (t := d.t) ⟨by omega, by omega⟩ ⟨hb0, by omega⟩ (fun e => ht4 e.2) hfree
                  rw [errV_nil] at cQ
                  have cC := Lib.hid fun W => code_nil W
                  clear hm hq hfree
                  go_upto_region 20 with (first | ((with_reducible refine cI.out.mono ?_); rintro e w' ⟨rfl, hw⟩; replace hw := hw.symm; subst hw) | ((with_reducible refine cQ.mono ?_); clear cQ e0 e1 e2; rintro e w5 ⟨L5, rfl, hm5, hq5, ho5⟩; have hn5 := HH.out.2.1.keep HH.out.1 ho5; have HS5 := Lib.hid (HH.out.2.1.turn hm5 hq5 ho5); obtain ⟨e0, e1, e2⟩ := Q3.cells hn5; clear hm5 hq5 ho5) | ((with_reducible refine (cC.out _).mono ?_); rintro e w6 ⟨rfl, rfl⟩))
                  obtain ⟨w6, hw6⟩ : ∃ w6, w6 = w5 := ⟨_, rfl⟩
                  rw [← hw6] at e0 e1 e2 hn5 HS5 ⊢
                  clear hw6
                  have hnl6 := hn5.lt
                  have hhl := HS5.out.rows.lt
                  obtain ⟨Ar, cpr, ch, hR⟩ := HS5.out.rows.cell hon
                  have fh := HS5.out.rows.frozen on
                  obtain ⟨l, hl⟩ : ∃ l, Hid (q on = l) := ⟨_, Lib.hid rfl⟩
                  have hll1 : l.length ≤ 1000 := by rw [← hl.out]; have := HH.out.2.2.2 on; have := HLT.out; omega
                  rw [hl.out] at ch hR
                  obtain ⟨x, hx⟩ : ∃ x, Hid (d.t = x) := ⟨_, Lib.hid rfl⟩
                  rw [hx.out] at e2
                  have hb0' : (0 : Int) ≤ (on : Int) := by omega
                  have hb1' : (on : Int) < 4 := by omega
                  obtain ⟨iI, hi0, hi1, hi2, hi3⟩ := info_parts infoIt
                  have O0 : Only [] w6 w6.drew := (Only.refl [] w6).drewN 1
                  have o1 := O0.alloc (.cells #[] ItT)
                  have o2 := o1.alloc (.cells #[.int .i64 x] ItT)
                  have o3 := (O0.alloc (.cells #[.int .i64 x] ItT)).alloc (.cells #[] ItT)
                  have own1 := World.ownsRow_lit (base := w6.heap.size) (e := ItT) (size := 1) w6.drew #[] 0 (Nat.le_refl _) (by unfold maxLen; omega) rfl
                  have own2 := own1.alloc (.cells #[.int .i64 x] ItT)
                  have own3 : ((w6.drew.alloc (.cells #[.int .i64 x] ItT)).alloc (.cells #[] ItT)).ownsRow w6.heap.size ItT 1 (.slice (some ⟨w6.heap.size + 1, 0, none⟩) 0 0) 0 [] := by
                    have := World.ownsRow_lit (base := w6.heap.size) (e := ItT) (size := 1) (w6.drew.alloc (.cells #[.int .i64 x] ItT)) #[] 0 (by simp) (by unfold maxLen; omega) rfl
                    simpa using this
                  have x2 : ((w6.drew.alloc (.cells #[] ItT)).alloc (.cells #[.int .i64 x] ItT)).heap[w6.heap.size + 1]? = some (.cells #[.int .i64 x] ItT (0, 0)) := by
                    have := heap_alloc_new (w6.drew.alloc (.cells #[] ItT)) (.cells #[.int .i64 x] ItT)
                    simpa using this
                  have x3 : ((w6.drew.alloc (.cells #[.int .i64 x] ItT)).alloc (.cells #[] ItT)).heap[w6.heap.size]? = some (.cells #[.int .i64 x] ItT (0, 0)) := by
                    have h1 : Blk (w6.drew.alloc (.cells #[.int .i64 x] ItT)) w6.heap.size ItT #[.int .i64 x] := heap_alloc_new w6.drew _
                    exact h1.alloc _
                  have HO := Lib.hid (And.intro o1 (And.intro o2 o3))
                  have HW := Lib.hid (And.intro own1 (And.intro own2 own3))
                  have HX := Lib.hid (And.intro x2 x3)
                  have HR := Lib.hid fun (W : World) (ho : Only [] w6 W) => hR.only ho (fun _ _ _ => by simp)
                  have HK := Lib.hid fun (W : World) (ho : Only [] w6 W) => And.intro (ho.cell (p := ⟨n0, 2, none⟩) hnl6 (by simp)) (And.intro (ho.cell (p := ⟨h, on, none⟩) hhl (by simp)) (ho.frozen (p := ⟨h, on, none⟩) hhl (by simp)))
                  have hn6 := Lib.hid hn5
                  clear O0 o1 o2 o3 own1 own2 own3 x2 x3 hR hn5 e0 e1 cI
                  have k20 := Lib.hid e2
                  clear cC
                  go_cut [] (fun W => Qst w W g h (putQ q on (l ++ [x])) (putQ q on (l ++ [x])))
                  case first =>
                   as_aux_lemma =>
                    have hS0 : ∀ W, Only [] w6 W → W.cell? ⟨n0, 2, none⟩ = some (.int .i64 x) ∧ W.cell? ⟨h, on, none⟩ = some (.slice Ar l.length cpr) := fun W o => by
                      have q := HK.out W o
                      rw [k20.out, ch] at q
                      exact ⟨q.1, q.2.1⟩
                    have HS := Lib.hid hS0
                    clear hS0
                    refine wp_region_last (S := fun W => W.cell? ⟨n0, 2, none⟩ = some (.int .i64 x) ∧ W.cell? ⟨h, on, none⟩ = some (.slice Ar l.length cpr)) 13 (by kernel_rfl) rfl (by kernel_rfl) (by kernel_rfl) (HS.out _ ((Only.refl [] w6).drewN 1)) (fun hHeld => ?_)
                    refine wpAnyH_take (i := 0) (v := ?_) rfl (by kernel_rfl) (by kernel_rfl) (by kernel_rfl) (fun _ _ _ h => h) (Or.inl ⟨by rfl, ?_⟩) (by assumption) ?_
                    rotate_left
                    · intro w hSw
                      try dsimp only at hSw
                      go_simp
                      all_goals with_reducible rfl
                    simp only [Act.put, List.setIfInBounds_toArray, List.set_cons_zero, List.set_cons_succ]
                    refine wpAnyH_take (i := 1) (v := ?_) rfl (by kernel_rfl) (by kernel_rfl) (by kernel_rfl) (fun _ _ _ h => h) (Or.inl ⟨by rfl, ?_⟩) (by assumption) ?_
                    rotate_left
                    · intro w hSw
                      try dsimp only at hSw
                      go_simp
                      all_goals with_reducible rfl
                    simp only [Act.put, List.setIfInBounds_toArray, List.set_cons_zero, List.set_cons_succ]
                    refine wpAnyH_take (i := 3) (v := ?_) rfl (by kernel_rfl) (by kernel_rfl) (by kernel_rfl) (fun _ _ _ h => h) (Or.inl ⟨by rfl, ?_⟩) (by assumption) ?_
                    rotate_left
                    · intro w hSw
                      try dsimp only at hSw
                      go_simp
                      all_goals with_reducible rfl
                    simp only [Act.put, List.setIfInBounds_toArray, List.set_cons_zero, List.set_cons_succ]
                    refine wpAnyH_take (i := 4) (v := ?_) rfl (by kernel_rfl) (by kernel_rfl) (by kernel_rfl) (fun _ _ _ h => h) (Or.inl ⟨by rfl, ?_⟩) (by assumption) ?_
                    rotate_left
                    · intro w hSw
                      try dsimp only at hSw
                      go_simp
                      all_goals with_reducible rfl
                    simp only [Act.put, List.setIfInBounds_toArray, List.set_cons_zero, List.set_cons_succ]
                    refine wpAnyH_take (i := 5) (v := ?_) rfl (by kernel_rfl) (by kernel_rfl) (by kernel_rfl) (fun _ _ _ h => h) (Or.inl ⟨by rfl, ?_⟩) (by assumption) ?_
                    rotate_left
                    · intro w hSw
                      try dsimp only at hSw
                      go_simp
                      all_goals with_reducible rfl
                    simp only [Act.put, List.setIfInBounds_toArray, List.set_cons_zero, List.set_cons_succ]
                    refine wpAnyH_take (i := 6) (v := ?_) rfl (by kernel_rfl) (by kernel_rfl) (by kernel_rfl) (fun _ _ _ h => h) (Or.inl ⟨by rfl, ?_⟩) (by assumption) ?_
                    rotate_left
                    · intro w hSw
                      try dsimp only at hSw
                      go_simp
                      all_goals with_reducible rfl
                    simp only [Act.put, List.setIfInBounds_toArray, List.set_cons_zero, List.set_cons_succ]
                    refine wpAnyH_take (i := 8) (v := ?_) rfl (by kernel_rfl) (by kernel_rfl) (by kernel_rfl) (fun _ _ _ h => h) (Or.inl ⟨by rfl, ?_⟩) (by assumption) ?_
                    rotate_left
                    · intro w hSw
                      try dsimp only at hSw
                      go_simp
                      all_goals with_reducible rfl
                    simp only [Act.put, List.setIfInBounds_toArray, List.set_cons_zero, List.set_cons_succ]
                    refine wpAnyH_take (i := 9) (v := ?_) rfl (by kernel_rfl) (by kernel_rfl) (by kernel_rfl) (fun _ _ _ h => h) (Or.inl ⟨by rfl, ?_⟩) (by assumption) ?_
                    rotate_left
                    · intro w hSw
                      try dsimp only at hSw
                      go_simp
                      all_goals with_reducible rfl
                    simp only [Act.put, List.setIfInBounds_toArray, List.set_cons_zero, List.set_cons_succ]
                    refine wpAnyH_ready (rs := [2, 10]) (by kernel_rfl) (by simp) ?_
                    refine AllReadyH.cons rfl (fun K1 hK1 => ?_) (AllReadyH.cons rfl (fun K1 hK1 => ?_) AllReadyH.nil)
                    · go_simp
                      refine hK1.out _ _ (HS.out _ HO.out.1) (fun hHeld1 => ?_)
                      clear hK1
                      clear K1
                      refine wpAnyH_ready (rs := [7, 10]) (by kernel_rfl) (by simp) ?_
                      refine AllReadyH.cons rfl (fun K2 hK2 => ?_) (AllReadyH.cons rfl (fun K2 hK2 => ?_) AllReadyH.nil)
                      · refine step_append_nums _ (by rfl) _ _ _ (by rfl) w6.heap.size ItT ItT iI (.int .i64 0) Try.underlying35 hi0 hi1 hi2 hi3 rfl (w6.heap.size) 0 [] (by rfl) HW.out.1 Ar l cpr (by rfl) (HR.out _ HO.out.1) (by omega) (by omega) (by simp) ?_
                        intro v5 w7 hrow7 hgrow7
                        have ho7 := only_grows HO.out.1 hgrow7 (fun j hj => by injection hj with hj; omega)
                        rw [Nat.zero_add, List.nil_append] at hrow7
                        refine hK2.out _ _ (HS.out _ ho7) (fun hHeld2 => ?_)
                        clear hK2
                        clear K2
                        simp only [Act.put, List.setIfInBounds_toArray, List.set_cons_zero, List.set_cons_succ]
                        refine wpAnyH_ready (rs := [10]) (by kernel_rfl) (by simp) ?_
                        refine AllReadyH.cons rfl (fun K3 hK3 => ?_) AllReadyH.nil
                        · go_simp
                          refine hK3.out _ _ (HS.out _ (ho7.alloc _)) (fun hHeld3 => ?_)
                          clear hK3
                          clear K3
                          refine wpAnyH_ready (rs := [11]) (by kernel_rfl) (by simp) ?_
                          refine AllReadyH.cons rfl (fun K4 hK4 => ?_) AllReadyH.nil
                          · refine step_append_lies _ (by rfl) _ _ _ (by rfl) w6.heap.size ItT iI (.int .i64 0) 1 8 Try.underlying35 hi0 hi1 hi2 hi3 rfl (by omega) v5 l.length (l.flatMap irow') (by rfl) (hrow7.alloc _) ⟨w7.heap.size, 0, none⟩ 1 1 [.int .i64 x] (by rfl) (by rfl) (World.news_of_block (cs := #[.int .i64 x]) (heap_alloc_new w7 _)) (by simp [Value.oneCell']) (by omega) (by unfold maxLen; omega) (by omega) (by simp; exact Nat.le_succ_of_le ho7.size) (w7.heap.size + 1) (by simp) ?_
                            intro g8 cap8 w8 hrow8 hgrow8 hat8 hlt8
                            have ho8 := only_grows (ho7.alloc _) hgrow8 (fun j hj => own_base hrow7 hj)
                            refine hK4.out _ _ (HS.out _ ho8) (fun hHeld4 => ?_)
                            clear hK4
                            clear K4
                            simp only [Act.put, List.setIfInBounds_toArray, List.set_cons_zero, List.set_cons_succ]
                            refine wpAnyH_take (i := 12) (v := ?_) rfl (by kernel_rfl) (by kernel_rfl) (by kernel_rfl) (fun _ _ _ h => h) (Or.inl ⟨by rfl, ?_⟩) (by assumption) ?_
                            rotate_left
                            · intro w hSw
                              try dsimp only at hSw
                              go_simp
                              all_goals with_reducible rfl
                            simp only [Act.put, List.setIfInBounds_toArray, List.set_cons_zero, List.set_cons_succ]
                            refine wpAnyH_done (by kernel_rfl) (lastQ_intro rfl rfl ?_) _
                            simp only [List.getElem_toArray, List.getElem_cons_succ, List.getElem_cons_zero]
                            have hend := (HS5.out.only0 ho8).row hon (cp := cap8) (rowN_snoc hrow8) (by have := own_cap hrow8; simpa using this)
                            have hlen8 : (l ++ [x]).length = l.length + 1 := by simp
                            rw [hlen8, hl.out, hx.out] at hend
                            have kh := (HK.out _ ho8).2.1
                            have kf := (HK.out _ ho8).2.2
                            rw [ch] at kh
                            rw [fh] at kf
                            have HE := Lib.hid hend
                            clear hrow8 hgrow8 hat8 hlt8 hrow7 hgrow7 hend hlen8 ho7 ho8
                            go_simp
                            go_step
                            go_meet
                            exact HE.out
                      · go_simp
                        refine hK2.out _ _ (HS.out _ HO.out.2.1) (fun hHeld2 => ?_)
                        clear hK2
                        clear K2
                        refine wpAnyH_ready (rs := [7]) (by kernel_rfl) (by simp) ?_
                        refine AllReadyH.cons rfl (fun K3 hK3 => ?_) AllReadyH.nil
                        · refine step_append_nums _ (by rfl) _ _ _ (by rfl) w6.heap.size ItT ItT iI (.int .i64 0) Try.underlying35 hi0 hi1 hi2 hi3 rfl (w6.heap.size) 0 [] (by rfl) HW.out.2.1 Ar l cpr (by rfl) (HR.out _ HO.out.2.1) (by omega) (by omega) (by simp; omega) ?_
                          intro v5 w7 hrow7 hgrow7
                          have ho7 := only_grows HO.out.2.1 hgrow7 (fun j hj => by injection hj with hj; omega)
                          rw [Nat.zero_add, List.nil_append] at hrow7
                          have hx7 := (hgrow7.block (w6.heap.size + 1) (by simp) (by intro e; injection e with e; omega)).trans HX.out.1
                          refine hK3.out _ _ (HS.out _ ho7) (fun hHeld3 => ?_)
                          clear hK3
                          clear K3
                          simp only [Act.put, List.setIfInBounds_toArray, List.set_cons_zero, List.set_cons_succ]
                          refine wpAnyH_ready (rs := [11]) (by kernel_rfl) (by simp) ?_
                          refine AllReadyH.cons rfl (fun K4 hK4 => ?_) AllReadyH.nil
                          · refine step_append_lies _ (by rfl) _ _ _ (by rfl) w6.heap.size ItT iI (.int .i64 0) 1 8 Try.underlying35 hi0 hi1 hi2 hi3 rfl (by omega) v5 l.length (l.flatMap irow') (by rfl) hrow7 ⟨_, 0, none⟩ 1 1 [.int .i64 x] (by rfl) (by rfl) (World.news_of_block (cs := #[.int .i64 x]) hx7) (by simp [Value.oneCell']) (by omega) (by unfold maxLen; omega) (by omega) ho7.size w7.heap.size rfl ?_
                            intro g8 cap8 w8 hrow8 hgrow8 hat8 hlt8
                            have ho8 := only_grows ho7 hgrow8 (fun j hj => own_base hrow7 hj)
                            refine hK4.out _ _ (HS.out _ ho8) (fun hHeld4 => ?_)
                            clear hK4
                            clear K4
                            simp only [Act.put, List.setIfInBounds_toArray, List.set_cons_zero, List.set_cons_succ]
                            refine wpAnyH_take (i := 12) (v := ?_) rfl (by kernel_rfl) (by kernel_rfl) (by kernel_rfl) (fun _ _ _ h => h) (Or.inl ⟨by rfl, ?_⟩) (by assumption) ?_
                            rotate_left
                            · intro w hSw
                              try dsimp only at hSw
                              go_simp
                              all_goals with_reducible rfl
                            simp only [Act.put, List.setIfInBounds_toArray, List.set_cons_zero, List.set_cons_succ]
                            refine wpAnyH_done (by kernel_rfl) (lastQ_intro rfl rfl ?_) _
                            simp only [List.getElem_toArray, List.getElem_cons_succ, List.getElem_cons_zero]
                            have hend := (HS5.out.only0 ho8).row hon (cp := cap8) (rowN_snoc hrow8) (by have := own_cap hrow8; simpa using this)
                            have hlen8 : (l ++ [x]).length = l.length + 1 := by simp
                            rw [hlen8, hl.out, hx.out] at hend
                            have kh := (HK.out _ ho8).2.1
                            have kf := (HK.out _ ho8).2.2
                            rw [ch] at kh
                            rw [fh] at kf
                            have HE := Lib.hid hend
                            clear hrow8 hgrow8 hat8 hlt8 hrow7 hgrow7 hend hlen8 ho7 ho8
                            go_simp
                            go_step
                            go_meet
                            exact HE.out
                    · go_simp
                      refine hK1.out _ _ (HS.out _ (((Only.refl [] w6).alloc _).drewN 1)) (fun hHeld1 => ?_)
                      clear hK1
                      clear K1
                      refine wpAnyH_ready (rs := [2]) (by kernel_rfl) (by simp) ?_
                      refine AllReadyH.cons rfl (fun K2 hK2 => ?_) AllReadyH.nil
                      · go_simp
                        refine hK2.out _ _ (HS.out _ HO.out.2.2) (fun hHeld2 => ?_)
                        clear hK2
                        clear K2
                        refine wpAnyH_ready (rs := [7]) (by kernel_rfl) (by simp) ?_
                        refine AllReadyH.cons rfl (fun K3 hK3 => ?_) AllReadyH.nil
                        · refine step_append_nums _ (by rfl) _ _ _ (by rfl) w6.heap.size ItT ItT iI (.int .i64 0) Try.underlying35 hi0 hi1 hi2 hi3 rfl (w6.heap.size + 1) 0 [] (by rfl) HW.out.2.2 Ar l cpr (by rfl) (HR.out _ HO.out.2.2) (by omega) (by omega) (by simp; omega) ?_
                          intro v5 w7 hrow7 hgrow7
                          have ho7 := only_grows HO.out.2.2 hgrow7 (fun j hj => by injection hj with hj; omega)
                          rw [Nat.zero_add, List.nil_append] at hrow7
                          have hx7 := (hgrow7.block w6.heap.size (by simp; omega) (by intro e; injection e with e; omega)).trans HX.out.2
                          refine hK3.out _ _ (HS.out _ ho7) (fun hHeld3 => ?_)
                          clear hK3
                          clear K3
                          simp only [Act.put, List.setIfInBounds_toArray, List.set_cons_zero, List.set_cons_succ]
                          refine wpAnyH_ready (rs := [11]) (by kernel_rfl) (by simp) ?_
                          refine AllReadyH.cons rfl (fun K4 hK4 => ?_) AllReadyH.nil
                          · refine step_append_lies _ (by rfl) _ _ _ (by rfl) w6.heap.size ItT iI (.int .i64 0) 1 8 Try.underlying35 hi0 hi1 hi2 hi3 rfl (by omega) v5 l.length (l.flatMap irow') (by rfl) hrow7 ⟨_, 0, none⟩ 1 1 [.int .i64 x] (by rfl) (by rfl) (World.news_of_block (cs := #[.int .i64 x]) hx7) (by simp [Value.oneCell']) (by omega) (by unfold maxLen; omega) (by omega) ho7.size w7.heap.size rfl ?_
                            intro g8 cap8 w8 hrow8 hgrow8 hat8 hlt8
                            have ho8 := only_grows ho7 hgrow8 (fun j hj => own_base hrow7 hj)
                            refine hK4.out _ _ (HS.out _ ho8) (fun hHeld4 => ?_)
                            clear hK4
                            clear K4
                            simp only [Act.put, List.setIfInBounds_toArray, List.set_cons_zero, List.set_cons_succ]
                            refine wpAnyH_take (i := 12) (v := ?_) rfl (by kernel_rfl) (by kernel_rfl) (by kernel_rfl) (fun _ _ _ h => h) (Or.inl ⟨by rfl, ?_⟩) (by assumption) ?_
                            rotate_left
                            · intro w hSw
                              try dsimp only at hSw
                              go_simp
                              all_goals with_reducible rfl
                            simp only [Act.put, List.setIfInBounds_toArray, List.set_cons_zero, List.set_cons_succ]
                            refine wpAnyH_done (by kernel_rfl) (lastQ_intro rfl rfl ?_) _
                            simp only [List.getElem_toArray, List.getElem_cons_succ, List.getElem_cons_zero]
                            have hend := (HS5.out.only0 ho8).row hon (cp := cap8) (rowN_snoc hrow8) (by have := own_cap hrow8; simpa using this)
                            have hlen8 : (l ++ [x]).length = l.length + 1 := by simp
                            rw [hlen8, hl.out, hx.out] at hend
                            have kh := (HK.out _ ho8).2.1
                            have kf := (HK.out _ ho8).2.2
                            rw [ch] at kh
                            rw [fh] at kf
                            have HE := Lib.hid hend
                            clear hrow8 hgrow8 hat8 hlt8 hrow7 hgrow7 hend hlen8 ho7 ho8
                            go_simp
                            go_step
                            go_meet
                            exact HE.out
                  case rest =>
                   as_aux_lemma =>
                    have HE := Lib.hid hcut
                    clear hcut
                    clear HO HW HX HR HK HS5 e2 ch fh hnl6 hhl
                    go_wp2_with fail
                    go_meet
                    exact ⟨putQ q on (l ++ [x]), HE.out, HH.out.2.2.2.put (by have := HH.out.2.2.2 on; rw [hl.out] at this; simp; omega)⟩
          · have cQ := Lib.hid fun (L : List Int) (hm : MemP g 738 UT w4 L) => qpush_bad hm (on : Int) d.t (.inr (by omega))
            have hb2 : d.t < 0 ∨ (¬ d.t < 0 ∧ 31 < d.t) := by omega
            clear hbad
            obtain ⟨⟨L, hm, hq⟩, -, -, -, -⟩ := HH.out.2.1
            have cB := cQ.out L hm
            rw [show errV 2 = .iface 43 (.int .i64 2) from rfl] at cB
            have cC := Lib.hid fun W => code_some 2 W (by omega) (by omega)
            have HM := Lib.hid (And.intro hm hq)
            clear cQ hm hq
            rcases hb2 with hb2 | ⟨hb2, hb3⟩
            all_goals
              go_wp2_with (first | ((with_reducible refine cB.mono ?_); clear cB e0 e1 e2; rintro e w5 ⟨rfl, hm5, ho5⟩; have HS5 := Lib.hid (HH.out.2.1.turn hm5 HM.out.2 ho5); clear hm5 ho5) | ((with_reducible refine (cC.out _).mono ?_); rintro e w6 ⟨rfl, hw⟩; replace hw := hw.symm; subst hw))
              go_meet
              exact ⟨_, HS5.out, HH.out.2.2.2.more⟩
        · by_cases hp2 : p = 2
          · obtain rfl := hp2
            have HM0 := HH.out.2.1.words
            obtain ⟨L, hm, hq⟩ := HM0
            obtain ⟨Ar, cpr, ch, hR, hcr⟩ := HH.out.2.1.rows.cellC hon
            have hb0' : (0 : Int) ≤ (on : Int) := by omega
            have hb1' : (on : Int) < 4 := by omega
            have hhl := HH.out.2.1.rows.lt
            cases hqe : q on with
            | nil =>
              have cQ := qpop_none hm hq (o := (on : Int)) ⟨by omega, by omega⟩ hqe
              have HM := Lib.hid hm
              have HQE := Lib.hid hqe
              clear hm hq hqe hR hcr ch
              as_aux_lemma =>
                go_wp2_with ((with_reducible refine cQ.mono ?_); clear cQ e0 e1 e2; rintro e w5 ⟨rfl, hm5, ho5⟩; have HS5 := Lib.hid (HH.out.2.1.read HM.out hm5 ho5); obtain ⟨A5, cp5, ch5, -⟩ := HS5.out.rows.cell hon; rw [HQE.out] at ch5; have hhl5 := HS5.out.rows.lt; clear hm5 ho5)
                go_meet
                exact ⟨q, HS5.out, HH.out.2.2.2.more⟩
            | cons t tl =>
              have cQ := qpop_is hm hq (o := (on : Int)) ⟨by omega, by omega⟩ hqe
              have HQE := Lib.hid hqe
              have hlt0 := HH.out.2.2.2 on
              rw [hqe] at hlt0
              have htl : tl.length ≤ 200 := by have := HLT.out; simp at hlt0; omega
              have HLN := Lib.hid hlt0
              clear hm hq hqe hR hcr ch hlt0
              go_wp2_with fail
              (with_reducible refine cQ.mono ?_)
              clear cQ e0 e1 e2
              rintro e w5 ⟨L5, rfl, hm5, hq5, ho5⟩
              have HS5 := Lib.hid (HH.out.2.1.turn hm5 hq5 ho5)
              obtain ⟨A5, cp5, ch5, hR5, hc5⟩ := HS5.out.rows.cellC hon
              rw [HQE.out] at ch5 hR5 hc5
              obtain ⟨gA, rfl, hgA, k0⟩ := rowN_cell (k := 0) (x := t) hR5 rfl
              have hhl5 := HS5.out.rows.lt
              have hc5' : tl.length + 1 ≤ cp5 := hc5.1
              have fh := HS5.out.rows.frozen on
              have HR5 := Lib.hid (And.intro hR5 hc5)
              rw [show (t :: tl).length = tl.length + 1 from rfl] at ch5
              clear hm5 hq5 ho5 hR5 hc5
              go_upto_region 28 with fail
              obtain ⟨w6, hw6⟩ : ∃ w6, w6 = w5 := ⟨_, rfl⟩
              rw [← hw6] at ch5 k0 hgA hhl5 fh HR5 HS5 ⊢
              clear hw6
              obtain ⟨iI, hi0, hi1, hi2, hi3⟩ := info_parts infoIt
              have own1 := World.ownsRow_lit (base := w6.heap.size) (e := ItT) (size := 1) w6 #[] 0 (Nat.le_refl _) (by unfold maxLen; omega) rfl
              have o1 : Only [] w6 (w6.alloc (.cells #[] ItT)) := (Only.refl [] w6).alloc _
              have HL : Hid (∀ (j : Nat) (y : Int), tl[j]? = some y → (w6.alloc (.cells #[] ItT)).cell? ((⟨gA, 1, none⟩ : Addr).add j) = some (.int .i64 y)) := Lib.hid fun j y hy => by
                obtain ⟨gB, e, hgB, hc⟩ := rowN_cell (k := j + 1) (x := y) HR5.out.1 hy
                injection e with e
                injection e with e
                subst e
                rw [addr_plus, o1.cell (p := ⟨gA, 1 + j, none⟩) hgA (by simp), Nat.add_comm 1 j]
                exact hc
              have HO := Lib.hid (And.intro own1 o1)
              have HK := Lib.hid fun (W : World) (ho : Only [] w6 W) => And.intro (ho.cell (p := ⟨h, on, none⟩) hhl5 (by simp)) (ho.frozen (p := ⟨h, on, none⟩) hhl5 (by simp))
              have HZ := Lib.hid hc5'
              clear own1 o1
              have hz : (cp5 = 1 ∧ tl = []) ∨ ¬ cp5 = 1 := by
                by_cases e : cp5 = 1
                · exact .inl ⟨e, List.eq_nil_of_length_eq_zero (by omega)⟩
                · exact .inr e
              rcases hz with ⟨rfl, rfl⟩ | hz
              · as_aux_lemma =>
                go_wp2_with (at_builtin; first | (refine wpList_append_at _ (by rfl) _ _ 35 (by rfl) w6.heap.size ItT iI (.int .i64 0) Try.underlying35 hi0 hi1 hi2 hi3 rfl w6.heap.size 0 [] (by rfl) HO.out.1 ⟨gA, 0, none⟩ ([] : List Int) 0 (by rfl) (fun j y hy => by simp at hy) (by first | omega | simp) (by omega) (by simp) ?_; intro v7 w7 hrow7 hgrow7; have ho7 := only_grows HO.out.2 hgrow7 (fun j hj => by injection hj with hj; omega); rw [Nat.zero_add, List.nil_append] at hrow7; have hrow8 := hrow7; obtain ⟨A7, cp7, rfl, hR7⟩ := RowN.of_owns irow'_len hrow7; have hcp7 := own_cap hrow8; have kh := (HK.out _ ho7).1; have kf := (HK.out _ ho7).2; rw [ch5] at kh; rw [fh] at kf; have HE := Lib.hid ((HS5.out.only0 ho7).row hon hR7 hcp7); clear hrow7 hrow8 hgrow7 hR7 hcp7 ho7) | fail)
                go_meet
                exact ⟨_, HE.out, HH.out.2.2.2.put (by have := HLN.out; simp at this ⊢ <;> omega)⟩
              · as_aux_lemma =>
                go_wp2_with (at_builtin; first | (refine wpList_append_at _ (by rfl) _ _ 35 (by rfl) w6.heap.size ItT iI (.int .i64 0) Try.underlying35 hi0 hi1 hi2 hi3 rfl w6.heap.size 0 [] (by rfl) HO.out.1 ⟨gA, 1, none⟩ tl (cp5 - 1) (by rfl) HL.out (by first | omega | simp) (by omega) (by simp) ?_; intro v7 w7 hrow7 hgrow7; have ho7 := only_grows HO.out.2 hgrow7 (fun j hj => by injection hj with hj; omega); rw [Nat.zero_add, List.nil_append] at hrow7; have hrow8 := hrow7; obtain ⟨A7, cp7, rfl, hR7⟩ := RowN.of_owns irow'_len hrow7; have hcp7 := own_cap hrow8; have kh := (HK.out _ ho7).1; have kf := (HK.out _ ho7).2; rw [ch5] at kh; rw [fh] at kf; have HE := Lib.hid ((HS5.out.only0 ho7).row hon hR7 hcp7); clear hrow7 hrow8 hgrow7 hR7 hcp7 ho7) | fail)
                all_goals
                  go_meet
                  exact ⟨_, HE.out, HH.out.2.2.2.put (by have := HLN.out; simp at this ⊢ <;> omega)⟩
          · have hp3 : p = 3 := by omega
            obtain rfl := hp3
            obtain ⟨L, hm, hq⟩ := HH.out.2.1.words
            obtain ⟨Ar, cpr, ch, hR, hcr⟩ := HH.out.2.1.rows.cellC hon
            have hb0' : (0 : Int) ≤ (on : Int) := by omega
            have hb1' : (on : Int) < 4 := by omega
            have hhl := HH.out.2.1.rows.lt
            obtain ⟨l, hl⟩ : ∃ l, Hid (q on = l) := ⟨_, Lib.hid rfl⟩
            have hll1 : l.length ≤ 200 := by rw [← hl.out]; have := HH.out.2.2.2 on; have := HLT.out; omega
            have hnd : l.Nodup := by rw [← hl.out]; exact hq.nd on
            obtain ⟨x, hx⟩ : ∃ x, Hid (d.t = x) := ⟨_, Lib.hid rfl⟩
            rw [hl.out] at ch hR
            rw [hx.out] at e2
            have HR := Lib.hid (And.intro hR hnd)
            have HC := Lib.hid (And.intro (And.intro e0 e1) (And.intro e2 ch))
            obtain ⟨iI, hi0, hi1, hi2, hi3⟩ := info_parts infoIt
            clear hm hq hR hnd hcr e0 e1 e2 ch
            go_wp2_with fail
            go_loopw [13, 14, 15] (fun nv mv iv wr => ∃ j : Nat, j ≤ l.length ∧ iv = .int .i64 j ∧ mv = .bool (decide (x ∈ l.take j)) ∧ wr.ownsRow w4.heap.size ItT 1 nv (filt (l.take j) x).length ((filt (l.take j) x).flatMap irow') ∧ Only [] w4 wr) (fun _ _ iv _ => l.length - (intOf iv).toNat)
            case atStart => exact ⟨0, by omega, rfl, by simp, World.ownsRow_nil _ _ _ _, Only.refl _ _⟩
            case round =>
              obtain ⟨j, hj, rfl, rfl, hown, ho⟩ := hrel
              obtain ⟨⟨e0, e1⟩, e2, ch⟩ := HC.out
              have k2 := ho.cell (p := ⟨n0, 2, none⟩) hnl (by simp)
              rw [e2] at k2
              have kh := ho.cell (p := ⟨h, on, none⟩) hhl (by simp)
              rw [ch] at kh
              have hnl6 := Nat.lt_of_lt_of_le hnl ho.size
              have hhl6 := Nat.lt_of_lt_of_le hhl ho.size
              obtain ⟨mt, hmt⟩ : ∃ mt, Hid (decide (x ∈ l.take j) = mt) := ⟨_, Lib.hid rfl⟩
              rw [hmt.out]
              by_cases hjl : j < l.length
              · obtain ⟨y, hy⟩ : ∃ y, l[j]? = some y := ⟨_, List.getElem?_eq_getElem hjl⟩
                obtain ⟨B, rfl, hB, c1⟩ := rowN_cell HR.out.1 hy
                have c2 := ho.cell (p := ⟨B, j, none⟩) hB (by simp)
                rw [c1] at c2
                have hj0 : (0 : Int) ≤ (j : Int) := by omega
                have hj1 : (j : Int) < (l.length : Int) := by omega
                have HF := Lib.hid (filt_step (x := x) hy)
                have HO := Lib.hid (And.intro hown ho)
                have hle := filt_len (l.take j) x
                rw [List.length_take] at hle
                obtain ⟨M, hM⟩ : ∃ M, Hid (filt (l.take j) x = M) := ⟨_, Lib.hid rfl⟩
                rw [hM.out] at hle
                clear hy c1 e0 e1 e2 ch hown ho
                by_cases e : y = x
                · have q1 : (y == x) = true := by simp [e]
                  have HE := Lib.hid e
                  clear e
                  go_upto_region 34 with fail
                  go_quiet (fail)
                  go_wp2_with fail
                  exact ⟨⟨j + 1, by omega, by go_num, by rw [HF.out.2, if_pos HE.out], by rw [HF.out.1, if_pos HE.out]; exact HO.out.1, HO.out.2.drewN nq⟩, by simp [intOf]; omega⟩
                · have q1 : (y == x) = false := by simp [e]
                  have HE := Lib.hid e
                  clear e
                  go_upto_region 34 with fail
                  go_quiet (fail)
                  obtain ⟨w7, hw7⟩ : ∃ w7, Hid (w7 = wr.drewN nq) := ⟨_, Lib.hid rfl⟩
                  have k7 : w7.cell? ⟨h, on, none⟩ = some (.slice (some ⟨B, 0, none⟩) l.length cpr) := by rw [hw7.out]; exact kh
                  have c7 : w7.cell? ⟨B, j, none⟩ = some (.int .i64 y) := by rw [hw7.out]; exact c2
                  have hhl7 : h < w7.heap.size := by rw [hw7.out]; exact hhl6
                  have hB7 : B < w7.heap.size := by rw [hw7.out]; exact Nat.lt_of_lt_of_le hB HO.out.2.size
                  have own7 : (w7.alloc (.cells #[.int .i64 y] ItT)).ownsRow w4.heap.size ItT 1 u13 M.length (M.flatMap irow') := by
                    rw [hw7.out, ← hM.out]
                    exact World.ownsRow.alloc HO.out.1 _
                  have o7 : Only [] w4 w7 := by rw [hw7.out]; exact HO.out.2.drewN nq
                  have HO7 := Lib.hid (And.intro own7 o7)
                  rw [← hw7.out]
                  clear own7 o7 hw7 k2 kh c2
                  go_wp2_with (at_builtin; first | (refine wpList_append_lies _ (by rfl) _ _ 35 (by rfl) w4.heap.size ItT iI (.int .i64 0) 1 8 Try.underlying35 hi0 hi1 hi2 hi3 rfl (by omega) u13 M.length (M.flatMap irow') (by rfl) HO7.out.1 ⟨w7.heap.size, 0, none⟩ 1 1 [.int .i64 y] (by rfl) (by rfl) (World.news_of_block (cs := #[.int .i64 y]) (t := ItT) (fr := (0, 0)) (heap_alloc_new w7 _)) (by simp [Value.oneCell']) (by omega) (by unfold maxLen; omega) (by omega) (by simp; exact Nat.le_succ_of_le HO7.out.2.size) (w7.heap.size + 1) (by simp) ?_; intro g8 cap8 w8 hrow8 hgrow8 hat8 hlt8) | fail)
                  refine ⟨⟨j + 1, by omega, by go_num, by rw [HF.out.2, if_neg HE.out, hmt.out], ?_, only_grows (HO7.out.2.alloc _) hgrow8 (fun i hi => own_base HO7.out.1 hi)⟩, by simp [intOf]; omega⟩
                  rw [HF.out.1, if_neg HE.out, hM.out]
                  simpa [List.flatMap_append, irow'] using hrow8
              · obtain rfl : j = l.length := by omega
                rw [List.take_length] at hown hmt
                obtain ⟨A7, cp7, rfl, hR7⟩ := RowN.of_owns irow'_len hown
                have hcp7 := own_cap hown
                have HD : Hid (decide (x ∈ l) = mt) := hmt
                have hfe := filt_erase HR.out.2 x
                have HS7 := Lib.hid (HH.out.2.1.only0 ho)
                have HR7 := Lib.hid (And.intro hR7 (And.intro hcp7 hfe))
                have hj1 : ¬ ((l.length : Int) < (l.length : Int)) := by omega
                clear hown hR7 hcp7 hfe ho e0 e1 e2 ch
                obtain ⟨L, hm, hq⟩ := HS7.out.words
                have cQ := qremove_is hm hq (o := (on : Int)) ⟨by omega, by omega⟩ d.t
                rw [hx.out, hl.out, HD.out] at cQ
                have q1 : (mt != mt) = false := by simp
                clear hm hq
                go_wp2_with fail
                (with_reducible refine cQ.mono ?_)
                clear cQ k2 kh
                rintro e w8 ⟨L8, rfl, hm8, hq8, ho8⟩
                rw [← HR7.out.2.2] at hq8
                have hR8 := HS7.out.rowKeep HR7.out.1 ho8
                have hS8 := HS7.out.turn hm8 hq8 ho8
                obtain ⟨A9, cp9, ch9, -⟩ := hS8.rows.cell hon
                have fh9 := hS8.rows.frozen on
                have hhl8 := hS8.rows.lt
                have HE := Lib.hid (hS8.row hon hR8 HR7.out.2.1)
                clear hm8 hq8 hR8 hS8 ho8
                go_wp2_with fail
                go_meet
                exact ⟨_, HE.out, HH.out.2.2.2.put (by have := filt_len l x; have h9 := HH.out.2.2.2 on; rw [hl.out] at h9; omega)⟩
      case rest =>
        as_aux_lemma =>
        obtain ⟨q1, hS, hlen⟩ := hcut
        have HQ := Lib.hid (And.intro hS hlen)
        clear hS hlen HH e0 e1 e2 hnl hpr
        go_wp2_with fail
        go_loopw [16] (fun i wr => ∃ n : Nat, n ≤ 4 ∧ i = .int .i64 n ∧ Qst w wr g h q1 q1) (fun i _ => 4 - (intOf i).toNat)
        case atStart => exact ⟨0, by omega, rfl, HQ.out.1⟩
        case round =>
          obtain ⟨n, hn, rfl, hS⟩ := hrel
          by_cases hn4 : n < 4
          · have hn0 : (0 : Int) ≤ (n : Int) := by omega
            have hn1 : (n : Int) < 4 := by omega
            obtain ⟨L, hm, hq⟩ := hS.words
            have cL := qlist_is hm hq (o := (n : Int)) ⟨hn0, hn1⟩
            obtain ⟨l, hl⟩ : ∃ l, Hid (q1 n = l) := ⟨_, Lib.hid rfl⟩
            have hll1 : l.length ≤ 200 := by rw [← hl.out]; have := HQ.out.2 n; have := HLT.out; omega
            rw [hl.out] at cL
            have HM := Lib.hid (And.intro hS hm)
            clear hS hm hq
            go_wp2_with fail
            (with_reducible refine cL.mono ?_)
            clear cL
            rintro e w5 ⟨u, rfl, ⟨AU, cpU, rfl, hRU⟩, hm5, ho5⟩
            have HS5 := Lib.hid (HM.out.1.read HM.out.2 hm5 ho5)
            have HRU := Lib.hid hRU
            obtain ⟨A5, cp5, ch5, hR5⟩ := HS5.out.rows.cell hn4
            rw [hl.out] at ch5 hR5
            have hhl5 := HS5.out.rows.lt
            have HR5 := Lib.hid hR5
            have HC5 := Lib.hid ch5
            have qn : ((l.length : Int) != (l.length : Int)) = false := by simp
            clear hm5 ho5 hRU hR5
            go_wp2_with fail
            go_loopw [18] (fun i wr => ∃ j : Nat, j ≤ l.length ∧ i = .int .i64 j ∧ Only [] w5 wr) (fun i _ => l.length - (intOf i).toNat)
            case atStart => exact ⟨0, by omega, rfl, Only.refl _ _⟩
            case round =>
              obtain ⟨j, hj, rfl, ho⟩ := hrel
              by_cases hjl : j < l.length
              · obtain ⟨y, hy⟩ : ∃ y, l[j]? = some y := ⟨_, List.getElem?_eq_getElem hjl⟩
                obtain ⟨B, oB, rfl, -, hB, c1⟩ := HRU.out j y hy
                obtain ⟨B5, rfl, hB5, c5⟩ := rowN_cell HR5.out hy
                have c2 := ho.cell (p := ⟨B, oB + j, none⟩) hB (by simp)
                rw [c1] at c2
                have c3 := ho.cell (p := ⟨B5, j, none⟩) hB5 (by simp)
                rw [c5] at c3
                have kh := ho.cell (p := ⟨h, n, none⟩) hhl5 (by simp)
                rw [HC5.out] at kh
                have hhl6 := Nat.lt_of_lt_of_le hhl5 ho.size
                have hj0 : (0 : Int) ≤ (j : Int) := by omega
                have hj1 : (j : Int) < (l.length : Int) := by omega
                have qy : (y != y) = false := by simp
                have HO := Lib.hid ho
                clear c1 c5 ch5 ho hy
                go_upto_region 49 with fail
                go_quiet (fail)
                go_wp2_with fail
                exact ⟨⟨j + 1, by omega, by go_num, HO.out.drewN nq⟩, by simp [intOf]; omega⟩
              · obtain rfl : j = l.length := by omega
                have HO := Lib.hid (HS5.out.only0 ho)
                have hj1 : ¬ ((l.length : Int) < (l.length : Int)) := by omega
                clear ho ch5
                go_wp2_with fail
                exact ⟨⟨n + 1, by omega, by go_num, HO.out⟩, by simp [intOf]; omega⟩
          · obtain rfl : n = 4 := by omega
            have HS := Lib.hid hS
            have hn1 : ¬ ((4 : Nat) : Int) < 4 := by omega
            clear hS
            go_wp2_with fail
            go_loopw [19] (fun i wr => ∃ t : Nat, 4 ≤ t ∧ t ≤ 32 ∧ i = .int .i64 t ∧ Qst w wr g h q1 q1) (fun i _ => 32 - (intOf i).toNat)
            case atStart => exact ⟨4, by omega, by omega, rfl, HS.out⟩
            case round =>
              obtain ⟨t, ht4, ht, rfl, hS⟩ := hrel
              by_cases ht32 : t < 32
              · have ht0 : (t : Int) < 32 := by omega
                obtain ⟨inn, hin⟩ : ∃ b, inB q1 t = b := ⟨_, rfl⟩
                have cI := in_any hS.rows (t : Int) (fun i _ => by have := HQ.out.2 i; have := HLT.out; omega)
                rw [hin] at cI
                obtain ⟨L, hm, hq⟩ := hS.words
                have hwz : inn = false → atL L ((482 + 8 * t : Nat) : Int) = 0 := fun e => by
                  have := hq.free (t : Int) ⟨by omega, by omega⟩ (fun z => by have := z.2; omega) (pushed_free hq (by rw [hin]; exact e))
                  unfold nxL qw at this
                  rw [show ((482 + 8 * t : Nat) : Int) = 480 + 8 * (t : Int) + 2 by omega]
                  exact this
                have hc := hm.cell (m := 482 + 8 * t) (by omega)
                have hgl : g < wr.heap.size := by obtain ⟨cur, hb⟩ := hm.blkG; exact hb.lt
                have hw1 : IntKind.i64.wrap (8 * (t : Int)) = 8 * (t : Int) := IntWalk.i64_in _ (by omega)
                have hw2 : IntKind.i64.wrap (480 + 8 * (t : Int)) = 480 + 8 * (t : Int) := IntWalk.i64_in _ (by omega)
                have hw3 : IntKind.i64.wrap (480 + 8 * (t : Int) + 2) = 480 + 8 * (t : Int) + 2 := IntWalk.i64_in _ (by omega)
                have hi1 : (480 + 8 * (t : Int) + 2).toNat = 482 + 8 * t := by omega
                have hi2 : 480 + 8 * (t : Int) + 2 < 738 := by omega
                have hi3 : 0 ≤ 480 + 8 * (t : Int) + 2 := by omega
                have HS2 := Lib.hid hS
                clear hS hm hq hin
                cases inn with
                | true =>
                  clear hwz hc
                  go_wp2_with ((with_reducible refine cI.mono ?_); clear cI; rintro e w' ⟨rfl, hw⟩; replace hw := hw.symm; subst hw)
                  exact ⟨⟨t + 1, by omega, by omega, by go_num, HS2.out⟩, by simp [intOf]; omega⟩
                | false =>
                  rw [hwz rfl] at hc
                  clear hwz
                  go_wp2_with ((with_reducible refine cI.mono ?_); clear cI; rintro e w' ⟨rfl, hw⟩; replace hw := hw.symm; subst hw)
                  exact ⟨⟨t + 1, by omega, by omega, by go_num, HS2.out⟩, by simp [intOf]; omega⟩
              · obtain rfl : t = 32 := by omega
                have HS2 := Lib.hid hS
                have ht1 : ¬ ((32 : Nat) : Int) < 32 := by omega
                clear hS
                go_wp2_with fail
                exact ⟨⟨k + 1, q1, by have := HLT.out; omega, by go_num, HS2.out, HQ.out.2⟩, by have := HLT.out; simp [intOf]; omega⟩
    · obtain rfl : k = LL.length := by omega
      have HO := Lib.hid hS.only
      clear hlt hS hlen
      go_wp2_with fail
      go_ret
      exact ⟨rfl, HO.out⟩
end Go.Proofs.Ytlcefgfcihgocaa
