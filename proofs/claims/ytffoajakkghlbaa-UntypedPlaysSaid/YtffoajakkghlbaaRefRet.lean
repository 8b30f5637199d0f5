/- Retype of the document's state (layer 13). -/
import Derived.Test.YtffoajakkghlbaaRefRetA
import Derived.Test.YtffoajakkghlbaaJ19
import Derived.Test.YtffoajakkghlbaaRefNew
import Derived.Deep.DeepCutAuto
namespace Go.Proofs.Ytffoajakkghlbaa
open Go.RowKit
section
variable {w : World} {p gs go : Nat} {S : RSt}
theorem ret_bad {f t k b n : Int} (h : retN S f t k b = n) (hn : n ≠ 0) : retA S f t k b = (0, n) ∧ retS S f t k b = S := by
  unfold retA retS
  rw [h, if_neg hn, if_neg hn]
  exact ⟨rfl, rfl⟩
/-- what Retype leaves -/
def RetPost (w : World) (p gs go : Nat) (S : RSt) (f t k b : Int) (e : Ending) (w' : World) : Prop :=
  e = .returned (.tuple #[.int .i64 (retA S f t k b).1, .int .i64 (retA S f t k b).2]) ∧ RefM w' p gs go (retS S f t k b) ∧ Only [p, gs, go] w w'
theorem ret_post {f t k b n : Int} {w' : World} (h : retN S f t k b = n) (hn : n ≠ 0) (hr : RefM w' p gs go S) (ho : Only [] w w') : RetPost w p gs go S f t k b (.returned (.tuple #[.int .i64 0, .int .i64 n])) w' := by
  obtain ⟨h1, h2⟩ := ret_bad h hn
  unfold RetPost
  rw [h1, h2]
  exact ⟨rfl, hr, ho.more (fun _ _ hx => absurd hx List.not_mem_nil)⟩
set_option maxRecDepth 100000 in
set_option maxHeartbeats 4000000 in
theorem rretype_any (h : RefM w p gs go S) (hs : S.Short) (hmay : ∀ i, (S.cap i).may) (hob : ∀ i : Nat, i < 32 → (S.ob i).FitO) (hns : 0 ≤ S.ns ∧ S.ns ≤ 96) (hno : 0 ≤ S.no ∧ S.no ≤ 32) (f t k b : Int) :
    Calls Try.prog 13 #[.pointer (some ⟨p, 0, none⟩), .int .i64 f, .int .i64 t, .int .i64 k, .int .i64 b] w (RetPost w p gs go S f t k b) := by
  obtain ⟨ra, hra⟩ : ∃ ra, slotOk f = ra := ⟨_, rfl⟩
  obtain ⟨rb, hrb⟩ : ∃ rb, slotOk t = rb := ⟨_, rfl⟩
  have sA := Lib.hid (rslot_is hra)
  have sB := Lib.hid (rslot_is hrb)
  by_cases hbad : ra = false ∨ rb = false
  · have hN : retN S f t k b = 2 := by unfold retN; rw [if_pos (by rw [hra, hrb]; exact hbad)]
    have HN := Lib.hid (ret_post (w := w) (p := p) (gs := gs) (go := go) hN (by decide) h (Only.refl _ _))
    clear hra hrb hN h
    rcases hbad with rfl | rfl
    · go_enter Try.func13, Try.ntmps13
      go_wp2_with (first | ((with_reducible refine (sA.out _).mono ?_); rintro e w' ⟨rfl, hw⟩; replace hw := hw.symm; subst hw) | ((with_reducible refine (sB.out _).mono ?_); rintro e w' ⟨rfl, hw⟩; replace hw := hw.symm; subst hw))
      go_ret2
      exact HN.out
    · cases ra
      all_goals
        go_enter Try.func13, Try.ntmps13
        go_wp2_with (first | ((with_reducible refine (sA.out _).mono ?_); rintro e w' ⟨rfl, hw⟩; replace hw := hw.symm; subst hw) | ((with_reducible refine (sB.out _).mono ?_); rintro e w' ⟨rfl, hw⟩; replace hw := hw.symm; subst hw))
        go_ret2
        exact HN.out
  obtain rfl : ra = true := by cases ra <;> simp_all
  obtain rfl : rb = true := by cases rb <;> simp_all
  have hia := slotOk_yes.1 hra
  have hib := slotOk_yes.1 hrb
  obtain ⟨i, rfl⟩ : ∃ i : Nat, f = i := ⟨f.toNat, by omega⟩
  obtain ⟨j, rfl⟩ : ∃ j : Nat, t = j := ⟨t.toNat, by omega⟩
  have hi0 : (0 : Int) ≤ (i : Int) := by omega
  have hi9 : (i : Int) < 96 := by omega
  have hj0 : (0 : Int) ≤ (j : Int) := by omega
  have hj9 : (j : Int) < 96 := by omega
  have hq1 : ¬ (slotOk (i : Int) = false ∨ slotOk (j : Int) = false) := by rw [hra, hrb]; simp
  obtain ⟨c, hc⟩ : ∃ c, S.cap i = c := ⟨_, rfl⟩
  obtain ⟨r0, r1, r2, r3, r4, r5⟩ := h.capAt (i := i) (by omega)
  obtain ⟨cs, c0⟩ := h.cSlots
  rw [hc] at r0 r1 r2 r3 r4 r5
  have hrg := ((hc ▸ hmay i : c.may)).small
  have HC := Lib.hid hc
  have H := Lib.hid h
  have Q1 := Lib.hid hq1
  clear hra hrb hbad hia hib hc hq1 h
  go_enter Try.func13, Try.ntmps13
  go_upto_region 6 with (first | ((with_reducible refine (sA.out _).mono ?_); rintro e w' ⟨rfl, hw⟩; replace hw := hw.symm; subst hw) | ((with_reducible refine (sB.out _).mono ?_); rintro e w' ⟨rfl, hw⟩; replace hw := hw.symm; subst hw))
  obtain ⟨w1, hw1⟩ : ∃ w1, w1 = w.alloc (.cells c.arr CcT) := ⟨_, rfl⟩
  have hb1 : Blk w1 w.heap.size CcT c.arr := hw1 ▸ Blk.new w CcT c.arr
  have hr1 : RefM w1 p gs go S := hw1 ▸ H.out.only0 ((Only.refl [] w).alloc _)
  have ho1 : Only [] w w1 := hw1 ▸ (Only.refl [] w).alloc _
  rw [← hw1]
  clear hw1 r0 r1 r2 r3 r4 r5 c0 H
  obtain ⟨g, hg⟩ : ∃ g, Hid (w.heap.size = g) := ⟨_, Lib.hid rfl⟩
  rw [hg.out] at hb1 ⊢
  obtain ⟨k0, k1, k2, k3, k4, k5⟩ := hb1.cap
  have hk1 := hb1.lt
  by_cases hkd : c.kind ≠ 1
  · have hN : retN S i j k b = 5 := by unfold retN; rw [if_neg Q1.out, if_pos (.inl (by rw [HC.out]; exact hkd))]
    have HN := Lib.hid (ret_post (w := w) hN (by decide) hr1 ho1)
    have hb : (c.kind != 1) = true := by simp [hkd]
    clear hN hkd hr1 ho1 hb1
    go_wp2_with fail
    go_ret2
    exact HN.out
  have hkb : (c.kind != 1) = false := by simpa using hkd
  obtain ⟨q, hq⟩ : ∃ q, isO S c.obj 1 = q := ⟨_, rfl⟩
  have cI := ris_is hr1 hq
  cases q with
  | false =>
    have hN : retN S i j k b = 5 := by unfold retN; rw [if_neg Q1.out, if_pos (.inr (by rw [HC.out]; exact hq))]
    have HN := Lib.hid (ret_post (w := w) hN (by decide) hr1 ho1)
    clear hN hkd hr1 ho1 hb1 hq
    go_wp2_with ((with_reducible refine cI.mono ?_); clear cI; rintro e w' ⟨rfl, hw⟩; replace hw := hw.symm; subst hw)
    go_ret2
    exact HN.out
  | true =>
  have hq2 : ¬ ((S.cap i).kind ≠ 1 ∨ isO S (S.cap i).obj 1 = false) := by rw [HC.out, hq]; simpa using hkd
  have Q2 := Lib.hid hq2
  have HQ := Lib.hid hq
  clear hq2 hq hkd
  obtain ⟨q3, hq3⟩ : ∃ q3, hasR c.rights 2 = q3 := ⟨_, rfl⟩
  have cH := refHas_any c 2 w1 hrg.r0 hrg.r1 (by decide) (by decide)
  rw [hq3] at cH
  have HB := Lib.hid (And.intro hb1 (And.intro hr1 ho1))
  clear hb1 hr1 ho1
  go_upto_region 9 with (first | ((with_reducible refine cI.mono ?_); clear cI; rintro e w' ⟨rfl, hw⟩; replace hw := hw.symm; subst hw) | ((with_reducible refine cH.mono ?_); clear cH; rintro e w2 ⟨rfl, ho2⟩))
  have hb2 := ho2.blk HB.out.1 (by simp)
  have hr2 := HB.out.2.1.only0 ho2
  have ho3 := HB.out.2.2.trans ho2
  clear HB k0 k1 k2 k3 k4 k5 hk1 ho2
  clear w'
  cases q3 with
  | false =>
    have hN : retN S i j k b = 6 := by unfold retN; rw [if_neg Q1.out, if_neg Q2.out, if_pos (by rw [HC.out]; exact hq3)]
    have HN := Lib.hid (ret_post (w := w) hN (by decide) hr2 ho3)
    clear hN hr2 ho3 hb2 hq3
    go_wp2_with fail
    go_ret2
    exact HN.out
  | true =>
  have hq3' : ¬ hasR (S.cap i).rights 2 = false := by rw [HC.out, hq3]; simp
  have Q3 := Lib.hid hq3'
  obtain ⟨t0, -, -, -, -, -⟩ := hr2.capAt (i := j) (by omega)
  have t1 := hr2.cPar (i := j) (by omega)
  obtain ⟨cs2, c0⟩ := hr2.cSlots
  obtain ⟨kt, hkt⟩ : ∃ kt, (S.cap j).kind = kt := ⟨_, rfl⟩
  obtain ⟨pt, hpt⟩ : ∃ pt, S.par j = pt := ⟨_, rfl⟩
  rw [hkt] at t0
  rw [hpt] at t1
  clear hq3 hq3'
  by_cases h8 : kt ≠ 0
  · have hN : retN S i j k b = 8 := by unfold retN; rw [if_neg Q1.out, if_neg Q2.out, if_neg Q3.out, if_pos (.inl (by rw [hkt]; exact h8))]
    have HN := Lib.hid (ret_post (w := w) hN (by decide) hr2 ho3)
    have hb : (kt != 0) = true := by simp [h8]
    clear hN hr2 ho3 hb2 hkt hpt h8
    go_wp2_with fail
    go_ret2
    exact HN.out
  have hb8 : (kt != 0) = false := by simpa using h8
  by_cases h9 : 0 ≤ pt
  · have hN : retN S i j k b = 8 := by unfold retN; rw [if_neg Q1.out, if_neg Q2.out, if_neg Q3.out, if_pos (.inr (by rw [hpt]; exact h9))]
    have HN := Lib.hid (ret_post (w := w) hN (by decide) hr2 ho3)
    clear hN hr2 ho3 hb2 hkt hpt h8
    go_wp2_with fail
    go_ret2
    exact HN.out
  have hq4 : ¬ ((S.cap j).kind ≠ 0 ∨ 0 ≤ S.par j) := by rw [hkt, hpt]; exact fun e => e.elim h8 h9
  have Q4 := Lib.hid hq4
  obtain ⟨x, hx⟩ : ∃ x, costZ k b = x := ⟨_, rfl⟩
  have cC := Lib.hid (rcost_is hx)
  have HX := Lib.hid hx
  have hxr := costZ_rng k b
  rw [hx] at hxr
  clear hq4 h8 hkt hpt hx
  have HB := Lib.hid (And.intro hb2 (And.intro hr2 ho3))
  clear hb2 hr2 ho3
  go_upto_region 14 with ((with_reducible refine (cC.out _).mono ?_); rintro e w' ⟨rfl, rfl⟩)
  by_cases h5 : x < 0
  · have hN : retN S i j k b = 1 := by unfold retN; rw [if_neg Q1.out, if_neg Q2.out, if_neg Q3.out, if_neg Q4.out, if_pos (by rw [HX.out]; exact h5)]
    have HN := Lib.hid (ret_post (w := w) hN (by decide) HB.out.2.1 HB.out.2.2)
    clear hN
    go_wp2_with fail
    go_ret2
    exact HN.out
  have hq5 : ¬ costZ k b < 0 := by rw [HX.out]; exact h5
  have Q5 := Lib.hid hq5
  clear hq5 t0 t1 c0 h9 hb8 hkb
  go_upto_region 16 with fail
  have hio : 0 ≤ c.obj ∧ c.obj ≤ 31 ∧ (S.ob c.obj).kind = 1 := of_decide_eq_true HQ.out
  obtain ⟨m, hm⟩ : ∃ m : Nat, c.obj = m := ⟨c.obj.toNat, by omega⟩
  rw [hm] at hio
  have hm32 : m < 32 := by omega
  have hmi0 : (0 : Int) ≤ (m : Int) := by omega
  have hmi9 : (m : Int) < 32 := by omega
  obtain ⟨co, c1⟩ := HB.out.2.1.cObjs
  obtain ⟨-, -, k2, -, -, -⟩ := HB.out.1.cap
  rw [hm] at k2
  have hk1 := HB.out.1.lt
  have HM := Lib.hid hm
  have HK := Lib.hid hio.2.2
  obtain ⟨A, cp, hrow, hqr⟩ := HB.out.2.1.cObj hm32
  have hfit := hob m hm32
  obtain ⟨ox, hox⟩ : ∃ ox, S.ob m = ox := ⟨_, rfl⟩
  rw [hox] at hrow hqr hfit
  have HOX := Lib.hid hox
  obtain ⟨sz, hsz⟩ : ∃ sz, ox.size = sz := ⟨_, rfl⟩
  obtain ⟨us, hus⟩ : ∃ us, ox.used = us := ⟨_, rfl⟩
  have hfs := hfit.size
  have hfu := hfit.used
  rw [hsz] at hfs
  rw [hus] at hfu
  obtain ⟨row, hR⟩ : ∃ row, row = objRow ox (.slice A ox.queue.length cp) := ⟨_, rfl⟩
  have hrl : row.length = 32 := hR ▸ rfl
  have hone : row.toArray.all (·.oneCell') = true := hR ▸ objRow_one _ _ _ _
  have e1 : row[1]? = some (.int .i64 sz) := by rw [hR, ← hsz]; rfl
  have e2 : row[2]? = some (.int .i64 us) := by rw [hR, ← hus]; rfl
  rw [← hR] at hrow
  have hrg : w2.drew.rangeAt go (m * 32) row := hrow
  have HSZ := Lib.hid (And.intro hsz hus)
  clear hm hio hox hsz hus hR hrow hqr hfit
  obtain ⟨FA, hFA⟩ : ∃ FA, FA = row.toArray := ⟨_, rfl⟩
  have hsz : FA.size = 32 := by rw [hFA]; simpa using hrl
  have hFL : FA.toList = row := by rw [hFA]
  rw [← hFA] at hone
  have hld : ∀ W, Only [] w2 W → W.cell? ⟨p, 1, none⟩ = some (.slice (some ⟨go, 0, none⟩) 32 co) ∧ W.cell? ⟨g, 2, none⟩ = some (.int .i64 m) ∧ W.rangeAt go (m * 32) row := fun W o =>
    ⟨(o.cell (p := ⟨p, 1, none⟩) HB.out.2.1.ltP (by simp)).trans c1, (o.cell (p := ⟨g, 2, none⟩) hk1 (by simp)).trans k2, fun j v hv => (o.cell (p := ⟨go, m * 32 + j, none⟩) HB.out.2.1.ltO (by simp)).trans (hrg j v hv)⟩
  have HL := Lib.hid hld
  have hS0 := HL.out w2.drew ((Only.refl [] w2).drewN 1)
  clear hld
  refine wp_region_held_drew (S := fun W => W.cell? ⟨p, 1, none⟩ = some (.slice (some ⟨go, 0, none⟩) 32 co) ∧ W.cell? ⟨g, 2, none⟩ = some (.int .i64 m) ∧ W.rangeAt go (m * 32) row) (by kernel_rfl) hS0 (fun hHeld => ?_)
  refine wpAnyH_take (i := 0) (v := ?_) rfl (by kernel_rfl) (by kernel_rfl) (by kernel_rfl) (fun _ _ _ h => h) (Or.inl ⟨by rfl, ?_⟩) (by assumption) ?_
  rotate_left
  · intro w hSw
    try dsimp only at hSw
    go_simp
    all_goals with_reducible rfl
  simp only [Act.put, List.setIfInBounds_toArray, List.set_cons_zero, List.set_cons_succ]
  refine wpAnyH_take (i := 1) (v := ?_) rfl (by kernel_rfl) (by kernel_rfl) (by kernel_rfl) (fun _ _ _ h => h) (Or.inl ⟨by rfl, ?_⟩) (by assumption) ?_
  rotate_left
  · intro w hSw
    try dsimp only at hSw
    go_simp
    all_goals with_reducible rfl
  simp only [Act.put, List.setIfInBounds_toArray, List.set_cons_zero, List.set_cons_succ]
  refine wpAnyH_take (i := 2) (v := ?_) rfl (by kernel_rfl) (by kernel_rfl) (by kernel_rfl) (fun _ _ _ h => h) (Or.inl ⟨by rfl, ?_⟩) (by assumption) ?_
  rotate_left
  · intro w hSw
    try dsimp only at hSw
    go_simp
    all_goals with_reducible rfl
  simp only [Act.put, List.setIfInBounds_toArray, List.set_cons_zero, List.set_cons_succ]
  refine wpAnyH_take (i := 3) (v := ?_) rfl (by kernel_rfl) (by kernel_rfl) (by kernel_rfl) (fun _ _ _ h => h) (Or.inl ⟨by rfl, ?_⟩) (by assumption) ?_
  rotate_left
  · intro w hSw
    try dsimp only at hSw
    go_simp
    all_goals with_reducible rfl
  simp only [Act.put, List.setIfInBounds_toArray, List.set_cons_zero, List.set_cons_succ]
  refine wpAnyH_take (i := 4) (v := ?_) rfl (by kernel_rfl) (by kernel_rfl) (by kernel_rfl) (fun _ _ _ h => h) (Or.inl ⟨by rfl, ?_⟩) (by assumption) ?_
  rotate_left
  · intro w hSw
    try dsimp only at hSw
    go_simp
    all_goals with_reducible rfl
  simp only [Act.put, List.setIfInBounds_toArray, List.set_cons_zero, List.set_cons_succ]
  refine wpAnyH_take (i := 5) (v := ?_) rfl (by kernel_rfl) (by kernel_rfl) (by kernel_rfl) (fun _ _ _ h => h) (Or.inl ⟨by rfl, ?_⟩) (by assumption) ?_
  rotate_left
  · intro w hSw
    try dsimp only at hSw
    go_simp
    all_goals with_reducible rfl
  simp only [Act.put, List.setIfInBounds_toArray, List.set_cons_zero, List.set_cons_succ]
  refine wpAnyH_take (i := 6) (v := ?_) rfl (by kernel_rfl) (by kernel_rfl) (by kernel_rfl) (fun _ _ _ h => h) (Or.inl ⟨by rfl, ?_⟩) (by assumption) ?_
  rotate_left
  · intro w hSw
    try dsimp only at hSw
    go_simp
    all_goals with_reducible rfl
  simp only [Act.put, List.setIfInBounds_toArray, List.set_cons_zero, List.set_cons_succ]
  refine wpAnyH_take (i := 7) (v := .agg row.toArray) rfl (by kernel_rfl) (by kernel_rfl) (by kernel_rfl) (fun _ _ _ h => h) (yieldsIf_load_mid (by rfl) ObT _ rfl go (m * 32) (by kernel_rfl) row _ (by intro _ hSw; exact hSw.2.2) Try.underlying35 (by rfl) (by rw [hrl]; exact sizeOb)) (by assumption) ?_
  simp only [Act.put, List.setIfInBounds_toArray, List.set_cons_zero, List.set_cons_succ]
  rw [← hFA]
  have HFA := Lib.hid hFA
  clear hFA
  have hSR : ∀ Z, (World.drew (w2.alloc (.cells Z ObT))).setRow w2.heap.size FA = (w2.alloc (.cells FA ObT)).drew := fun Z => by
    rw [show (World.drew (w2.alloc (.cells Z ObT))).setRow w2.heap.size FA = World.drew ((w2.alloc (.cells Z ObT)).setRow w2.heap.size FA) from rfl, World.setRow_alloc_new]
  refine wpAnyH_ready (rs := [8]) (by kernel_rfl) (by simp) ?_
  refine AllReadyH.cons rfl (fun K1 hK1 => ?_) AllReadyH.nil
  go_simp
  refine hK1.out _ _ (HL.out _ (((Only.refl [] w2).alloc _).drewN 1)) (fun hHeld1 => ?_)
  clear hK1
  clear K1
  refine wpAnyH_ready (rs := [9]) (by kernel_rfl) (by simp) ?_
  refine AllReadyH.cons rfl (fun K2 hK2 => ?_) AllReadyH.nil
  rw [if_pos (by rfl)]
  refine wp_store_row ObT _ _ rfl w2.heap.size FA (by kernel_rfl) (by kernel_rfl) ObT _ (heap_alloc_new w2 _) (by rw [hsz]; exact sizeOb) (by rw [hsz]; rfl) hone ?_
  rw [hSR]
  refine hK2.out _ _ (HL.out _ (((Only.refl [] w2).alloc _).drewN 1)) (fun hHeld2 => ?_)
  clear hK2
  clear K2
  refine wpAnyH_done (by kernel_rfl) ?_ _
  go_simp
  obtain ⟨w3, hw3⟩ : ∃ w3, w3 = (w2.alloc (.cells FA ObT)).drew := ⟨_, rfl⟩
  have hb3 : Blk w3 w2.heap.size ObT FA := hw3 ▸ (Blk.new w2 ObT FA).drew
  have ho3 : Only [] w2 w3 := hw3 ▸ ((Only.refl [] w2).alloc _).drewN 1
  have hgb := ho3.blk HB.out.1 (by simp)
  have hr3 := HB.out.2.1.only0 ho3
  have hoo := HB.out.2.2.trans ho3
  rw [← hw3]
  obtain ⟨D, hD⟩ : ∃ D, Hid (w2.heap.size = D) := ⟨_, Lib.hid rfl⟩
  rw [hD.out] at hb3 ⊢
  have d1 : w3.cell? ⟨D, 1, none⟩ = some (.int .i64 sz) := by rw [hb3.cell, HFA.out]; simpa using e1
  have d2 : w3.cell? ⟨D, 2, none⟩ = some (.int .i64 us) := by rw [hb3.cell, HFA.out]; simpa using e2
  have dz := hb3.lt
  have HB3 := Lib.hid (And.intro hgb (And.intro hr3 hoo))
  clear hw3 hHeld hHeld1 hHeld2 hS0 HL hSR HB hb3 ho3 hgb hr3 hoo hone hsz hFL hrl hrg c1 k2 hk1 e1 e2 hD
  clear w2
  have hwd : IntKind.i64.wrap (sz - us) = sz - us := IntWalk.i64_in _ (by omega)
  by_cases h14 : sz - us < x
  · have hN : retN S i j k b = 14 := by unfold retN; rw [if_neg Q1.out, if_neg Q2.out, if_neg Q3.out, if_neg Q4.out, if_neg Q5.out, if_pos (by rw [HC.out, HM.out, HOX.out, HSZ.out.1, HSZ.out.2, HX.out]; exact h14)]
    have HN := Lib.hid (ret_post (w := w) hN (by decide) HB3.out.2.1 HB3.out.2.2)
    clear hN
    go_wp2_with fail
    go_ret2
    exact HN.out
  have hq6 : ¬ (S.ob (S.cap i).obj).size - (S.ob (S.cap i).obj).used < costZ k b := by rw [HC.out, HM.out, HOX.out, HSZ.out.1, HSZ.out.2, HX.out]; exact h14
  have Q6 := Lib.hid hq6
  obtain ⟨sl, hsl⟩ : ∃ sl, slotsZ k b = sl := ⟨_, rfl⟩
  have HSL := Lib.hid hsl
  have hslr : 0 ≤ sl ∧ sl ≤ 257 := by
    rw [← hsl]
    unfold slotsZ
    rw [HX.out]
    split <;> omega
  clear hq6 hsl
  go_upto_if 95 with fail
  clear d1 h14 hwd
  go_cut [18] (fun v W => v = .int .i64 sl ∧ W = w3)
  case first =>
    have h2 := HSL.out
    unfold slotsZ at h2
    rw [HX.out] at h2
    by_cases hk : k = 2
    · rw [if_pos hk] at h2
      have hkb : (k == 2) = true := by simp [hk]
      have H2 := Lib.hid h2
      clear h2 hk
      go_wp2_with fail
      go_meet
      exact ⟨by rw [H2.out], rfl⟩
    · rw [if_neg hk] at h2
      have hkb : (k == 2) = false := by simp [hk]
      have H2 := Lib.hid h2
      clear h2 hk
      go_wp2_with fail
      go_meet
      exact ⟨by rw [← H2.out], rfl⟩
  case rest =>
  obtain ⟨rfl, hw⟩ := hcut
  replace hw := hw.symm
  subst hw
  obtain ⟨⟨csz, coz, hph⟩, -, -⟩ := HB3.out.2.1
  obtain ⟨ns, hns'⟩ : ∃ ns, S.ns = ns := ⟨_, rfl⟩
  obtain ⟨no, hno'⟩ : ∃ no, S.no = no := ⟨_, rfl⟩
  rw [hns', hno'] at hph
  rw [hns'] at hns
  rw [hno'] at hno
  have n2 : w3.cell? ⟨p, 2, none⟩ = some (.int .i64 ns) := hph.cell 2
  have n3 : w3.cell? ⟨p, 3, none⟩ = some (.int .i64 no) := hph.cell 3
  have HNS := Lib.hid hns'
  have HNO := Lib.hid hno'
  have hw1 : IntKind.i64.wrap (ns + sl) = ns + sl := IntWalk.i64_in _ (by omega)
  have hw2 : IntKind.i64.wrap (no + 1) = no + 1 := IntWalk.i64_in _ (by omega)
  clear hns' hno' hph
  by_cases h7 : 96 < ns + sl
  · have hN : retN S i j k b = 7 := by unfold retN; rw [if_neg Q1.out, if_neg Q2.out, if_neg Q3.out, if_neg Q4.out, if_neg Q5.out, if_neg Q6.out, if_pos (.inl (by rw [HNS.out, HSL.out]; exact h7))]
    have HN := Lib.hid (ret_post (w := w) hN (by decide) HB3.out.2.1 HB3.out.2.2)
    clear hN
    go_wp2_with fail
    go_ret2
    exact HN.out
  by_cases h7' : 32 < no + 1
  · have hN : retN S i j k b = 7 := by unfold retN; rw [if_neg Q1.out, if_neg Q2.out, if_neg Q3.out, if_neg Q4.out, if_neg Q5.out, if_neg Q6.out, if_pos (.inr (by rw [HNO.out]; exact h7'))]
    have HN := Lib.hid (ret_post (w := w) hN (by decide) HB3.out.2.1 HB3.out.2.2)
    clear hN
    go_wp2_with fail
    go_ret2
    exact HN.out
  have hN0 : retN S i j k b = 0 := by unfold retN; rw [if_neg Q1.out, if_neg Q2.out, if_neg Q3.out, if_neg Q4.out, if_neg Q5.out, if_neg Q6.out, if_neg (by rw [HNS.out, HSL.out, HNO.out]; exact fun e => e.elim h7 h7')]
  have HN0 := Lib.hid hN0
  clear hN0 Q1 Q2 Q3 Q4 Q5 Q6 HQ
  have hnr : ns + sl ≤ 96 ∧ no ≤ 31 := by omega
  go_upto_region 24 with fail
  clear h7 h7' n2 n3
  obtain ⟨co3, c1⟩ := HB3.out.2.1.cObjs
  obtain ⟨-, -, k2, -, -, -⟩ := HB3.out.1.cap
  rw [HM.out] at k2
  have hk1 := HB3.out.1.lt
  obtain ⟨v4, e4, f4⟩ := HB3.out.2.1.fld (i := m) (j := 2) hm32 (by omega)
  have hwu : IntKind.i64.wrap (us + x) = us + x := IntWalk.i64_in _ (by omega)
  refine wp_region_still_tail 12 (by kernel_rfl) (by kernel_rfl) ?_
  simp only [List.take_succ_cons, List.take_zero, List.drop_succ_cons, List.drop_zero]
  iterate 12 still_step
  refine wpStill_nil ?_
  change wpList _ _ _ _ _ w3.drew
  go_upto_region 25 with fail
  have HU : Hid ({ S with ob := setF S.ob m { S.ob m with used := us + x } } = useS S (S.cap i).obj (costZ k b)) := Lib.hid (by
    unfold useS RSt.putO
    rw [HC.out, HM.out, HX.out, HOX.out, HSZ.out.2])
  obtain ⟨hr4, ho4⟩ := HB3.out.2.1.setField (by decide) (by decide) (by decide) (i := m) (j := 2) hm32 (by omega) (.int .i64 (us + x)) { S.ob m with used := us + x } (fun _ => rfl) rfl
  rw [HU.out] at hr4
  obtain ⟨S4, hS4⟩ : ∃ S4, Hid (useS S (S.cap i).obj (costZ k b) = S4) := ⟨_, Lib.hid rfl⟩
  rw [hS4.out] at hr4
  replace hr4 := hr4.drewN 1
  replace ho4 := ho4.drewN 1
  obtain ⟨w4, hw4⟩ : ∃ X4, X4 = (w3.setCell ⟨go, m * 32 + 2, none⟩ (.int .i64 (us + x))).drew := ⟨_, rfl⟩
  rw [show ∀ X : World, X.drewN 1 = X.drew from fun _ => rfl] at hr4 ho4
  rw [← hw4] at hr4 ho4 ⊢
  have HR4 := Lib.hid (And.intro hr4 ((HB3.out.2.2.more (S' := [p, gs, go]) (fun _ _ hx => absurd hx List.not_mem_nil)).trans (ho4.more (S' := [p, gs, go]) (fun y _ hy => by simp at hy; simp [hy]))))
  clear hr4 ho4 hw4 c1 k2 hk1 e4 f4 hwu d2 dz HB3
  clear w3
  go_upto_region 26 with (first | ((with_reducible refine (fresh_any k _).mono ?_); rintro e w5 ⟨rfl, ho5⟩) | (refine wpList_store_row rfl ObT _ _ rfl w5.heap.size (freshA k) (by kernel_rfl) (by kernel_rfl) ObT _ (heap_alloc_new w5 _) sizeOb rfl (objRow_one (RObj.fresh k) none 0 0) ?_; rw [World.setRow_alloc_new]) | fail)
  obtain ⟨w6, hw6⟩ : ∃ X6, X6 = w5.alloc (.cells (freshA k) ObT) := ⟨_, rfl⟩
  have hb6 : Blk w6 w5.heap.size ObT (objRow (RObj.fresh k) (.slice none 0 0)).toArray := hw6 ▸ Blk.new w5 ObT (freshA k)
  have ho6 : Only [] w4 w6 := hw6 ▸ ho5.alloc _
  have hEz := ho5.size
  rw [← hw6]
  clear hw6 ho5
  obtain ⟨E, hE⟩ : ∃ E, Hid (w5.heap.size = E) := ⟨_, Lib.hid rfl⟩
  rw [hE.out] at hb6 hEz ⊢
  clear hE
  clear w5
  have e1 : w6.cell? ⟨E, 1, none⟩ = some (.int .i64 0) := hb6.cell 1
  have f1 : w6.frozen? ⟨E, 1, none⟩ = false := hb6.frozen 1
  have z6 := hb6.lt
  have hwx : IntKind.i64.wrap (x - 1) = x - 1 := IntWalk.i64_in _ (by omega)
  have H6 := Lib.hid (And.intro hb6 (And.intro ho6 hEz))
  clear hb6 ho6 hEz
  go_upto_if 127 with fail
  go_cut [] (fun W => Blk W E ObT (objRow (if k = 1 then { RObj.fresh k with size := x - 1 } else RObj.fresh k) (.slice none 0 0)).toArray ∧ Only [] w4 W)
  case first =>
    by_cases hk : k = 1
    · have hkb : (k == 1) = true := by simp [hk]
      have HK1 := Lib.hid hk
      clear hk
      go_wp2_with fail
      go_meet
      exact ⟨by rw [if_pos HK1.out]; exact H6.out.1.set_ 1 (.int .i64 (x - 1)), H6.out.2.1.setCell (.inr H6.out.2.2) _⟩
    · have hkb : (k == 1) = false := by simp [hk]
      have HK1 := Lib.hid hk
      clear hk
      go_wp2_with fail
      go_meet
      exact ⟨by rw [if_neg HK1.out]; exact H6.out.1, H6.out.2.1⟩
  case rest =>
  obtain ⟨hb7, ho7⟩ := hcut
  obtain ⟨w7, hw7⟩ : ∃ X7, X7 = wc := ⟨_, rfl⟩
  rw [← hw7] at hb7 ho7 ⊢
  clear hw7
  have hr7 := HR4.out.1.only0 ho7
  obtain ⟨⟨csz, coz, hph⟩, -, -⟩ := hr7
  have hn4 : S4.ns = ns := by rw [← hS4.out]; exact HNS.out
  have hn5 : S4.no = no := by rw [← hS4.out]; exact HNO.out
  have n2 : w7.cell? ⟨p, 2, none⟩ = some (.int .i64 S4.ns) := hph.cell 2
  rw [hn4] at n2
  have HN45 := Lib.hid (And.intro hn4 hn5)
  have f3 : w7.frozen? ⟨E, 3, none⟩ = false := hb7.frozen 3
  have f4 : w7.frozen? ⟨E, 4, none⟩ = false := hb7.frozen 4
  have g3 : ∃ v, w7.cell? ⟨E, 3, none⟩ = some v := ⟨_, hb7.cell 3⟩
  have g4 : ∃ v, w7.cell? ⟨E, 4, none⟩ = some v := ⟨_, hb7.cell 4⟩
  obtain ⟨v3, g3⟩ := g3
  obtain ⟨v4, g4⟩ := g4
  have z7 := hb7.lt
  have H7 := Lib.hid (And.intro hb7 (And.intro ho7 H6.out.2.2))
  clear hb7 ho7 hph hn4 hn5
  go_upto_if 132 with fail
  go_cut [] (fun W => Blk W E ObT (objRow (newO S k b) (.slice none 0 0)).toArray ∧ Only [] w4 W)
  case first =>
    by_cases hk : k = 2
    · have hkb : (k == 2) = true := by simp [hk]
      have hN : newO S k b = { RObj.fresh k with first := ns, radix := b } := by unfold newO; rw [if_neg (by omega), if_pos hk, HNS.out]
      have HN2 := Lib.hid hN
      have HB7 : Hid (Blk w7 E ObT (objRow (RObj.fresh k) (.slice none 0 0)).toArray) := Lib.hid (by have q := H7.out.1; rw [if_neg (by omega)] at q; exact q)
      clear hk hN
      go_wp2_with fail
      go_meet
      exact ⟨by rw [HN2.out]; exact (HB7.out.set_ 3 (.int .i64 ns)).set_ 4 (.int .i64 b), (H7.out.2.1.setCell (.inr H7.out.2.2) _).setCell (.inr H7.out.2.2) _⟩
    · have hkb : (k == 2) = false := by simp [hk]
      have hN : newO S k b = if k = 1 then { RObj.fresh k with size := x - 1 } else RObj.fresh k := by unfold newO; rw [if_neg hk, HX.out]
      have HN2 := Lib.hid hN
      clear hk hN
      go_wp2_with fail
      go_meet
      exact ⟨by rw [HN2.out]; exact H7.out.1, H7.out.2.1⟩
  case rest =>
  obtain ⟨hb8, ho8⟩ := hcut
  obtain ⟨w8, hw8⟩ : ∃ X8, X8 = wc := ⟨_, rfl⟩
  rw [← hw8] at hb8 ho8 ⊢
  clear hw8
  have hr8 := HR4.out.1.only0 ho8
  have hE8 := H7.out.2.2
  obtain ⟨⟨csz8, coz8, hph⟩, -, -⟩ := id hr8
  have n3 : w8.cell? ⟨p, 3, none⟩ = some (.int .i64 S4.no) := hph.cell 3
  rw [HN45.out.2] at n3
  obtain ⟨co, c1⟩ := hr8.cObjs
  obtain ⟨nn, hnn⟩ : ∃ nn : Nat, no = nn := ⟨no.toNat, by omega⟩
  have hnn32 : nn < 32 := by omega
  have hoo8 : Only [p, gs, go] w w8 := HR4.out.2.trans (ho8.more (S' := [p, gs, go]) (fun _ _ hx => absurd hx List.not_mem_nil))
  obtain ⟨xo, hxo⟩ : ∃ xo, newO S k b = xo := ⟨_, rfl⟩
  rw [hxo] at hb8
  have hxq : xo.queue = [] := by
    rw [← hxo]
    unfold newO
    repeat' split
    all_goals rfl
  have HXO := Lib.hid hxo
  clear hxo n2 f3 f4 g3 g4 z7 H7 H6 e1 f1 z6 hwx hph
  subst hnn
  go_upto_region 32 with fail
  obtain ⟨row8, hrow8⟩ : ∃ row8, row8 = objRow xo (.slice none 0 0) := ⟨_, rfl⟩
  have hrl8 : row8.length = 32 := hrow8 ▸ rfl
  have hone8 : row8.toArray.all (·.oneCell') = true := hrow8 ▸ objRow_one _ _ _ _
  rw [← hrow8] at hb8
  have hrg8 : w8.drew.rangeAt E 0 row8 := fun j v hv => by rw [hb8.drew.cell]; simpa using hv
  have HROW8 := Lib.hid hrow8
  clear hrow8
  have hT : w8.drew.there go (nn * 32) 32 := (hr8.drewN 1).thereO hnn32
  have hni : (0 : Int) ≤ (nn : Int) := by omega
  have hn32 : (nn : Int) < 32 := by omega
  clear n3
  refine wp_region_still_tail 7 (by kernel_rfl) (by kernel_rfl) ?_
  simp only [List.take_succ_cons, List.take_zero, List.drop_succ_cons, List.drop_zero]
  iterate 5 still_step
  refine still_load_mid rfl ObT _ rfl E 0 (by kernel_rfl) row8 _ hrg8 Try.underlying35 rfl (by rw [hrl8]; exact sizeOb) ?_
  still_step
  refine wpStill_nil ?_
  change wpList _ _ _ _ _ w8.drew
  refine wpList_store_mid rfl ObT _ _ rfl go (nn * 32) row8.toArray (by kernel_rfl) (by kernel_rfl) (by simpa [hrl8] using hT) (by simpa [hrl8] using sizeOb) hone8 ?_
  obtain ⟨hr9, ho9⟩ := (hr8.drewN 1).setObj (by decide) (by decide) (by decide) (i := nn) hnn32 xo (qv := .slice none 0 0) (by rw [hxq]; exact NumsV.nil _ _)
  rw [← HROW8.out, show w8.drewN 1 = w8.drew from rfl] at hr9 ho9
  rw [List.toList_toArray]
  obtain ⟨w9, hw9⟩ : ∃ X9, X9 = w8.drew.setCells go (nn * 32) row8 := ⟨_, rfl⟩
  rw [← hw9] at hr9 ho9 ⊢
  replace hr9 : RefM w9 p gs go (S4.putO nn xo) := hr9
  have hoo9 : Only [p, gs, go] w w9 := (hoo8.drewN 1).trans (ho9.more (S' := [p, gs, go]) (fun y _ hy => by simp at hy; simp [hy]))
  clear hw9 ho9 hoo8 hT hrg8 hone8 hrl8 HROW8 c1 hE8 hr8 hb8 ho8 HR4 hxq
  clear w8
  obtain ⟨⟨csz9, coz9, hph⟩, -, -⟩ := id hr9
  have n2 : w9.cell? ⟨p, 2, none⟩ = some (.int .i64 S4.ns) := hph.cell 2
  rw [HN45.out.1] at n2
  have m2 : w9.frozen? ⟨p, 2, none⟩ = false := hph.frozen 2
  have H9 := Lib.hid (And.intro hr9 hoo9)
  clear hr9 hoo9 hph
  go_upto_region 34 with fail
  obtain ⟨hr10, ho10⟩ := H9.out.1.setNs (by decide) (by decide) (by decide) (ns + sl)
  obtain ⟨w10, hw10⟩ : ∃ X10, X10 = w9.setCell ⟨p, 2, none⟩ (.int .i64 (ns + sl)) := ⟨_, rfl⟩
  rw [← hw10] at hr10 ho10 ⊢
  have hoo10 : Only [p, gs, go] w w10 := H9.out.2.trans (ho10.more (S' := [p, gs, go]) (fun y _ hy => by simp at hy; simp [hy]))
  clear hw10 ho10 n2 m2 H9
  clear w9
  obtain ⟨⟨csz10, coz10, hph⟩, -, -⟩ := id hr10
  have n3 : w10.cell? ⟨p, 3, none⟩ = some (.int .i64 S4.no) := hph.cell 3
  rw [HN45.out.2] at n3
  have m3 : w10.frozen? ⟨p, 3, none⟩ = false := hph.frozen 3
  have H10 := Lib.hid (And.intro hr10 hoo10)
  clear hr10 hoo10 hph
  go_upto_region 35 with fail
  obtain ⟨hr11, ho11⟩ := H10.out.1.setNo (by decide) (by decide) (by decide) ((nn : Int) + 1)
  obtain ⟨w11, hw11⟩ : ∃ X11, X11 = w10.setCell ⟨p, 3, none⟩ (.int .i64 ((nn : Int) + 1)) := ⟨_, rfl⟩
  rw [← hw11] at hr11 ho11 ⊢
  have hoo11 : Only [p, gs, go] w w11 := H10.out.2.trans (ho11.more (S' := [p, gs, go]) (fun y _ hy => by simp at hy; simp [hy]))
  clear hw11 ho11 n3 m3 H10
  clear w10
  obtain ⟨S11, hS11⟩ : ∃ S11, S11 = { ({ (S4.putO nn xo) with ns := ns + sl } : RSt) with no := (nn : Int) + 1 } := ⟨_, rfl⟩
  rw [← hS11] at hr11
  have hs11 : S11.Short := by
    rw [hS11, ← hS4.out]
    exact hs
  have HF : Hid (RetPost w p gs go S i j k b = fun e w' => e = .returned (.tuple #[.int .i64 nn, .int .i64 0]) ∧ RefM w' p gs go (belowS S11 i j (fullC k nn)) ∧ Only [p, gs, go] w w') := Lib.hid (by
    unfold RetPost retA retS
    rw [HN0.out, if_pos rfl, if_pos rfl]
    unfold retOk
    rw [HNO.out, HXO.out, HNS.out, HSL.out, hS4.out, hS11])
  have cB := rbelow_any hr11 hs11 i j (fullC k nn)
  rw [show (fullC k (nn : Int)).v = .agg #[.int .i64 k, .int .i64 7, .int .i64 nn, .int .i64 0, .int .i64 0, .int .i64 0] from rfl] at cB
  clear hr11 hs11 hS11
  go_wp2_with fail
  (with_reducible refine cB.mono ?_)
  clear cB
  rintro e w12 ⟨rfl, hr12, ho12⟩
  go_wp2_with fail
  go_ret2
  have HQ12 : RetPost w p gs go S i j k b (.returned (.tuple #[.int .i64 nn, .int .i64 0])) w12 := by
    rw [HF.out]
    exact ⟨rfl, hr12, hoo11.trans (ho12.more (S' := [p, gs, go]) (fun y _ hy => by simp at hy; simp [hy]))⟩
  exact HQ12
end
end Go.Proofs.Ytffoajakkghlbaa
