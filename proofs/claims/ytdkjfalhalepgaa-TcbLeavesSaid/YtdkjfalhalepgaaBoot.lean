/- Boot of the document (layers 11 to 22): the boot state as it lies. -/
import Derived.Test.YtdkjfalhalepgaaJ5
import Derived.Test.YtdkjfalhalepgaaJ17
namespace Go.Proofs.Ytdkjfalhalepgaa
open Go.RowKit
section
variable {w : World} {p gs go : Nat} {S : RSt}
abbrev rootA (t : Int) : Array Value := #[.int .i64 2, .int .i64 7, .int .i64 t, .int .i64 0, .int .i64 0, .int .i64 8]
abbrev kindsA : Array Value := #[.int .i64 2, .int .i64 2, .int .i64 1, .int .i64 3, .int .i64 4, .int .i64 8, .int .i64 7, .int .i64 6]
theorem bootK_two {t m : Nat} (h : 2 ≤ m) : bootK t (m + 1) = ((bootK t m).putO ((t + m : Nat) : Int) (RObj.fresh (kindB m))).putC ((6 + m : Nat) : Int) (fullC (kindB m) (t + m : Nat)) := if_pos h
theorem bootK_one {t m : Nat} (h : ¬ 2 ≤ m) : bootK t (m + 1) = (bootK t m).putO ((t + m : Nat) : Int) (RObj.fresh (kindB m)) := if_neg h
set_option maxRecDepth 100000 in
set_option maxHeartbeats 4000000 in
theorem boot_any (t : Nat) (ht : t ≤ 7) (w : World) : Calls Try.prog 6 #[.int .i64 t] w fun e w' =>
    ∃ gs go, e = .returned (.pointer (some ⟨w.heap.size, 0, none⟩)) ∧ RefM w' w.heap.size gs go (bootS t) ∧ w.heap.size ≤ gs ∧ w.heap.size ≤ go ∧ Only [] w w' := by
  go_enter Try.func6, Try.ntmps6
  go_wp2_with fail
  (with_reducible refine (new_any _).mono ?_)
  rintro e w1 ⟨gs, go, rfl, hr, hgs, hgo, ho⟩
  obtain ⟨p, hp⟩ : ∃ p, Hid (w.heap.size = p) := ⟨_, Lib.hid rfl⟩
  rw [hp.out] at hr hgs hgo ⊢
  go_wp2_with fail
  obtain ⟨w2, hw2⟩ : ∃ w2, w2 = (w1.alloc (.cells (rootA t) CcT)).alloc (.cells kindsA ItT) := ⟨_, rfl⟩
  have hC2 : Blk w2 w1.heap.size CcT (rootA t) := hw2 ▸ (Blk.new w1 CcT (rootA t)).alloc _
  have hK2 : Blk w2 (w1.heap.size + 1) ItT kindsA := by
    have := Blk.new (w1.alloc (.cells (rootA t) CcT)) ItT kindsA
    rw [show (w1.alloc (.cells (rootA t) CcT)).heap.size = w1.heap.size + 1 by simp] at this
    exact hw2 ▸ this
  have hr2 : RefM w2 p gs go RSt.new := hw2 ▸ hr.only0 (((Only.refl [] w1).alloc _).alloc _)
  have ho2 : Only [] w w2 := hw2 ▸ (ho.alloc _).alloc _
  have hq1 : p < w1.heap.size := hr.ltP
  have hq2 : gs < w1.heap.size := hr.ltS
  have hq3 : go < w1.heap.size := hr.ltO
  rw [← hw2]
  obtain ⟨B, hB⟩ : ∃ B, Hid (w1.heap.size = B) := ⟨_, Lib.hid rfl⟩
  rw [hB.out] at hC2 hK2 hq1 hq2 hq3 ⊢
  clear hw2 hr ho hB
  clear w1
  go_loopw [6] (fun i wr => ∃ k : Nat, k ≤ t ∧ i = .int .i64 k ∧ RefM wr p gs go (bootT t k) ∧ Blk wr B CcT (rootA t) ∧ Blk wr (B + 1) ItT kindsA ∧ Only [] w wr) (fun i _ => t - (intOf i).toNat)
  case atStart => exact ⟨0, by omega, rfl, hr2, hC2, hK2, ho2⟩
  case round =>
    clear hr2 hC2 hK2 ho2
    obtain ⟨k, hk, rfl, hr, hC, hK, ho⟩ := hrel
    by_cases hlt : k < t
    · have hR := Lib.hid hr
      have HO := Lib.hid (And.intro hC (And.intro hK ho))
      have hwz := ho.size
      have hk2 : (k : Int) < t := by omega
      have hC1 := hC.lt
      obtain ⟨cs, c0⟩ := hr.cSlots
      obtain ⟨co, c1⟩ := hr.cObjs
      obtain ⟨r0, r1, r2, r3, r4, r5⟩ := hC.cap
      clear hr hC hK ho
      go_upto_region 8 with (first | ((with_reducible refine (fresh_any 5 _).mono ?_); rintro e w3 ⟨rfl, ho3⟩) | (refine wpList_store_row rfl ObT _ _ rfl w3.heap.size (freshA 5) (by rfl) (by rfl) ObT _ (heap_alloc_new w3 _) sizeOb rfl (objRow_one (RObj.fresh 5) none 0 0) ?_; rw [World.setRow_alloc_new]) | fail)
      obtain ⟨w4, hw4⟩ : ∃ w4, w4 = w3.alloc (.cells (freshA 5) ObT) := ⟨_, rfl⟩
      have hD4 : Blk w4 w3.heap.size ObT (freshA 5) := hw4 ▸ Blk.new w3 ObT (freshA 5)
      have ho4 : Only [] wr w4 := hw4 ▸ ho3.alloc _
      have hz4 := ho3.size
      have d4 : w3.heap.size < w4.heap.size := hD4.lt
      have f8 : w4.frozen? ⟨w3.heap.size, 8, none⟩ = false := hD4.frozen 8
      have f14 : w4.frozen? ⟨w3.heap.size, 14, none⟩ = false := hD4.frozen 14
      have f15 : w4.frozen? ⟨w3.heap.size, 15, none⟩ = false := hD4.frozen 15
      have f16 : w4.frozen? ⟨w3.heap.size, 16, none⟩ = false := hD4.frozen 16
      have f17 : w4.frozen? ⟨w3.heap.size, 17, none⟩ = false := hD4.frozen 17
      have f18 : w4.frozen? ⟨w3.heap.size, 18, none⟩ = false := hD4.frozen 18
      have f19 : w4.frozen? ⟨w3.heap.size, 19, none⟩ = false := hD4.frozen 19
      have e8 : w4.cell? ⟨w3.heap.size, 8, none⟩ = some (.int .i64 0) := hD4.cell 8
      have e14 : w4.cell? ⟨w3.heap.size, 14, none⟩ = some (.int .i64 0) := hD4.cell 14
      have e15 : w4.cell? ⟨w3.heap.size, 15, none⟩ = some (.int .i64 0) := hD4.cell 15
      have e16 : w4.cell? ⟨w3.heap.size, 16, none⟩ = some (.int .i64 0) := hD4.cell 16
      have e17 : w4.cell? ⟨w3.heap.size, 17, none⟩ = some (.int .i64 0) := hD4.cell 17
      have e18 : w4.cell? ⟨w3.heap.size, 18, none⟩ = some (.int .i64 0) := hD4.cell 18
      have e19 : w4.cell? ⟨w3.heap.size, 19, none⟩ = some (.int .i64 0) := hD4.cell 19
      obtain ⟨r0, r1, r2, r3, r4, r5⟩ := (ho4.blk HO.out.1 (by simp)).cap
      rw [← hw4]
      clear hw4 ho3 c0 c1
      generalize w3.heap.size = D at *
      clear w3
      go_upto_region 10 with fail
      obtain ⟨w5, hw5⟩ : ∃ w5, w5 = ((((((w4.setCell ⟨D, 8, none⟩ (.int .i64 1)).setCell ⟨D, 14, none⟩ (.int .i64 2)).setCell ⟨D, 15, none⟩ (.int .i64 7)).setCell ⟨D, 16, none⟩ (.int .i64 t)).setCell ⟨D, 17, none⟩ (.int .i64 0)).setCell ⟨D, 18, none⟩ (.int .i64 0)).setCell ⟨D, 19, none⟩ (.int .i64 8) := ⟨_, rfl⟩
      have hD5 : Blk w5 D ObT (objRow (thrO t) (.slice none 0 0)).toArray := hw5 ▸ ((((((hD4.set_ 8 (.int .i64 1)).set_ 14 (.int .i64 2)).set_ 15 (.int .i64 7)).set_ 16 (.int .i64 t)).set_ 17 (.int .i64 0)).set_ 18 (.int .i64 0)).set_ 19 (.int .i64 8)
      have ho5 : Only [] wr w5 := hw5 ▸ ((((((ho4.setCell (.inr hz4) _).setCell (.inr hz4) _).setCell (.inr hz4) _).setCell (.inr hz4) _).setCell (.inr hz4) _).setCell (.inr hz4) _).setCell (.inr hz4) _
      rw [← hw5]
      clear hw5 hD4 ho4 f8 f14 f15 f16 f17 f18 f19 e8 e14 e15 e16 e17 e18 e19 r0 r1 r2 r3 r4 r5 d4
      clear w4
      have hr5 := hR.out.only0 ho5
      obtain ⟨co, c1⟩ := hr5.cObjs
      have hdg : D ≠ go := by omega
      have hdp : p ≠ go := Blk.ne_ hr5.head.choose_spec.choose_spec hr5.objs.choose_spec.1 (by decide)
      have hT : w5.drew.there go (k * 32) 32 := (hr5.drewN 1).thereO (by omega)
      obtain ⟨row, hrow⟩ : ∃ row, row = objRow (thrO t) (.slice none 0 0) := ⟨_, rfl⟩
      have hrl : row.length = 32 := hrow ▸ rfl
      have hr1 : row.toArray.all (·.oneCell') = true := hrow ▸ objRow_one _ _ _ _
      rw [← hrow] at hD5
      have hrg : w5.drew.rangeAt D 0 row := fun j v hv => by rw [hD5.drew.cell]; simpa using hv
      have HR := Lib.hid hrow
      clear hrow
      have hki : (0 : Int) ≤ k := by omega
      have hk32 : (k : Int) < 32 := by omega
      refine wp_region_still_tail 7 (by kernel_rfl) (by kernel_rfl) ?_
      simp only [List.take_succ_cons, List.take_zero, List.drop_succ_cons, List.drop_zero]
      iterate 5 still_step
      refine still_load_mid rfl ObT _ rfl D 0 (by rfl) row _ hrg Try.underlying61 rfl (by rw [hrl]; exact sizeOb) ?_
      still_step
      refine wpStill_nil ?_
      change wpList _ _ _ _ _ w5.drew
      refine wpList_store_mid rfl ObT _ _ rfl go (k * 32) row.toArray (by rfl) (by rfl) (by simpa [hrl] using hT) (by simpa [hrl] using sizeOb) hr1 ?_
      obtain ⟨hr6, ho6⟩ := (hr5.drewN 1).setObj (by decide) (by decide) (by decide) (i := k) (by omega) (thrO t) (qv := .slice none 0 0) (NumsC.nil _ _)
      rw [← HR.out] at hr6 ho6
      obtain ⟨w6, hw6⟩ : ∃ w6, w6 = w5.drew.setCells go (k * 32) row := ⟨_, rfl⟩
      replace hr6 : RefM w6 p gs go ((bootT t k).putO k (thrO t)) := by rw [hw6]; exact hr6
      have hog : Only [] w w6 := by
        rw [hw6]
        exact ((HO.out.2.2.trans ho5).drewN 1).then ho6 (fun y hy => .inr (by simp at hy; rw [hy, hp.out]; exact hgo))
      have hoo : Only [go] wr w6 := by
        rw [hw6]
        exact ((ho5.more (S' := [go]) (fun _ _ hx => absurd hx List.not_mem_nil)).drewN 1).trans ho6
      rw [List.toList_toArray, ← hw6]
      clear hw6 ho6 hr5 c1 hT hrg hrl hr1 HR hD5 ho5 hdg hdp hz4
      clear w5
      obtain ⟨cs, c0⟩ := hr6.cSlots
      have hT := hr6.thereC (i := 14 + k) (by omega)
      have hwr : IntKind.i64.wrap (14 + (k : Int)) = 14 + (k : Int) := IntWalk.i64_in _ (by omega)
      have hix : (14 + (k : Int)).toNat = 14 + k := by omega
      have hi0 : (0 : Int) ≤ 14 + (k : Int) := by omega
      have hi9 : 14 + (k : Int) < 96 := by omega
      obtain ⟨hr7, ho7⟩ := hr6.setCap (by decide) (by decide) (by decide) (i := 14 + k) (by omega) (fullC 5 k)
      go_upto_region 11 with fail
      refine wp_region_lit ?_
      go_wp2_with (first | (refine wpList_store_cap rfl (.tmp 38) (.tmp 36) rfl gs ((14 + k) * 8) (fullC 5 k) ?_ ?_ ?_ ?_; rfl; rfl; exact hT) | fail)
      refine ⟨⟨k + 1, by omega, by go_num, hr7, ho7.blk (hoo.blk HO.out.1 (by simp; omega)) (by simp; omega), ho7.blk (hoo.blk HO.out.2.1 (by simp; omega)) (by simp; omega), hog.then ho7 (fun y hy => .inr (by simp at hy; rw [hy, hp.out]; exact hgs))⟩, by simp [intOf]; omega⟩
    · have hkt : k = t := by omega
      have HR : Hid (RefM wr p gs go (bootK t 0)) := Lib.hid (by rw [hkt] at hr; exact hr)
      have HO := Lib.hid (And.intro hC (And.intro hK ho))
      have hf : ¬ ((k : Int) < t) := by omega
      clear hr hC hK ho hlt hk hkt
      obtain ⟨wo, rfl⟩ : ∃ x, x = wr := ⟨_, rfl⟩
      go_wp2_with fail
      go_loopw [8] (fun i wr => ∃ m : Nat, m ≤ 8 ∧ i = .int .i64 m ∧ RefM wr p gs go (bootK t m) ∧ Blk wr B CcT (rootA t) ∧ Blk wr (B + 1) ItT kindsA ∧ Only [] w wr) (fun i _ => 8 - (intOf i).toNat)
      case atStart => exact ⟨0, by omega, rfl, HR.out, HO.out⟩
      case round =>
        clear HR HO hf
        obtain ⟨m, hm, rfl, hr, hC, hK, ho⟩ := hrel
        by_cases hlt : m < 8
        · have HR := Lib.hid hr
          have HO := Lib.hid (And.intro hC (And.intro hK ho))
          have hwz := ho.size
          have hB1 := hK.lt
          have hC1 := hC.lt
          obtain ⟨cs, c0⟩ := hr.cSlots
          obtain ⟨co, c1⟩ := hr.cObjs
          have hkd : kindsA[m]? = some (.int .i64 (kindB m)) := by
            obtain rfl | rfl | rfl | rfl | rfl | rfl | rfl | rfl : m = 0 ∨ m = 1 ∨ m = 2 ∨ m = 3 ∨ m = 4 ∨ m = 5 ∨ m = 6 ∨ m = 7 := by omega
            all_goals rfl
          obtain ⟨q, hq⟩ : ∃ q, Hid (kindB m = q) := ⟨_, Lib.hid rfl⟩
          rw [hq.out] at hkd
          have d0 : wr.cell? ⟨B + 1, m, none⟩ = some (.int .i64 q) := by rw [hK.cell]; exact hkd
          have hwr : IntKind.i64.wrap ((t : Int) + (m : Int)) = (t : Int) + (m : Int) := IntWalk.i64_in _ (by omega)
          have hix : ((t : Int) + (m : Int)).toNat = t + m := by omega
          have hi0 : (0 : Int) ≤ (t : Int) + (m : Int) := by omega
          have hi9 : (t : Int) + (m : Int) < 32 := by omega
          have hm0 : (0 : Int) ≤ (m : Int) := by omega
          have hm8 : (m : Int) < 8 := by omega
          have hoy : Only [] wr wr.drew := (Only.refl _ _).drewN 1
          have hHC : ∀ W, Only [] wr W → W.cell? ⟨p, 1, none⟩ = some (.slice (some ⟨go, 0, none⟩) 32 co) ∧ W.cell? ⟨B + 1, m, none⟩ = some (.int .i64 q) := fun W o => ⟨(o.cell (p := ⟨p, 1, none⟩) hr.ltP (by simp)).trans c1, (o.cell (p := ⟨B + 1, m, none⟩) hK.lt (by simp)).trans d0⟩
          have HC := Lib.hid hHC
          have hS0 : wr.drew.cell? ⟨p, 1, none⟩ = some (.slice (some ⟨go, 0, none⟩) 32 co) ∧ wr.drew.cell? ⟨B + 1, m, none⟩ = some (.int .i64 q) := ⟨c1, d0⟩
          obtain ⟨FA, hFA⟩ : ∃ FA, Hid (freshA q = FA) := ⟨_, Lib.hid rfl⟩
          have hsz : FA.size = 32 := by rw [← hFA.out]; rfl
          have HFL : Hid (FA.toList = objRow (RObj.fresh q) (.slice none 0 0)) := Lib.hid (by rw [← hFA.out]; rfl)
          have HFO : Hid (FA.all (·.oneCell') = true) := Lib.hid (by rw [← hFA.out]; exact objRow_one (RObj.fresh q) none 0 0)
          have hgz := hr.ltO
          have hpg : p ≠ go := Blk.ne_ hr.head.choose_spec.choose_spec hr.objs.choose_spec.1 (by decide)
          have hbg : B + 1 ≠ go := by omega
          have hpz := hr.ltP
          have cF := fresh_any q wr.drew
          rw [hFA.out] at cF
          clear hr hC hK ho hkd hHC
          go_upto_region 15 with fail
          go_region_held3 (fun W => W.cell? ⟨p, 1, none⟩ = some (.slice (some ⟨go, 0, none⟩) 32 co) ∧ W.cell? ⟨B + 1, m, none⟩ = some (.int .i64 q))
            (first | exact hS0 | exact HC.out _ hox | exact hS1 | fail)
            (first | ((with_reducible refine cF.mono ?_); clear cF; rintro e w3 ⟨rfl, ho3⟩; have hox := hoy.trans ho3; have hr3 := HR.out.only0 hox; have hst := run_cells_mid (P := Try.prog) w3 go ((t + m) * 32) FA (by rw [hsz]; exact hr3.thereO (by omega)) HFO.out; obtain ⟨hr4, ho4⟩ := hr3.setObj (by decide) (by decide) (by decide) (i := t + m) (by omega) (RObj.fresh q) (qv := .slice none 0 0) (NumsC.nil _ _); rw [← HFL.out] at hr4 ho4; have hS1 : (w3.setCells go ((t + m) * 32) FA.toList).cell? ⟨p, 1, none⟩ = some (.slice (some ⟨go, 0, none⟩) 32 co) ∧ (w3.setCells go ((t + m) * 32) FA.toList).cell? ⟨B + 1, m, none⟩ = some (.int .i64 q) := ⟨(ho4.cell (p := ⟨p, 1, none⟩) (Nat.lt_of_lt_of_le hpz hox.size) (by simpa using hpg)).trans (HC.out _ hox).1, (ho4.cell (p := ⟨B + 1, m, none⟩) (Nat.lt_of_lt_of_le hB1 hox.size) (by simpa using hbg)).trans (HC.out _ hox).2⟩) | fail)
          obtain ⟨w4, hw4⟩ : ∃ w4, w4 = w3.setCells go ((t + m) * 32) FA.toList := ⟨_, rfl⟩
          rw [← hw4] at hr4 ho4 hS1 ⊢
          replace hr4 : RefM w4 p gs go ((bootK t m).putO ((t + m : Nat) : Int) (RObj.fresh q)) := hr4
          have hog : Only [go] wr w4 := (hox.more (S' := [go]) (fun _ _ hx => absurd hx List.not_mem_nil)).trans ho4
          have hoo : Only [] w w4 := HO.out.2.2.then hog (fun y hy => .inr (by simp at hy; rw [hy, hp.out]; exact hgo))
          have hC4 := hog.blk HO.out.1 (by simp; omega)
          have hK4 := hog.blk HO.out.2.1 (by simp; omega)
          have HS := Lib.hid (And.intro hr4 (And.intro hoo (And.intro hC4 hK4)))
          have d0 : w4.cell? ⟨B + 1, m, none⟩ = some (.int .i64 q) := hS1.2
          obtain ⟨cs, c0⟩ := hr4.cSlots
          clear hw4 hst hS1 hr3 ho3 hox hr4 ho4 hog hoo hC4 hK4 HC HO HR HFL HFO hFA hsz c1 hoy
          by_cases h2 : 2 ≤ m
          · have h2' : (2 : Int) ≤ (m : Int) := by omega
            have hT := HS.out.1.thereC (i := 6 + m) (by omega)
            have hwr6 : IntKind.i64.wrap (6 + (m : Int)) = 6 + (m : Int) := IntWalk.i64_in _ (by omega)
            have hix6 : (6 + (m : Int)).toNat = 6 + m := by omega
            have hj0 : (0 : Int) ≤ 6 + (m : Int) := by omega
            have hj9 : 6 + (m : Int) < 96 := by omega
            clear h2
            go_upto_region 17 with fail
            refine wp_region_still_tail 16 (by kernel_rfl) (by kernel_rfl) ?_
            simp only [List.take_succ_cons, List.take_zero, List.drop_succ_cons, List.drop_zero]
            iterate 16 still_step
            refine wpStill_nil ?_
            change wpList _ _ _ _ _ w4.drew
            refine wpList_store_cap rfl (.tmp 73) (.tmp 71) rfl gs ((6 + m) * 8) (fullC q ((t : Int) + (m : Int))) ?_ ?_ ?_ ?_
            · rfl
            · rfl
            · exact hT
            have hZ2 : RefM (w4.drew.setCells gs ((6 + m) * 8) (capRow (fullC q ((t : Int) + (m : Int))))) p gs go (bootK t (m + 1)) ∧ Only [gs] w4.drew (w4.drew.setCells gs ((6 + m) * 8) (capRow (fullC q ((t : Int) + (m : Int))))) := by
              obtain ⟨hr7, ho7⟩ := (HS.out.1.drewN 1).setCap (by decide) (by decide) (by decide) (i := 6 + m) (by omega) (fullC q ((t : Int) + (m : Int)))
              rw [bootK_two (by omega), hq.out, show (((t + m : Nat) : Int)) = (t : Int) + (m : Int) by omega]
              rw [show (((t + m : Nat) : Int)) = (t : Int) + (m : Int) by omega] at hr7
              exact ⟨hr7, ho7⟩
            have HZ2 := Lib.hid hZ2
            clear hZ2
            go_wp2_with fail
            have oZ := HZ2.out.2
            refine ⟨⟨m + 1, by omega, by go_num, HZ2.out.1, oZ.blk (HS.out.2.2.1.drew) (by simp; omega), oZ.blk (HS.out.2.2.2.drew) (by simp; omega), (HS.out.2.1.drewN 1).then oZ (fun y hy => .inr (by simp at hy; rw [hy, hp.out]; exact hgs))⟩, by simp [intOf]; omega⟩
          · have h2' : (m : Int) < 2 := by omega
            have hZ2 : RefM w4 p gs go (bootK t (m + 1)) := by
              rw [bootK_one h2, hq.out]
              exact HS.out.1
            have HZ2 := Lib.hid hZ2
            clear hZ2 h2
            go_wp2_with fail
            exact ⟨⟨m + 1, by omega, by go_num, HZ2.out, HS.out.2.2.1, HS.out.2.2.2, HS.out.2.1⟩, by simp [intOf]; omega⟩
        · obtain rfl : m = 8 := by omega
          have HR := Lib.hid hr
          have HO := Lib.hid (And.intro hC ho)
          clear hK hlt hm hr hC ho
          rw [show ((8 : Nat) : Int) = 8 from rfl]
          have HQ := Lib.hid (And.intro HR.out (And.intro HO.out.1 HO.out.2))
          have hi0 : (0 : Int) ≤ (t : Int) := by omega
          have hi9 : (t : Int) < 32 := by omega
          have hwr1 : IntKind.i64.wrap ((t : Int) + 1) = (t : Int) + 1 := IntWalk.i64_in _ (by omega)
          have hx1 : ((t : Int) + 1).toNat = t + 1 := by omega
          have hi1 : (0 : Int) ≤ (t : Int) + 1 := by omega
          have hj1 : (t : Int) + 1 < 32 := by omega
          have hwr2 : IntKind.i64.wrap ((t : Int) + 2) = (t : Int) + 2 := IntWalk.i64_in _ (by omega)
          have hx2 : ((t : Int) + 2).toNat = t + 2 := by omega
          have hi2 : (0 : Int) ≤ (t : Int) + 2 := by omega
          have hj2 : (t : Int) + 2 < 32 := by omega
          have hwr8 : IntKind.i64.wrap ((t : Int) + 8) = (t : Int) + 8 := IntWalk.i64_in _ (by omega)
          clear HR HO
          go_upto_region 18 with fail
          obtain ⟨v, e, f⟩ := HQ.out.1.fld (i := t) (j := 4) (by omega) (by omega)
          obtain ⟨co, c1⟩ := HQ.out.1.cObjs
          go_upto_region 19 with fail
          obtain ⟨hr1, ho1⟩ := HQ.out.1.setField (by decide) (by decide) (by decide) (i := t) (j := 4) (by omega) (by omega) (.int .i64 3) { (bootK t 8).ob ((t : Nat) : Int) with radix := 3 } (fun _ => rfl) rfl
          obtain ⟨wA, hw⟩ : ∃ x, x = wr.setCell ⟨go, (t) * 32 + 4, none⟩ (.int .i64 3) := ⟨_, rfl⟩
          rw [← hw] at hr1 ho1 ⊢
          replace hr1 : RefM wA p gs go (boot1 t) := hr1
          have HRwA := Lib.hid (And.intro hr1 (And.intro (ho1.blk HQ.out.2.1 (by simp; omega)) (HQ.out.2.2.then ho1 (fun y hy => .inr (by simp at hy; rw [hy, hp.out]; exact hgo)))))
          clear hr1 ho1 hw c1 e f
          obtain ⟨v, e, f⟩ := HRwA.out.1.fld (i := t + 1) (j := 3) (by omega) (by omega)
          obtain ⟨co, c1⟩ := HRwA.out.1.cObjs
          go_upto_region 20 with fail
          obtain ⟨hr1, ho1⟩ := HRwA.out.1.setField (by decide) (by decide) (by decide) (i := t + 1) (j := 3) (by omega) (by omega) (.int .i64 8) { (boot1 t).ob ((t + 1 : Nat) : Int) with first := 8 } (fun _ => rfl) rfl
          obtain ⟨wB, hw⟩ : ∃ x, x = wA.setCell ⟨go, (t + 1) * 32 + 3, none⟩ (.int .i64 8) := ⟨_, rfl⟩
          rw [← hw] at hr1 ho1 ⊢
          replace hr1 : RefM wB p gs go (boot2 t) := hr1
          have HRwB := Lib.hid (And.intro hr1 (And.intro (ho1.blk HRwA.out.2.1 (by simp; omega)) (HRwA.out.2.2.then ho1 (fun y hy => .inr (by simp at hy; rw [hy, hp.out]; exact hgo)))))
          clear hr1 ho1 hw c1 e f
          obtain ⟨v, e, f⟩ := HRwB.out.1.fld (i := t + 1) (j := 4) (by omega) (by omega)
          obtain ⟨co, c1⟩ := HRwB.out.1.cObjs
          go_upto_region 21 with fail
          obtain ⟨hr1, ho1⟩ := HRwB.out.1.setField (by decide) (by decide) (by decide) (i := t + 1) (j := 4) (by omega) (by omega) (.int .i64 5) { (boot2 t).ob ((t + 1 : Nat) : Int) with radix := 5 } (fun _ => rfl) rfl
          obtain ⟨wC, hw⟩ : ∃ x, x = wB.setCell ⟨go, (t + 1) * 32 + 4, none⟩ (.int .i64 5) := ⟨_, rfl⟩
          rw [← hw] at hr1 ho1 ⊢
          replace hr1 : RefM wC p gs go (boot3 t) := hr1
          have HRwC := Lib.hid (And.intro hr1 (And.intro (ho1.blk HRwB.out.2.1 (by simp; omega)) (HRwB.out.2.2.then ho1 (fun y hy => .inr (by simp at hy; rw [hy, hp.out]; exact hgo)))))
          clear hr1 ho1 hw c1 e f
          obtain ⟨v, e, f⟩ := HRwC.out.1.fld (i := t + 2) (j := 1) (by omega) (by omega)
          obtain ⟨co, c1⟩ := HRwC.out.1.cObjs
          go_upto_region 22 with fail
          obtain ⟨hr1, ho1⟩ := HRwC.out.1.setField (by decide) (by decide) (by decide) (i := t + 2) (j := 1) (by omega) (by omega) (.int .i64 200) { (boot3 t).ob ((t + 2 : Nat) : Int) with size := 200 } (fun _ => rfl) rfl
          obtain ⟨wD, hw⟩ : ∃ x, x = wC.setCell ⟨go, (t + 2) * 32 + 1, none⟩ (.int .i64 200) := ⟨_, rfl⟩
          rw [← hw] at hr1 ho1 ⊢
          replace hr1 : RefM wD p gs go (boot4 t) := hr1
          have HRwD := Lib.hid (And.intro hr1 (And.intro (ho1.blk HRwC.out.2.1 (by simp; omega)) (HRwC.out.2.2.then ho1 (fun y hy => .inr (by simp at hy; rw [hy, hp.out]; exact hgo)))))
          clear hr1 ho1 hw c1 e f
          obtain ⟨cs, c0⟩ := HRwD.out.1.cSlots
          have hT := HRwD.out.1.thereC (i := 0) (by omega)
          go_upto_region 23 with (first | (refine wpList_store_cap rfl (.tmp 113) (.tmp 111) rfl gs 0 (fullC 2 ((t : Int) + 1)) ?_ ?_ ?_ ?_; rfl; rfl; exact hT) | fail)
          obtain ⟨hr1, ho1⟩ := HRwD.out.1.setCap (by decide) (by decide) (by decide) (i := 0) (by omega) (fullC 2 ((t : Int) + 1))
          obtain ⟨wE, hw⟩ : ∃ x, x = wD.setCells gs 0 (capRow (fullC 2 ((t : Int) + 1))) := ⟨_, rfl⟩
          rw [show 0 * 8 = 0 from rfl] at hr1 ho1
          rw [← hw] at hr1 ho1 ⊢
          replace hr1 : RefM wE p gs go (boot5 t) := by
            unfold boot5
            rw [show ((t + 1 : Nat) : Int) = (t : Int) + 1 by omega]
            exact hr1
          have HRwE := Lib.hid (And.intro hr1 (And.intro (ho1.blk HRwD.out.2.1 (by simp; omega)) (HRwD.out.2.2.then ho1 (fun y hy => .inr (by simp at hy; rw [hy, hp.out]; exact hgs)))))
          clear hr1 ho1 hw c0 hT
          obtain ⟨cs, c0⟩ := HRwE.out.1.cSlots
          have hT := HRwE.out.1.thereC (i := 1) (by omega)
          obtain ⟨r0, r1, r2, r3, r4, r5⟩ := HRwE.out.2.1.cap
          have hBz := HRwE.out.2.1.lt
          refine wp_region_still_tail 7 (by kernel_rfl) (by kernel_rfl) ?_
          simp only [List.take_succ_cons, List.take_zero, List.drop_succ_cons, List.drop_zero]
          iterate 7 still_step
          refine wpStill_nil ?_
          change wpList _ _ _ _ _ wE.drew
          refine wpList_store_cap rfl (.tmp 120) (.tmp 118) rfl gs 8 (rootC t) ?_ ?_ ?_ ?_
          · rfl
          · rfl
          · exact hT
          obtain ⟨hr1, ho1⟩ := (HRwE.out.1.drewN 1).setCap (by decide) (by decide) (by decide) (i := 1) (by omega) (rootC t)
          obtain ⟨wF, hw⟩ : ∃ x, x = wE.drew.setCells gs 8 (capRow (rootC t)) := ⟨_, rfl⟩
          rw [show 1 * 8 = 8 from rfl, show wE.drewN 1 = wE.drew from rfl] at hr1 ho1
          rw [← hw] at hr1 ho1 ⊢
          replace hr1 : RefM wF p gs go (boot6 t) := hr1
          have HRwF := Lib.hid (And.intro hr1 ((HRwE.out.2.2.drewN 1).then ho1 (fun y hy => .inr (by simp at hy; rw [hy, hp.out]; exact hgs))))
          clear hr1 ho1 hw c0 hT r0 r1 r2 r3 r4 r5 hBz
          obtain ⟨⟨v2, e2⟩, ⟨v3, e3⟩, f2, f3⟩ := HRwF.out.1.hd
          go_upto_region 25 with fail
          obtain ⟨hr1, ho1⟩ := HRwF.out.1.setNs (by decide) (by decide) (by decide) 40
          obtain ⟨wG, hw⟩ : ∃ x, x = wF.setCell ⟨p, 2, none⟩ (.int .i64 40) := ⟨_, rfl⟩
          rw [← hw] at hr1 ho1 ⊢
          replace hr1 : RefM wG p gs go (boot7 t) := hr1
          have HRwG := Lib.hid (And.intro hr1 (HRwF.out.2.then ho1 (fun y hy => .inr (by simp at hy; rw [hy, hp.out]; exact Nat.le_refl _))))
          clear hr1 ho1 hw e2 e3 f2 f3
          obtain ⟨⟨v2, e2⟩, ⟨v3, e3⟩, f2, f3⟩ := HRwG.out.1.hd
          go_wp2_with fail
          obtain ⟨hr1, ho1⟩ := HRwG.out.1.setNo (by decide) (by decide) (by decide) ((t : Int) + 8)
          go_ret
          refine ⟨gs, go, by rw [hp.out]; rfl, ?_, by rw [hp.out]; exact hgs, by rw [hp.out]; exact hgo, HRwG.out.2.then ho1 (fun y hy => .inr (by simp at hy; rw [hy, hp.out]; exact Nat.le_refl _))⟩
          rw [hp.out]
          unfold bootS
          rw [show ((t + 8 : Nat) : Int) = (t : Int) + 8 by omega]
          exact hr1
end
end Go.Proofs.Ytdkjfalhalepgaa
