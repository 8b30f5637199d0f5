/- TxFirst's walk: for every number of cells and every two lists of numbers it answers true (layer 6). -/
import Derived.Test.YtbjookkbbdphnaaTxFirstA
import Derived.Test.YtbjookkbbdphnaaIntsA
namespace Go.Proofs.Ytbjookkbbdphnaa
open Go.RowKit Go.Maps
theorem enters17 (args : Array Value) (w : World) : (callFunc 17 args).run Try.prog w = .ok (.enter 17 args) w := by kernel_rfl
theorem zeroBool (w : World) : (zeroValue 4).run Try.prog w = .ok (boolE.val boolE.zero) w := by kernel_rfl
section
variable {w : World} {A C : Option Addr} {P Q : List Int}
set_option maxRecDepth 100000 in
set_option maxHeartbeats 8000000 in
theorem first_any (cells : Int) (cp cq : Nat) (w : World) (hP : Ints w A P) (hQ : Ints w C Q) (hp : P.length ≤ 9223372036854775807) (hq : Q.length ≤ 9223372036854775807) :
    Calls Try.prog 4 #[.int .i64 cells, .slice A P.length cp, .slice C Q.length cq] w fun e w' => e = .returned (.bool true) ∧ Only [] w w' := by
  by_cases h1 : cells < 1
  · go_enter Try.func4, Try.ntmps4
    go_wp2_with fail
    (with_reducible refine (up_any _).mono ?_)
    rintro e w1 ⟨rfl, ho1⟩
    have c1 : w1.cell? ⟨w.heap.size, 0, none⟩ = some (.int .i64 cells) := (ho1.blk ((Blk.new w 3 #[.int .i64 cells]).alloc (.cells #[.slice C Q.length cq] 55)) (by simp)).cell 0
    have hb2 := Blk.new (w.alloc (.cells #[.int .i64 cells] 3)) 55 #[.slice C Q.length cq]
    rw [World.size_alloc] at hb2
    have c2 : w1.cell? ⟨w.heap.size + 1, 0, none⟩ = some (.slice C Q.length cq) := (ho1.blk hb2 (by simp)).cell 0
    have ho := (((Only.refl [] w).alloc _).alloc _).trans ho1
    clear ho1 hb2
    go_wp2_with fail
    go_ret
    exact ⟨rfl, ho⟩
  have h1' : 1 ≤ cells := by omega
  clear h1
  by_cases h2 : 100 < cells
  · go_enter Try.func4, Try.ntmps4
    go_wp2_with fail
    (with_reducible refine (up_any _).mono ?_)
    rintro e w1 ⟨rfl, ho1⟩
    have c1 : w1.cell? ⟨w.heap.size, 0, none⟩ = some (.int .i64 cells) := (ho1.blk ((Blk.new w 3 #[.int .i64 cells]).alloc (.cells #[.slice C Q.length cq] 55)) (by simp)).cell 0
    have hb2 := Blk.new (w.alloc (.cells #[.int .i64 cells] 3)) 55 #[.slice C Q.length cq]
    rw [World.size_alloc] at hb2
    have c2 : w1.cell? ⟨w.heap.size + 1, 0, none⟩ = some (.slice C Q.length cq) := (ho1.blk hb2 (by simp)).cell 0
    have ho := (((Only.refl [] w).alloc _).alloc _).trans ho1
    clear ho1 hb2
    go_wp2_with fail
    go_ret
    exact ⟨rfl, ho⟩
  have h2' : cells ≤ 100 := by omega
  clear h2
  by_cases h3 : 50 < P.length
  · go_enter Try.func4, Try.ntmps4
    go_wp2_with fail
    (with_reducible refine (up_any _).mono ?_)
    rintro e w1 ⟨rfl, ho1⟩
    have c1 : w1.cell? ⟨w.heap.size, 0, none⟩ = some (.int .i64 cells) := (ho1.blk ((Blk.new w 3 #[.int .i64 cells]).alloc (.cells #[.slice C Q.length cq] 55)) (by simp)).cell 0
    have hb2 := Blk.new (w.alloc (.cells #[.int .i64 cells] 3)) 55 #[.slice C Q.length cq]
    rw [World.size_alloc] at hb2
    have c2 : w1.cell? ⟨w.heap.size + 1, 0, none⟩ = some (.slice C Q.length cq) := (ho1.blk hb2 (by simp)).cell 0
    have ho := (((Only.refl [] w).alloc _).alloc _).trans ho1
    clear ho1 hb2
    go_wp2_with fail
    go_ret
    exact ⟨rfl, ho⟩
  have h3' : P.length ≤ 50 := by omega
  clear h3
  by_cases h4 : 50 < Q.length
  · go_enter Try.func4, Try.ntmps4
    go_wp2_with fail
    (with_reducible refine (up_any _).mono ?_)
    rintro e w1 ⟨rfl, ho1⟩
    have c1 : w1.cell? ⟨w.heap.size, 0, none⟩ = some (.int .i64 cells) := (ho1.blk ((Blk.new w 3 #[.int .i64 cells]).alloc (.cells #[.slice C Q.length cq] 55)) (by simp)).cell 0
    have hb2 := Blk.new (w.alloc (.cells #[.int .i64 cells] 3)) 55 #[.slice C Q.length cq]
    rw [World.size_alloc] at hb2
    have c2 : w1.cell? ⟨w.heap.size + 1, 0, none⟩ = some (.slice C Q.length cq) := (ho1.blk hb2 (by simp)).cell 0
    have ho := (((Only.refl [] w).alloc _).alloc _).trans ho1
    clear ho1 hb2
    go_wp2_with fail
    go_ret
    exact ⟨rfl, ho⟩
  have h4' : Q.length ≤ 50 := by omega
  clear h4
  have hmm := @run_makeMap Try.prog
  go_enter Try.func4, Try.ntmps4
  go_wp2_with fail
  (with_reducible refine (up_any _).mono ?_)
  rintro e w1 ⟨rfl, ho1⟩
  have hB1 := ho1.blk ((Blk.new w 3 #[.int .i64 cells]).alloc (.cells #[.slice C Q.length cq] 55)) (by simp)
  have hb2 := Blk.new (w.alloc (.cells #[.int .i64 cells] 3)) 55 #[.slice C Q.length cq]
  rw [World.size_alloc] at hb2
  have hB2 := ho1.blk hb2 (by simp)
  have c1 : w1.cell? ⟨w.heap.size, 0, none⟩ = some (.int .i64 cells) := hB1.cell 0
  have c2 : w1.cell? ⟨w.heap.size + 1, 0, none⟩ = some (.slice C Q.length cq) := hB2.cell 0
  have ho := (((Only.refl [] w).alloc _).alloc _).trans ho1
  have hz1 : w.heap.size + 2 ≤ w1.heap.size := by have := ho1.size; simp at this; omega
  clear ho1 hb2
  go_wp2_with fail
  refine (txNew_any w1 cells (by omega)).mono ?_
  rintro e w2 ⟨rfl, hr2, ho2⟩
  replace hB1 := ho2.blk hB1 (by simp)
  replace hB2 := ho2.blk hB2 (by simp)
  replace ho := ho.trans ho2
  have hz2 : w1.heap.size + 1 < w2.heap.size := hr2.blk.lt
  clear c1 c2 ho2
  go_wp2_with fail
  clear hmm
  have hm3 := MapIn.made boolE Try.prog 3 w2
  have hr3 := hr2.only ((Only.refl [] w2).alloc (.map #[] 0)) (by simp) (by simp)
  replace hB1 := hB1.alloc (.map #[] 0)
  replace hB2 := hB2.alloc (.map #[] 0)
  replace ho := ho.alloc (.map #[] 0)
  have hz3 : (w2.alloc (.map #[] 0)).heap.size = w2.heap.size + 1 := by simp
  generalize w2.alloc (.map #[] 0) = w3 at hm3 hr3 hB1 hB2 ho hz3 ⊢
  clear hr2
  go_loopw [10] (fun i wr => ∃ (k n nM sz : Nat) (R : Int → Option Cl) (F : Int → Option Bool), k ≤ P.length ∧ i = .int .i64 k ∧ n ≤ k ∧ nM ≤ k ∧ RecAt wr (w1.heap.size + 1) w1.heap.size n cells (.pointer none) R sz ∧
    MapIn boolE Try.prog 3 wr w2.heap.size nM F sz ∧ (∀ x, F x = if (R x).isSome then some true else none) ∧ (∀ x, (R x).isSome = true → inB cells x = true) ∧ Blk wr w.heap.size 3 #[.int .i64 cells] ∧ Blk wr (w.heap.size + 1) 55 #[.slice C Q.length cq] ∧ Only [] w wr ∧ w2.heap.size < wr.heap.size) (fun i _ => P.length - (intOf i).toNat)
  case atStart => exact ⟨0, 0, 0, 0, fun _ => none, fun _ => none, by omega, rfl, by omega, by omega, hr3, hm3, by simp, by simp, hB1, hB2, ho, by omega⟩
  case round =>
    clear hm3 hr3 hB1 hB2 ho
    obtain ⟨k, n, nM, sz, R, F, hk, rfl, hn, hnM, hrx, hmx, hFR, hRB, hB1, hB2, ho, hzr⟩ := hrel
    by_cases hlt : k < P.length
    · obtain ⟨x, hx⟩ : ∃ x, P[k]? = some x := ⟨_, List.getElem?_eq_getElem hlt⟩
      obtain ⟨pb, po, rfl, hpb, hpc⟩ := hP.at_ k x hx
      have hwf := Lib.hid (hP.ok k x hx)
      have HFR := Lib.hid (And.intro hFR hRB)
      have pc := (ho.cell (p := ⟨pb, po + k, none⟩) hpb (by simp)).trans hpc
      have cL := learn_any hrx x ⟨7, 0, 0⟩ (by unfold maxLen; omega)
      have hlt' : k < P.length := hlt
      have hzt := hrx.blk.lt
      clear hx hFR hRB
      go_wp2_with fail
      refine cL.mono ?_
      clear cL
      rintro e w4 ⟨rfl, hr4, ho4⟩
      have hm4 := hmx.only ho4 (by simp; omega)
      replace hB1 := ho4.blk hB1 (by simp; omega)
      replace hB2 := ho4.blk hB2 (by simp; omega)
      have pc := (ho4.cell (p := ⟨pb, po + k, none⟩) (by have := ho.size; simp; omega) (by simp; omega)).trans pc
      have c1 : w4.cell? ⟨w.heap.size, 0, none⟩ = some (.int .i64 cells) := hB1.cell 0
      have hz4 : w2.heap.size < w4.heap.size := Nat.lt_of_lt_of_le hzr ho4.size
      replace ho4 := ho.then ho4 (fun y hy => .inr (by simp at hy; omega))
      have hxc : x < 0 ∨ (¬ x < 0 ∧ cells ≤ x) ∨ (¬ x < 0 ∧ ¬ cells ≤ x) := by omega
      clear hpc ho hrx hmx hzr
      go_wp2_with fail
      rcases hxc with hx1 | ⟨hx1, hx2⟩ | ⟨hx1, hx2⟩
      · have q1 : decide (0 ≤ x) = false := by simpa using hx1
        have hi : inB cells x = false := inB_no.2 (by omega)
        have eR : lrn cells R x ⟨7, 0, 0⟩ = R := by simp [lrn, hi]
        have eS : lrnS cells R sz x = sz := by simp [lrnS, hi]
        rw [eR, eS] at hr4
        clear eR eS hi
        go_quiet (fail)
        have hX := Lib.hid (And.intro (hr4.drewN nq) (And.intro (hm4.drewN nq) (And.intro (hB1.drewN nq) (And.intro (hB2.drewN nq) (And.intro (ho4.drewN nq) (show w2.heap.size < (w4.drewN nq).heap.size from hz4))))))
        clear hr4 hm4 hB1 hB2 ho4 hz4 pc c1
        generalize w4.drewN nq = w5 at hX ⊢
        go_wp2_with fail
        obtain ⟨x1, x2, x3, x4, x5, x6⟩ := hX.out
        exact ⟨⟨k + 1, n + 1, nM, sz, R, F, by omega, by go_num, by omega, by omega, x1, x2, HFR.out.1, HFR.out.2, x3, x4, x5, x6⟩, by simp [intOf]; omega⟩
      · have q1 : decide (0 ≤ x) = true := by simpa using hx1
        have q2 : decide (x < cells) = false := by simpa using hx2
        have hi : inB cells x = false := inB_no.2 (by omega)
        have eR : lrn cells R x ⟨7, 0, 0⟩ = R := by simp [lrn, hi]
        have eS : lrnS cells R sz x = sz := by simp [lrnS, hi]
        rw [eR, eS] at hr4
        clear eR eS hi
        go_quiet (fail)
        have hX := Lib.hid (And.intro (hr4.drewN nq) (And.intro (hm4.drewN nq) (And.intro (hB1.drewN nq) (And.intro (hB2.drewN nq) (And.intro (ho4.drewN nq) (show w2.heap.size < (w4.drewN nq).heap.size from hz4))))))
        clear hr4 hm4 hB1 hB2 ho4 hz4 pc c1
        generalize w4.drewN nq = w5 at hX ⊢
        go_wp2_with fail
        obtain ⟨x1, x2, x3, x4, x5, x6⟩ := hX.out
        exact ⟨⟨k + 1, n + 1, nM, sz, R, F, by omega, by go_num, by omega, by omega, x1, x2, HFR.out.1, HFR.out.2, x3, x4, x5, x6⟩, by simp [intOf]; omega⟩
      · have q1 : decide (0 ≤ x) = true := by simpa using hx1
        have q2 : decide (x < cells) = true := by simpa using hx2
        have hi : inB cells x = true := inB_yes.2 (by omega)
        have eR : lrn cells R x ⟨7, 0, 0⟩ = upd R x ⟨7, 0, 0⟩ := by simp [lrn, hi]
        have eS : lrnS cells R sz x = if (F x).isSome then sz else sz + 1 := by
          have h1 := HFR.out.1 x
          cases hc : (R x).isSome <;> simp [lrnS, hi, hc, h1]
        rw [eR, eS] at hr4
        have hI := Lib.hid hi
        clear eR eS hi
        go_quiet (fail)
        have hX := Lib.hid (And.intro (hr4.drewN nq) (And.intro (hB1.drewN nq) (And.intro (hB2.drewN nq) (And.intro (ho4.drewN nq) (show w2.heap.size < (w4.drewN nq).heap.size from hz4)))))
        have hm5 := hm4.drewN nq
        have pc : (w4.drewN nq).cell? ⟨pb, po + k, none⟩ = some (.int .i64 x) := pc
        clear hr4 hm4 hB1 hB2 ho4 hz4 c1
        generalize w4.drewN nq = w5 at hX hm5 pc ⊢
        obtain ⟨w6, hrun, hm6, ho6⟩ := hm5.update (t := 56) keyedI Try.underlying56 Try.underlying3 (by unfold maxLen; omega) hwf.out true
        simp only [boolE] at hrun
        have hM6 := Lib.hid hm6
        clear hm5 hm6
        go_wp2_with fail
        obtain ⟨x1, x3, x4, x5, x6⟩ := hX.out
        have hzb : w.heap.size + 2 ≤ w2.heap.size := by omega
        have hF' : ∀ y, upd F x true y = if (upd R x ⟨7, 0, 0⟩ y).isSome then some true else none := fun y => by
          by_cases e : y = x
          · subst e; simp [upd]
          · rw [upd_other _ e, upd_other _ e]; exact HFR.out.1 y
        have hR' : ∀ y, (upd R x ⟨7, 0, 0⟩ y).isSome = true → inB cells y = true := fun y hy => by
          by_cases e : y = x
          · subst e; exact hI.out
          · rw [upd_other _ e] at hy; exact HFR.out.2 y hy
        exact ⟨⟨k + 1, n + 1, nM + 1, _, _, _, by omega, by go_num, by omega, by omega, x1.only ho6 (by simp; omega) (by simp; omega), hM6.out, hF', hR', ho6.blk x3 (by simp; omega), ho6.blk x4 (by simp; omega), x5.then ho6 (fun y hy => .inr (by simp at hy; omega)), Nat.lt_of_lt_of_le x6 ho6.size⟩, by simp [intOf]; omega⟩
    · obtain rfl : k = P.length := by omega
      obtain ⟨wb, rfl⟩ : ∃ x, x = wr := ⟨_, rfl⟩
      have HFR := Lib.hid (And.intro hFR hRB)
      have hX := Lib.hid (And.intro hrx hmx)
      have hB1' := Lib.hid hB1
      have hB2' := Lib.hid hB2
      have c1 : wb.cell? ⟨w.heap.size, 0, none⟩ = some (.int .i64 cells) := hB1.cell 0
      have c2 : wb.cell? ⟨w.heap.size + 1, 0, none⟩ = some (.slice C Q.length cq) := hB2.cell 0
      have hQx := hQ.only ho
      clear hrx hmx hFR hRB hB1 hB2 hP
      go_wp2_with fail
      go_loopw [11, 12] (fun want i wr => ∃ (k nd : Nat), k ≤ Q.length ∧ i = .int .i64 k ∧ want = .int .i64 ((firstOf cells R (Q.take k)).getD (-1)) ∧ wr = wb.drewN nd) (fun _ i _ => Q.length - (intOf i).toNat)
      case atStart => exact ⟨0, 0, by omega, rfl, rfl, rfl⟩
      case round =>
        obtain ⟨k, nd, hk, rfl, rfl, hwx⟩ := hrel
        have c1 : wr.cell? ⟨w.heap.size, 0, none⟩ = some (.int .i64 cells) := by rw [hwx]; exact c1
        have c2 : wr.cell? ⟨w.heap.size + 1, 0, none⟩ = some (.slice C Q.length cq) := by rw [hwx]; exact c2
        by_cases hlt : k < Q.length
        · obtain ⟨x, hx⟩ : ∃ x, Q[k]? = some x := ⟨_, List.getElem?_eq_getElem hlt⟩
          obtain ⟨qb, qo, rfl, hqb, hqc⟩ := hQx.at_ k x hx
          have hwf := hQx.ok k x hx
          have qc : wr.cell? ⟨qb, qo + k, none⟩ = some (.int .i64 x) := by rw [hwx]; exact hqc
          have hXX := Lib.hid hx
          have hWX := Lib.hid hwx
          have hk0 : (0 : Int) ≤ (k : Int) := Int.natCast_nonneg _
          have hk1 : (k : Int) < (Q.length : Int) := by omega
          have hlookF : ∀ n, (Instr.lookup 56 (.map (some w2.heap.size)) (.int .i64 x) false).run Try.prog (wr.drewN n) = .ok (.bool ((F x).getD false)) (wr.drewN n) := fun n => by
            rw [hwx]
            exact ((hX.out.2.drewN nd).drewN n).look (t := 56) keyedI Try.underlying56 Try.underlying3 (zeroBool _) hwf
          have hLF := Lib.hid hlookF
          clear hlookF hx hwx hqc
          cases hfo : firstOf cells R (Q.take k) with
          | some y =>
            have hy := firstOf_in hfo
            replace hfo := Lib.hid hfo
            have q0 : decide (y < 0) = false := by simp; omega
            simp only [Option.getD_some]
            go_wp2_with fail
            go_quiet (fail)
            go_wp2_with fail
            refine ⟨⟨k + 1, nd + nq, by omega, by go_num, ?_, by rw [hWX.out, World.drewN_drewN]⟩, by simp [intOf]; omega⟩
            rw [firstOf_take hXX.out, hfo.out, stepLk_some]
            rfl
          | none =>
            replace hfo := Lib.hid hfo
            simp only [Option.getD_none]
            have hxc : x < 0 ∨ (¬ x < 0 ∧ cells ≤ x) ∨ (¬ x < 0 ∧ ¬ cells ≤ x) := by omega
            rcases hxc with hx1 | ⟨hx1, hx2⟩ | ⟨hx1, hx2⟩
            · have q1 : decide (0 ≤ x) = false := by simpa using hx1
              have hi := Lib.hid (inB_no.2 (show x < 0 ∨ cells ≤ x by omega))
              go_wp2_with fail
              go_quiet (fail)
              go_wp2_with fail
              refine ⟨⟨k + 1, nd + nq, by omega, by go_num, ?_, by rw [hWX.out, World.drewN_drewN]⟩, by simp [intOf]; omega⟩
              rw [firstOf_take hXX.out, hfo.out, stepLk_out _ hi.out]
              rfl
            · have q1 : decide (0 ≤ x) = true := by simpa using hx1
              have q2 : decide (x < cells) = false := by simpa using hx2
              have hi := Lib.hid (inB_no.2 (show x < 0 ∨ cells ≤ x by omega))
              go_wp2_with fail
              go_quiet (fail)
              go_wp2_with fail
              refine ⟨⟨k + 1, nd + nq, by omega, by go_num, ?_, by rw [hWX.out, World.drewN_drewN]⟩, by simp [intOf]; omega⟩
              rw [firstOf_take hXX.out, hfo.out, stepLk_out _ hi.out]
              rfl
            · have q1 : decide (0 ≤ x) = true := by simpa using hx1
              have q2 : decide (x < cells) = true := by simpa using hx2
              have hi := Lib.hid (inB_yes.2 (show 0 ≤ x ∧ x < cells by omega))
              have hFx := HFR.out.1 x
              have hlook := hLF.out
              cases hR : R x with
              | some c =>
                have hR' := Lib.hid (show (R x).isSome = true by rw [hR]; rfl)
                rw [hFx, hR] at hlook
                simp only [Option.isSome_some, if_true, Option.getD_some] at hlook
                clear hR hFx
                go_wp2_with fail
                go_quiet (fail)
                go_wp2_with fail
                refine ⟨⟨k + 1, nd + nq, by omega, by go_num, ?_, by rw [hWX.out, World.drewN_drewN]⟩, by simp [intOf]; omega⟩
                rw [firstOf_take hXX.out, hfo.out, stepLk_known _ hR'.out]
                rfl
              | none =>
                have hR' := Lib.hid hR
                rw [hFx, hR] at hlook
                simp only [Option.isSome_none, Bool.false_eq_true, if_false, Option.getD_none] at hlook
                clear hR hFx
                go_wp2_with fail
                go_quiet (fail)
                go_wp2_with fail
                refine ⟨⟨k + 1, nd + nq, by omega, by go_num, ?_, by rw [hWX.out, World.drewN_drewN]⟩, by simp [intOf]; omega⟩
                rw [firstOf_take hXX.out, hfo.out, stepLk_new hi.out hR'.out]
                rfl
        · obtain rfl : k = Q.length := by omega
          obtain ⟨wc, rfl⟩ : ∃ x, x = wr := ⟨_, rfl⟩
          rw [List.take_length]
          obtain ⟨fo, hfo⟩ : ∃ fo, Hid (firstOf cells R Q = fo) := ⟨_, Lib.hid rfl⟩
          rw [hfo.out]
          have hrc : RecAt wc (w1.heap.size + 1) w1.heap.size n cells (.pointer none) R sz := by rw [hwx]; exact hX.out.1.drewN nd
          have hmc : MapIn boolE Try.prog 3 wc w2.heap.size nM F sz := by rw [hwx]; exact hX.out.2.drewN nd
          have hB1c : Blk wc w.heap.size 3 #[.int .i64 cells] := by rw [hwx]; exact hB1'.out.drewN nd
          have hB2c : Blk wc (w.heap.size + 1) 55 #[.slice C Q.length cq] := by rw [hwx]; exact hB2'.out.drewN nd
          have hoc : Only [] w wc := by rw [hwx]; exact ho.drewN nd
          have hQc := hQ.only hoc
          have hzc := hmc.lt
          clear hwx hX hB1' hB2' ho hQx hzr
          go_wp2_with fail
          have hoD : Only [] wc (wc.alloc (.cells #[.int .i64 0] 3)) := (Only.refl _ _).alloc _
          have hB3 := Blk.new wc 3 #[.int .i64 0]
          have hzd : (wc.alloc (.cells #[.int .i64 0] 3)).heap.size = wc.heap.size + 1 := by simp
          replace hrc := hrc.only hoD (by simp) (by simp)
          replace hmc := hmc.only hoD (by simp)
          replace hB1c := hoD.blk hB1c (by simp)
          replace hB2c := hoD.blk hB2c (by simp)
          replace hoc := hoc.trans hoD
          replace hQc := hQc.only hoD
          generalize wc.alloc (.cells #[.int .i64 0] 3) = wd at hrc hmc hB1c hB2c hB3 hoc hQc hzd ⊢
          clear hoD
          have hF : FirstAt wd (wc.heap.size + 1) (w.heap.size + 1) w.heap.size wc.heap.size C cq Q cells :=
            ⟨by omega, by omega, by omega, by omega, hB2c.cell 0, hB1c.cell 0, hB3.cell 0, fun k x hx => by
              obtain ⟨b, off, hC, hb, -⟩ := hQ.at_ k x hx
              obtain ⟨b', off', hC', hb', hc'⟩ := hQc.at_ k x hx
              rw [hC] at hC'
              injection hC' with e
              injection e with e1 e2 _
              subst e1 e2
              exact ⟨b, off, hC, by omega, hc'⟩⟩
          have hzz := hrc.blk.lt
          refine (Run_any hrc 17 #[.pointer (some ⟨w.heap.size + 1, 0, none⟩), .pointer (some ⟨w.heap.size, 0, none⟩), .pointer (some ⟨wc.heap.size, 0, none⟩)] [wc.heap.size] [] (fun s w' => s.lk = fo ∧ Blk w' wc.heap.size 3 #[.int .i64 0])
            (fun s a b h hk => ⟨h.1, (hk wc.heap.size (by simp)).trans h.2⟩) (by simp; omega) (by simp) enters17 (fun bd bw wa h1 h2 hra hda hoa => ?_)).mono ?_
          · refine (first1_any hra hda (hF.only hoa (by simp)) (by omega) (by omega) (by omega) h4').mono ?_
            rintro e w' ⟨he, m, s, hd', ho', hlk⟩
            exact ⟨he, m, s, hd', ho', by rw [hlk]; exact hfo.out, ho'.blk (hoa.blk hB3 (by simp)) (by simp; omega)⟩
          rintro e w4 ⟨bd, bw, m, s, rfl, hbd, hbw, hr4, hd4, ho4, hlk, hB4⟩
          have hm4 := hmc.only ho4 (by simp; omega)
          have hO4 : Only [] w w4 := hoc.then ho4 (fun x hx => .inr (by simp at hx; omega))
          have hodd : w4.cell? ⟨wc.heap.size, 0, none⟩ = some (.int .i64 0) := hB4.cell 0
          have hS4 := Lib.hid hlk
          rw [hlk]
          clear hrc hmc hB1c hB2c hB3 hoc hQc hF ho4 hB4 hlk
          cases fo with
          | none =>
            simp only [Option.getD_none, Option.isSome_none, Bool.not_false]
            have hsz := hm4.le
            have hE := entries_any hr4 hd4 (by rw [hS4.out]; rfl) (by omega)
            go_wp2_with fail
            refine hE.mono ?_
            clear hE
            rintro e w5 ⟨v, ks, rfl, hK, hrow, ho5⟩
            obtain ⟨EA, ecap, rfl, -⟩ := row_cells En.row_len hrow
            have hel : (ents R s.wr ks).length = sz := by simp [ents, hK.len]
            rw [hel]
            have hl := (hm4.only ho5 (by simp)).len Try.underlying56 3
            have hO5 := hO4.trans ho5
            clear hel hrow hK hm4 hO4 ho5
            go_wp2_with fail
            go_ret
            exact ⟨rfl, hO5⟩
          | some y =>
            have hy := firstOf_in hfo.out
            have hy0 : ¬ y < 0 := by omega
            simp only [Option.getD_some, Option.isSome_some, Bool.not_true]
            have hE := entries_lacks hr4 hd4 (by rw [hS4.out]; rfl)
            go_wp2_with (go_at_call 12; (with_reducible refine hE.mono ?_); rintro e w' ⟨rfl, rfl⟩)
            go_ret
            exact ⟨rfl, hO4⟩
end
end Go.Proofs.Ytbjookkbbdphnaa
