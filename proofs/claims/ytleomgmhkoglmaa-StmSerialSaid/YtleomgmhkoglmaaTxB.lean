/- What a draft's Read and Write do (layer 6). -/
import Derived.Test.YtleomgmhkoglmaaTxA
namespace Go.Proofs.Ytleomgmhkoglmaa
open Go.RowKit Go.Maps
theorem fieldV (a b c : Value) (w : World) : (Instr.field 84 (.agg #[a, b, c]) 0).run Try.prog w = .ok a w := by kernel_rfl
section
variable {w : World} {bt bm n bd bw m sz : Nat} {cells : Int} {last : Value} {R : Int → Option Cl} {s : Dt}
set_option maxRecDepth 100000 in
set_option maxHeartbeats 800000 in
theorem dread_any (hr : RecAt w bt bm n cells last R sz) (hd : DraftAt w bd bw bt m s false) (i : Int) :
    Calls Try.prog 113 #[.pointer (some ⟨bd, 0, none⟩), .int .i64 i] w fun e w' => e = .returned (.int .u64 (rdD cells R s i).1) ∧ DraftAt w' bd bw bt m (rdD cells R s i).2 false ∧ Only [bd] w w' := by
  have c0 := hd.c0
  have c4 := hd.c4
  have r0 := hr.c0
  cases hi : inB cells i with
  | false =>
    have e : rdD cells R s i = (0, s) := by simp [rdD, hi]
    rw [e]
    have H := Lib.hid hi
    have cD := dhas_is w bd bt c0 c4 r0 H.out
    clear hi e c0 c4 r0
    go_enter Try.func113, Try.ntmps113
    go_wp2_with (go_at_call 116; refine cD.mono ?_; rintro e w' ⟨rfl, rfl⟩)
    go_ret
    exact ⟨rfl, hd, Only.refl _ _⟩
  | true =>
    have e : rdD cells R s i = (valD' R s i, needD R s i) := by simp [rdD, hi]
    rw [e]
    have hne := hr.ne hd
    have hl := hr.lim
    have hib := inB_yes.1 hi
    have cD := dhas_is w bd bt c0 c4 r0 hi
    have cN := need_any hr hd i hi
    have N := Lib.hid hne
    have lb := hd.blk.lt
    have lt := hr.blk.lt
    have hz : 0 < w.heap.size := by omega
    clear c0 c4 r0 hi e hne
    cases hW : s.wr i with
    | some v =>
      have e : valD' R s i = v := by simp [valD', hW]
      rw [e]
      have HW := Lib.hid hW
      clear e hW
      go_enter Try.func113, Try.ntmps113
      go_wp2_with (go_at_call 116; refine cD.mono ?_; clear cD; rintro e w' ⟨rfl, rfl⟩)
      refine cN.mono ?_; clear cN; rintro e w1 ⟨rfl, hd1, ho1⟩
      obtain ⟨z1, hw1⟩ := hd1.own
      rw [needD_wr] at hw1
      have look1 := hw1.look_ok (t := 107) keyedI Try.underlying107 Try.underlying3 (zeroWord w1) (WalkArith.wf_i64 (n := i) (by omega))
      have d0 := hd1.c0
      have d1 := hd1.c1
      simp only [wordE, HW.out, Option.getD_some, Option.isSome_some] at look1
      clear hw1
      go_wp2
      go_ret
      exact ⟨rfl, hd1, ho1⟩
    | none =>
      have e : valD' R s i = ((R i).getD ⟨0, 0, 0⟩).v := by simp [valD', hW]
      rw [e]
      have HW := Lib.hid hW
      clear e hW
      go_enter Try.func113, Try.ntmps113
      go_wp2_with (go_at_call 116; refine cD.mono ?_; clear cD; rintro e w' ⟨rfl, rfl⟩)
      refine cN.mono ?_; clear cN; rintro e w1 ⟨rfl, hd1, ho1⟩
      obtain ⟨z1, hw1⟩ := hd1.own
      rw [needD_wr] at hw1
      have look1 := hw1.look_ok (t := 107) keyedI Try.underlying107 Try.underlying3 (zeroWord w1) (WalkArith.wf_i64 (n := i) (by omega))
      have d0 := hd1.c0
      have d1 := hd1.c1
      have hr1 := hr.only ho1 (by have := N.out; simp; exact this.2.2.1) (by have := N.out; simp; exact fun e => this.2.2.2.2 e.symm)
      have look2 := hr1.own.look (t := 103) keyedI Try.underlying103 Try.underlying3 (zeroCell w1) (WalkArith.wf_i64 (n := i) (by omega))
      have r1 := hr1.c1
      simp only [wordE, HW.out, Option.getD_none, Option.isSome_none] at look1
      simp only [cellE, Cl.val] at look2
      have hfl := fieldV
      clear hw1
      go_wp2
      go_ret
      exact ⟨rfl, hd1, ho1⟩
set_option maxRecDepth 100000 in
set_option maxHeartbeats 800000 in
theorem dwrite_any (hr : RecAt w bt bm n cells last R sz) (hd : DraftAt w bd bw bt m s false) (i v : Int) (hm : m < maxLen) :
    Calls Try.prog 114 #[.pointer (some ⟨bd, 0, none⟩), .int .i64 i, .int .u64 v] w fun e w' => e = .returned (.tuple #[]) ∧ DraftAt w' bd bw bt (m + 1) (wrD cells R s i v) false ∧ Only [bd, bw] w w' := by
  have c0 := hd.c0
  have c4 := hd.c4
  have r0 := hr.c0
  cases hi : inB cells i with
  | false =>
    have e : wrD cells R s i v = s := by simp [wrD, hi]
    rw [e]
    have H := Lib.hid hi
    have cD := dhas_is w bd bt c0 c4 r0 H.out
    clear hi e c0 c4 r0
    go_enter Try.func114, Try.ntmps114
    go_wp2_with (go_at_call 116; refine cD.mono ?_; rintro e w' ⟨rfl, rfl⟩)
    go_end0
    exact ⟨rfl, hd.mono (by omega), Only.refl _ _⟩
  | true =>
    have e : wrD cells R s i v = { needD R s i with wr := upd s.wr i v } := by simp [wrD, hi]
    rw [e]
    have hne := hr.ne hd
    have hl := hr.lim
    have hib := inB_yes.1 hi
    have cD := dhas_is w bd bt c0 c4 r0 hi
    have cN := need_any hr hd i hi
    have N := Lib.hid hne
    have lb := hd.blk.lt
    have lt := hr.blk.lt
    have hz : 0 < w.heap.size := by omega
    have M := Lib.hid hm
    clear c0 c4 r0 hi e hne hm
    go_enter Try.func114, Try.ntmps114
    go_wp2_with (go_at_call 116; refine cD.mono ?_; clear cD; rintro e w' ⟨rfl, rfl⟩)
    refine cN.mono ?_; clear cN; rintro e w1 ⟨rfl, hd1, ho1⟩
    obtain ⟨z1, hw1⟩ := hd1.own
    rw [needD_wr] at hw1
    obtain ⟨w2, hrun, hw2, ho2⟩ := hw1.update (t := 107) keyedI Try.underlying107 Try.underlying3 M.out (WalkArith.wf_i64 (n := i) (by omega)) v
    have d1 := hd1.c1
    simp only [wordE] at hrun
    go_wp2
    go_end0
    exact ⟨rfl, ⟨ho2.blk hd1.blk (by have := N.out; simp; exact this.2.2.2.1), _, hw2⟩, (ho1.more (by simp +contextual)).trans (ho2.more (by simp +contextual))⟩
theorem dread_out (hr : RecAt w bt bm n cells last R sz) (hd : DraftAt w bd bw bt m s false) {i : Int} (hi : inB cells i = false) :
    Calls Try.prog 113 #[.pointer (some ⟨bd, 0, none⟩), .int .i64 i] w fun e w' => e = .returned (.int .u64 0) ∧ w' = w := by
  have cD := dhas_is w bd bt hd.c0 hd.c4 hr.c0 hi
  go_enter Try.func113, Try.ntmps113
  go_wp2_with (go_at_call 116; refine cD.mono ?_; rintro e w' ⟨rfl, rfl⟩)
  go_ret
  exact ⟨rfl, rfl⟩
end
end Go.Proofs.Ytleomgmhkoglmaa
