/- What New and Learn of package tx do (layer 6). -/
import Derived.Test.YtleomgmhkoglmaaTxB
import Derived.Carry
import Derived.StillTailTactics
namespace Go.Proofs.Ytleomgmhkoglmaa
open Go.RowKit Go.Maps
set_option maxHeartbeats 800000 in
theorem txNew_any (w : World) (cells : Int) (hc : cells ≤ 1000) :
    Calls Try.prog 40 #[.int .i64 cells] w fun e w' => e = .returned (.pointer (some ⟨w.heap.size + 1, 0, none⟩)) ∧ RecAt w' (w.heap.size + 1) w.heap.size 0 cells (.pointer none) (fun _ => none) 0 ∧ Only [] w w' := by
  have hmm := @run_makeMap Try.prog
  go_enter Try.func40, Try.ntmps40
  go_wp2
  go_ret
  have hm := MapIn.made cellE Try.prog 3 w
  have h1 : Only [] (w.alloc (.map #[] 0)) ((w.alloc (.map #[] 0)).alloc (.cells #[.int .i64 cells, .map (some w.heap.size), .pointer none] 106)) := (Only.refl _ _).alloc _
  refine ⟨rfl, ⟨?_, hm.only h1 (by simp), hc⟩, ((Only.refl [] w).alloc _).trans h1⟩
  have hb := Blk.new (w.alloc (.map #[] 0)) 106 #[.int .i64 cells, .map (some w.heap.size), .pointer none]
  simpa using hb
section
variable {w : World} {bt bm n sz : Nat} {cells : Int} {last : Value} {R : Int → Option Cl}
/-- what is read behind Learn -/
def lrn (cells : Int) (R : Int → Option Cl) (i : Int) (c : Cl) : Int → Option Cl := if inB cells i = true then upd R i c else R
def lrnS (cells : Int) (R : Int → Option Cl) (sz : Nat) (i : Int) : Nat := if inB cells i = true then (if (R i).isSome then sz else sz + 1) else sz
set_option maxRecDepth 100000 in
set_option maxHeartbeats 800000 in
theorem learn_any (hr : RecAt w bt bm n cells last R sz) (i : Int) (c : Cl) (hn : n < maxLen) :
    Calls Try.prog 45 #[.pointer (some ⟨bt, 0, none⟩), .int .i64 i, .agg #[.int .u64 c.v, .int .u32 c.ver, .int .i64 c.mark]] w fun e w' => e = .returned (.tuple #[]) ∧ RecAt w' bt bm (n + 1) cells last (lrn cells R i c) (lrnS cells R sz i) ∧ Only [bm] w w' := by
  have r0 := hr.c0
  have lb := hr.blk.lt
  have hz : 0 < w.heap.size := by omega
  have ho : Only [] w (w.alloc (.cells #[.int .u64 c.v, .int .u32 c.ver, .int .i64 c.mark] 84)) := (Only.refl [] w).alloc _
  have r0' := (ho.cell (p := ⟨bt, 0, none⟩) lb (by simp)).trans r0
  clear r0
  cases hi : inB cells i with
  | false =>
    have e1 : lrn cells R i c = R := by simp [lrn, hi]
    have e2 : lrnS cells R sz i = sz := by simp [lrnS, hi]
    rw [e1, e2]
    have H := Lib.hid hi
    clear hi e1 e2
    go_enter Try.func45, Try.ntmps45
    go_wp2_with (go_at_call 58; refine (thas_is _ _ r0' H.out).mono ?_; rintro e w' ⟨rfl, rfl⟩)
    · go_end0
      have h1 := hr.only ho (by simp) (by simp)
      exact ⟨rfl, ⟨h1.blk, h1.own.mono (by omega), h1.lim⟩, ho.more (by simp)⟩
  | true =>
    have e1 : lrn cells R i c = upd R i c := by simp [lrn, hi]
    have e2 : lrnS cells R sz i = if (R i).isSome then sz else sz + 1 := by simp [lrnS, hi]
    obtain ⟨z, Z⟩ : ∃ z, Hid ((if (R i).isSome then sz else sz + 1) = z) := ⟨_, Lib.hid rfl⟩
    rw [e1, e2, Z.out]
    have H := Lib.hid hi
    have M := Lib.hid hn
    have hl := hr.lim
    have hib := inB_yes.1 hi
    have hne := hr.own.ne_blk hr.blk
    have r1 := hr.c1
    have hbm := hr.own.lt
    clear hi e1 e2 hn
    go_enter Try.func45, Try.ntmps45
    go_wp2_with (go_at_call 58; refine (thas_is _ _ r0' H.out).mono ?_; rintro e w' ⟨rfl, rfl⟩)
    have r1' := (ho.cell (p := ⟨bt, 1, none⟩) lb (by simp)).trans r1
    have hB := Blk.new w 84 #[.int .u64 c.v, .int .u32 c.ver, .int .i64 c.mark]
    have k0 := hB.cell 0
    have k1 := hB.cell 1
    have k2 := hB.cell 2
    have hr' := hr.only ho (by simp) (by simp)
    generalize w.alloc (.cells #[.int .u64 c.v, .int .u32 c.ver, .int .i64 c.mark] 84) = wa at ho r0' r1' k0 k1 k2 hr' ⊢
    simp only [List.getElem?_toArray, List.getElem?_cons_zero, List.getElem?_cons_succ] at k0 k1 k2
    clear hB r1 r0'
    go_still_tail 6, (by kernel_rfl)
    change wpList _ _ _ _ _ wa.drew
    have hr2 : RecAt wa.drew bt bm n cells last R sz := hr'.drewN 1
    have ho2 : Only [] w wa.drew := ho.drew
    obtain ⟨w2, hrun, hw2, ho3⟩ := hr2.own.update (t := 103) keyedI Try.underlying103 Try.underlying3 M.out (WalkArith.wf_i64 (n := i) (by omega)) c
    simp only [cellE, Cl.val] at hrun
    rw [Z.out] at hw2
    go_wp2
    go_end0
    exact ⟨rfl, ⟨ho3.blk hr2.blk (by simpa using hne), hw2, hl⟩, (ho2.more (by simp)).trans ho3⟩
end
end Go.Proofs.Ytleomgmhkoglmaa
