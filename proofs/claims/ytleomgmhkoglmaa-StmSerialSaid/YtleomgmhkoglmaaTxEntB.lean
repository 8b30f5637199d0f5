/- What a record's entry is, and what Entries tells (layer 6). -/
import Derived.Test.YtleomgmhkoglmaaTxOfB
import Derived.Test.YtleomgmhkoglmaaDescM
import Derived.Deep.RegionHeld3
namespace Go.Proofs.Ytleomgmhkoglmaa
open Go.RowKit Go.Maps
set_option maxRecDepth 100000 in
set_option maxHeartbeats 1000000 in
theorem entry_any {w : World} {bd bw bt m : Nat} {s : Dt} {over : Bool} (hd : DraftAt w bd bw bt m s over) (i : Int) (hi : (Lit.int .i64 i).wf = true) (c : Cl) :
    Calls Try.prog 57 #[.pointer (some ⟨bd, 0, none⟩), .int .i64 i, .agg #[.int .u64 c.v, .int .u32 c.ver, .int .i64 c.mark]] w fun e w' => e = .returned (ent s.wr i c).val ∧ Only [] w w' := by
  have d1 := hd.c1
  have lb := hd.blk.lt
  have hz : 0 < w.heap.size := by omega
  have lb1 : bd < w.heap.size + 1 := by omega
  have lb2 : bd < w.heap.size + 1 + 1 := by omega
  obtain ⟨z, hw⟩ := hd.own
  have ho : Only [] w (((w.alloc (.cells #[.int .u64 c.v, .int .u32 c.ver, .int .i64 c.mark] 84)).alloc (.cells #[.int .i64 0, .int .u32 0, .int .u64 0, .int .u64 0, .bool false] 113)).alloc (.cells #[.int .i64 i, .int .u32 c.ver, .int .u64 c.v, .int .u64 c.v, .bool false] 113)) := (((Only.refl [] w).alloc _).alloc _).alloc _
  have look := (hw.only ho (by simp)).look_ok (t := 107) keyedI Try.underlying107 Try.underlying3 (zeroWord _) hi
  simp only [wordE] at look
  cases hW : s.wr i with
  | none =>
    have e : ent s.wr i c = ⟨i, c.ver, c.v, c.v, false⟩ := by simp [ent, hW]
    rw [e]
    simp only [hW, Option.getD_none, Option.isSome_none] at look
    clear e hW hw
    go_enter Try.func57, Try.ntmps57
    go_wp2
    refine bodyPost_ret (v := (⟨i, c.ver, c.v, c.v, false⟩ : En).val) (by simp [results, Try.results57, go_sem, En.val]) rfl ⟨rfl, ?_⟩
    exact (((Only.refl [] w).alloc _).alloc _).alloc _
  | some v =>
    have e : ent s.wr i c = ⟨i, c.ver, c.v, v, v != c.v⟩ := by simp [ent, hW]
    obtain ⟨q, hq⟩ : ∃ q, Hid ((v != c.v) = q) := ⟨_, Lib.hid rfl⟩
    rw [e, hq.out]
    simp only [hW, Option.getD_some, Option.isSome_some] at look
    clear e hW hw
    go_enter Try.func57, Try.ntmps57
    go_wp2
    go_region
    simp only [hq.out]
    go_wp2
    refine bodyPost_ret (v := (⟨i, c.ver, c.v, v, q⟩ : En).val) (by simp [results, Try.results57, go_sem, En.val]) rfl ⟨rfl, ?_⟩
    exact ((((Only.refl [] w).alloc _).alloc _).alloc _).drewN 1
end Go.Proofs.Ytleomgmhkoglmaa
