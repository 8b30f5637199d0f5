/- What a record's small calls do (layer 6): has, need, and a draft's Read and Write. -/
import Derived.Test.YtleomgmhkoglmaaRows
import Derived.Test.YtleomgmhkoglmaaTxM
import Derived.WalkKit
import Derived.WalkSpells
import Derived.WalkLawsBesides
import Derived.Handy
import Derived.BigQuiet
import Derived.Deep.QuietTactic
import Derived.RegionTactic
import Derived.Lib.Hide
import Derived.Deep.Light
namespace Go.Proofs.Ytleomgmhkoglmaa
open Go.RowKit Go.Maps
/-- a record lies at bt, its map in bm -/
structure RecAt (w : World) (bt bm n : Nat) (cells : Int) (last : Value) (R : Int → Option Cl) (sz : Nat) : Prop where
  blk : Blk w bt 106 #[.int .i64 cells, .map (some bm), last]
  own : MapIn cellE Try.prog 3 w bm n R sz
  lim : cells ≤ 1000
/-- a draft lies at bd, its map in bw -/
structure DraftAt (w : World) (bd bw bt : Nat) (m : Nat) (s : Dt) (over : Bool) : Prop where
  blk : Blk w bd 109 #[.pointer (some ⟨bt, 0, none⟩), .map (some bw), .bool s.lk.isSome, .int .i64 (s.lk.getD 0), .bool over]
  own : ∃ sz, MapIn wordE Try.prog 3 w bw m s.wr sz
section
variable {w w' : World} {bt bm n bd bw m sz : Nat} {cells : Int} {last : Value} {R : Int → Option Cl} {s : Dt} {over : Bool}
theorem RecAt.drewN (h : RecAt w bt bm n cells last R sz) (k : Nat) : RecAt (w.drewN k) bt bm n cells last R sz := ⟨h.blk, h.own.drewN k, h.lim⟩
theorem RecAt.only {S : List Nat} (h : RecAt w bt bm n cells last R sz) (ho : Only S w w') (h1 : bt ∉ S) (h2 : bm ∉ S) : RecAt w' bt bm n cells last R sz := ⟨ho.blk h.blk h1, h.own.only ho h2, h.lim⟩
theorem DraftAt.drewN (h : DraftAt w bd bw bt m s over) (k : Nat) : DraftAt (w.drewN k) bd bw bt m s over := ⟨h.blk, h.own.imp fun _ h => h.drewN k⟩
theorem DraftAt.only {S : List Nat} (h : DraftAt w bd bw bt m s over) (ho : Only S w w') (h1 : bd ∉ S) (h2 : bw ∉ S) : DraftAt w' bd bw bt m s over := ⟨ho.blk h.blk h1, h.own.imp fun _ h => h.only ho h2⟩
theorem DraftAt.mono (h : DraftAt w bd bw bt m s over) {m' : Nat} (hm : m ≤ m') : DraftAt w bd bw bt m' s over := ⟨h.blk, h.own.imp fun _ h => h.mono hm⟩
theorem RecAt.ne (h : RecAt w bt bm n cells last R sz) (d : DraftAt w bd bw bt m s over) : bt ≠ bm ∧ bt ≠ bw ∧ bt ≠ bd ∧ bd ≠ bw ∧ bd ≠ bm := by
  obtain ⟨_, d2⟩ := d.own
  exact ⟨h.own.ne_blk h.blk, d2.ne_blk h.blk, h.blk.ne_ d.blk (by decide), d2.ne_blk d.blk, h.own.ne_blk d.blk⟩
end
theorem zeroCell (w : World) : (zeroValue 84).run Try.prog w = .ok (cellE.val cellE.zero) w := by kernel_rfl
theorem zeroWord (w : World) : (zeroValue 46).run Try.prog w = .ok (wordE.val wordE.zero) w := by kernel_rfl
theorem keyedI : Keyed Try.prog 3 := int_keyed Try.underlying3
section
variable {w : World} {bt bm n sz : Nat} {cells : Int} {last : Value} {R : Int → Option Cl}
theorem RecAt.c0 (h : RecAt w bt bm n cells last R sz) : w.cell? ⟨bt, 0, none⟩ = some (.int .i64 cells) := h.blk.cell 0
theorem RecAt.c1 (h : RecAt w bt bm n cells last R sz) : w.cell? ⟨bt, 1, none⟩ = some (.map (some bm)) := h.blk.cell 1
theorem RecAt.c2 (h : RecAt w bt bm n cells last R sz) : w.cell? ⟨bt, 2, none⟩ = some last := h.blk.cell 2
variable {bd bw m : Nat} {s : Dt} {over : Bool}
theorem DraftAt.c0 (h : DraftAt w bd bw bt m s over) : w.cell? ⟨bd, 0, none⟩ = some (.pointer (some ⟨bt, 0, none⟩)) := h.blk.cell 0
theorem DraftAt.c1 (h : DraftAt w bd bw bt m s over) : w.cell? ⟨bd, 1, none⟩ = some (.map (some bw)) := h.blk.cell 1
theorem DraftAt.c2 (h : DraftAt w bd bw bt m s over) : w.cell? ⟨bd, 2, none⟩ = some (.bool s.lk.isSome) := h.blk.cell 2
theorem DraftAt.c3 (h : DraftAt w bd bw bt m s over) : w.cell? ⟨bd, 3, none⟩ = some (.int .i64 (s.lk.getD 0)) := h.blk.cell 3
theorem DraftAt.c4 (h : DraftAt w bd bw bt m s over) : w.cell? ⟨bd, 4, none⟩ = some (.bool over) := h.blk.cell 4
end

theorem thas_any (w : World) (bt : Nat) (cells i : Int) (hc : w.cell? ⟨bt, 0, none⟩ = some (.int .i64 cells)) :
    Calls Try.prog 58 #[.pointer (some ⟨bt, 0, none⟩), .int .i64 i] w fun e w' => e = .returned (.bool (inB cells i)) ∧ w = w' := by
  go_enter Try.func58, Try.ntmps58
  go_wp2
  all_goals go_ret
  all_goals exact ⟨by simp [inB, *] <;> omega, rfl⟩
theorem thas_is (w : World) (bt : Nat) {cells i : Int} {q : Bool} (hc : w.cell? ⟨bt, 0, none⟩ = some (.int .i64 cells)) (h : inB cells i = q) :
    Calls Try.prog 58 #[.pointer (some ⟨bt, 0, none⟩), .int .i64 i] w fun e w' => e = .returned (.bool q) ∧ w = w' := h ▸ thas_any w bt cells i hc
theorem dhas_is (w : World) (bd bt : Nat) {cells i : Int} {q : Bool} (h0 : w.cell? ⟨bd, 0, none⟩ = some (.pointer (some ⟨bt, 0, none⟩))) (h4 : w.cell? ⟨bd, 4, none⟩ = some (.bool false)) (hc : w.cell? ⟨bt, 0, none⟩ = some (.int .i64 cells)) (h : inB cells i = q) :
    Calls Try.prog 116 #[.pointer (some ⟨bd, 0, none⟩), .int .i64 i] w fun e w' => e = .returned (.bool q) ∧ w = w' := by
  have H := Lib.hid h
  clear h
  go_enter Try.func116, Try.ntmps116
  go_wp2_with (go_at_call 58; refine (thas_is _ _ hc H.out).mono ?_; rintro e w' ⟨rfl, rfl⟩)
  all_goals go_ret
  all_goals exact ⟨rfl, rfl⟩
set_option maxHeartbeats 800000 in
set_option maxRecDepth 100000 in
theorem need_any {w : World} {bt bm n bd bw m sz : Nat} {cells : Int} {last : Value} {R : Int → Option Cl} {s : Dt} {over : Bool} (hr : RecAt w bt bm n cells last R sz) (hd : DraftAt w bd bw bt m s over) (i : Int) (hi : inB cells i = true) :
    Calls Try.prog 115 #[.pointer (some ⟨bd, 0, none⟩), .int .i64 i] w fun e w' => e = .returned (.tuple #[]) ∧ DraftAt w' bd bw bt m (needD R s i) over ∧ Only [bd] w w' := by
  have hne := hr.ne hd
  have hl := hr.lim
  have hib := inB_yes.1 hi
  have hlook := hr.own.look_ok (t := 103) keyedI Try.underlying103 Try.underlying3 (zeroCell w) (WalkArith.wf_i64 (n := i) (by omega))
  have c0 := hd.c0
  have c2 := hd.c2
  have f2 : w.frozen? ⟨bd, 2, none⟩ = false := hd.blk.frozen _
  have f3 : w.frozen? ⟨bd, 3, none⟩ = false := hd.blk.frozen _
  have r1 := hr.c1
  have lb := hd.blk.lt
  have lt := hr.blk.lt
  cases hR : R i with
  | some c =>
    have e : needD R s i = s := by simp [needD, hR]
    rw [e]
    simp only [hR, Option.getD_some, Option.isSome_some, cellE, Cl.val] at hlook
    have H := Lib.hid hne
    clear e hR hne hi
    go_enter Try.func115, Try.ntmps115
    go_wp2
    go_end0
    have ho : Only [] w (w.alloc (.cells #[.int .u64 c.v, .int .u32 c.ver, .int .i64 c.mark] 84)) := (Only.refl [] w).alloc _
    exact ⟨rfl, hd.only ho (by simp) (by simp), ho.more (by simp)⟩
  | none =>
    simp only [hR, Option.getD_none, Option.isSome_none, cellE, Cl.val] at hlook
    cases hk : s.lk with
    | some j =>
      have e : needD R s i = s := by simp [needD, hk]
      rw [e]
      simp only [hk, Option.isSome_some] at c2
      have H := Lib.hid hne
      clear e hR hk hne hi
      go_enter Try.func115, Try.ntmps115
      go_wp2
      go_end0
      have ho : Only [] w (w.alloc (.cells #[.int .u64 0, .int .u32 0, .int .i64 0] 84)) := (Only.refl [] w).alloc _
      exact ⟨rfl, hd.only ho (by simp) (by simp), ho.more (by simp)⟩
    | none =>
      have e : needD R s i = { s with lk := some i } := by simp [needD, hR, hk]
      rw [e]
      have hd' := hd.blk
      have hkk := Lib.hid hk
      have c3 := hd.c3
      simp only [hk, Option.isSome_none] at c2
      simp only [hk, Option.getD_none] at c3
      have H := Lib.hid hne
      clear e hR hk hne hi
      go_enter Try.func115, Try.ntmps115
      go_wp2
      go_end0
      have ho : Only [bd] w (((w.setCell ⟨bd, 2, none⟩ (.bool true)).setCell ⟨bd, 3, none⟩ (.int .i64 i)).alloc (.cells #[.int .u64 0, .int .u32 0, .int .i64 0] 84)) := (((Only.refl _ w).setCell (by simp) _).setCell (by simp) _).alloc _
      refine ⟨rfl, ⟨?_, ?_⟩, ho⟩
      · have h1 := ((hd'.set_ 2 (.bool true)).set_ 3 (.int .i64 i)).alloc (.cells #[.int .u64 0, .int .u32 0, .int .i64 0] 84)
        simpa using h1
      · obtain ⟨z, hz⟩ := hd.own
        exact ⟨z, hz.only ho (by have := H.out; simp; exact fun e => this.2.2.2.1 e.symm)⟩
end Go.Proofs.Ytleomgmhkoglmaa
