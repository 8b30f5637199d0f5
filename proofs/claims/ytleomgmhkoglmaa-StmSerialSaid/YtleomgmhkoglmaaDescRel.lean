/- What release of package desc does: the next entry is put, or released (layer 7). -/
import Derived.Test.YtleomgmhkoglmaaDescA
import Derived.Deep.RegionHeld3
namespace Go.Proofs.Ytleomgmhkoglmaa
open Go.RowKit
section
variable {w : World} {p ps g : Nat} {A : Option Addr} {cap : Nat} {d : De} {s : St}
set_option maxRecDepth 100000 in
set_option maxHeartbeats 2000000 in
theorem release_desk (h : DeskAt w p A cap d) (hs : StoreAt w WT ps g s) {e : En} (he : d.L[d.pos]? = some e) (h0 : d.st ≠ 0) :
    Calls Try.prog 63 #[.pointer (some ⟨p, 0, none⟩), .pointer (some ⟨ps, 0, none⟩)] w fun r w' =>
      r = .returned (.tuple #[]) ∧ DeskAt w' p A cap { d with pos := d.pos + 1 } ∧ StoreAt w' WT ps g (relD d e s) ∧ Only [p, g] w w' := by
  have c0 := h.c0
  have c1 := h.c1
  have c2 := h.c2
  have c3 := h.c3
  have hl := h.ok.len
  have hp := h.head.lt
  have hk : d.pos < d.L.length := (List.getElem?_eq_some_iff.1 he).1
  obtain ⟨ge, cur, rfl, hb, hc⟩ := h.ents _ _ he
  have q : ∀ (j : Nat) (v : Value), e.row[j]? = some v → w.cell? ⟨ge, d.pos * 5 + j, none⟩ = some v := fun j v hv => (hb.cell _).trans (hc j v hv)
  have e0 : w.cell? ⟨ge, d.pos * 5, none⟩ = some (.int .i64 e.cell) := q 0 _ rfl
  have e1 := q 1 _ rfl
  have e2 := q 2 _ rfl
  have e3 := q 3 _ rfl
  have e4 := q 4 _ rfl
  have hge := hb.lt
  clear q
  have H := Lib.hid (And.intro h (And.intro hs (And.intro he h0)))
  clear h hs he h0 hc hb
  go_enter Try.func63, Try.ntmps63
  go_wp2
  go_region
  all_goals go_wp2
  all_goals
    obtain ⟨wx, hwx⟩ : ∃ wx, wx = (w.alloc (.cells #[.int .i64 e.cell, .int .u32 e.ver, .int .u64 e.old, .int .u64 e.new, .bool e.wr] 113)).drew := ⟨_, rfl⟩
    have hoA : Only [] w wx := by rw [hwx]; exact ((Only.refl [] w).alloc _).drew
    have hB : Blk wx w.heap.size 113 #[.int .i64 e.cell, .int .u32 e.ver, .int .u64 e.old, .int .u64 e.new, .bool e.wr] := by rw [hwx]; exact (Blk.new w _ _).drew
    obtain ⟨h, hs, he, h0⟩ := H.out
    have hz : wx.heap.size = w.heap.size + 1 := by rw [hwx]; simp [World.drew]
    rw [← hwx]
    clear hwx c0 c1 c2 c3 e0 e1 e2 e3 e4 H
    have hd1 := h.only0 hoA
    have hs1 := hs.only hoA (by simp) (by simp)
    have hgl := hs.body.lt
    have hpg : p ≠ g := hd1.head.ne_ hs1.body (by decide)
    have hf : ∀ W, Only [g] wx W → Only [g] wx W ∧ W.cell? ⟨w.heap.size, 0, none⟩ = some (.int .i64 e.cell) ∧ W.cell? ⟨w.heap.size, 3, none⟩ = some (.int .u64 e.new) ∧ W.cell? ⟨p, 0, none⟩ = some (.int .i64 d.mark) := fun W ho =>
      ⟨ho, (ho.blk hB (by simp; omega)).cell 0, (ho.blk hB (by simp; omega)).cell 3, (ho.blk hd1.head (by simpa using hpg)).cell 0⟩
    have HF := Lib.hid hf
    have hoy : Only [g] wx wx.drew := (Only.refl _ _).drew
    have cP := put_any ps g s e.cell d.mark e.new wx.drew (hs1.drewN 1)
    have cR := release_any ps g s e.cell d.mark wx.drew (hs1.drewN 1)
    have HX := Lib.hid (And.intro hd1 (And.intro (And.intro hpg hs1.body) (And.intro hoA (And.intro he h0))))
    clear hf hs1 hd1 hoA hB h hs he h0
    go_region_held3 (fun W => Only [g] wx W ∧ W.cell? ⟨w.heap.size, 0, none⟩ = some (.int .i64 e.cell) ∧ W.cell? ⟨w.heap.size, 3, none⟩ = some (.int .u64 e.new) ∧ W.cell? ⟨p, 0, none⟩ = some (.int .i64 d.mark))
      (first | exact HF.out _ hoy | exact HF.out _ hoz)
      (first | (go_at_call 69; (with_reducible refine cP.mono ?_); clear cP cR; rintro r w6 ⟨rfl, hs6, ho6⟩; have hoz := hoy.trans ho6) | (go_at_call 70; (with_reducible refine cR.mono ?_); clear cP cR; rintro r w6 ⟨rfl, hs6, ho6⟩; have hoz := hoy.trans ho6))
    obtain ⟨hd1, ⟨hpg, hgb⟩, hoA, he, h0⟩ := HX.out
    have hd6 := hd1.apart hoz hgb (by decide) (by decide)
    have c3 := hd6.c3
    have f3 := hd6.head.frozen 3
    have ho := (hoA.in0 (S := [p, g])).trans hoz.inr
    have HY := Lib.hid (And.intro hs6 (And.intro hd6 (And.intro ho (And.intro he (And.intro h0 hpg)))))
    clear hd1 hpg hoA he h0 hd6 hoz hs6 HX HF ho6 hoy hgb ho
    go_wp2_with fail
    go_end0
    obtain ⟨hs6, hd6, ho, he, h0, hpg⟩ := HY.out
    have hoS : Only [p] w6 (w6.setCell ⟨p, 3, none⟩ (.int .i64 ((d.pos : Int) + 1))) := (Only.refl _ _).setCell (by simp) _
    refine ⟨rfl, ?_, ?_, ho.trans hoS.inl⟩
    · have hh := hd6.head.set_ 3 (.int .i64 ((d.pos : Int) + 1))
      exact hd6.turn (st := d.st) (pos := d.pos + 1) hoS (by decide) (by simpa using hh) ⟨hd6.ok.mark, hd6.ok.st0, hd6.ok.st1, hk, hd6.ok.len⟩
    · have hr : ∀ b, (decide (d.st = 1 ∧ e.wr = true)) = b → relD d e s = if b = true then (putI s e.cell d.mark e.new).2 else (relI s e.cell d.mark).2 := fun b hb => by subst hb; unfold relD; simp
      have hx := hs6.only hoS (by simp; rintro rfl; exact absurd (hs6.head.uniq hd6.head).1 (by decide)) (by simp; exact Ne.symm hpg)
      first | (rw [hr true (by simp [*])]; exact hx) | (rw [hr false (by simp [*])]; exact hx)
end
end Go.Proofs.Ytleomgmhkoglmaa
