/- What a step of the document's own descriptor does once it isn't Open (layer 7). -/
import Derived.Test.YtgkjkmdenmighaaDescM
import Derived.Test.YtgkjkmdenmighaaRefC
import Derived.Deep.RegionHeld3
import Derived.Deep.DeepCutAuto
namespace Go.Proofs.Ytgkjkmdenmighaa
open Go.RowKit
abbrev RDT : TypeId := 44
abbrev RET : TypeId := 66
/-- a descriptor of the document's -/
abbrev RescAt (w : World) (p : Nat) (A : Option Addr) (cap : Nat) (d : De) : Prop := DescAt w RDT RET En.rowR 4 p A cap d
section
variable {w : World} {p ps g : Nat} {A : Option Addr} {cap : Nat} {d : De} {s : St}
set_option maxHeartbeats 1000000 in
theorem rover_any (h : RescAt w p A cap d) : Calls Try.prog 13 #[.pointer (some ⟨p, 0, none⟩)] w fun e w' => e = .returned (.bool d.over) ∧ ∃ q, w' = w.drewN q := by
  have c1 := h.c1
  have c2 := h.c2
  have c3 := h.c3
  have h1 := h.ok.st0
  by_cases h0 : d.st = 0
  · have hd : decide (0 < d.st) = false := by simp [h0]
    have e : d.over = false := by simp [De.over, h0]
    clear h h0
    go_enter Try.func13, Try.ntmps13
    go_wp2
    go_big_quiet (fail)
    go_wp2
    go_ret
    exact ⟨by rw [e]; rfl, _, rfl⟩
  · have hd : decide (0 < d.st) = true := by simp; omega
    have e : d.over = ((d.pos : Int) == (d.L.length : Int)) := by
      rw [Bool.eq_iff_iff]
      simp [De.over, h0]
      omega
    clear h h0
    obtain ⟨b, hb⟩ : ∃ b, ((d.pos : Int) == (d.L.length : Int)) = b := ⟨_, rfl⟩
    rw [hb] at e
    go_enter Try.func13, Try.ntmps13
    go_wp2
    go_big_quiet (fail)
    go_wp2
    go_ret
    exact ⟨by rw [e]; rfl, _, rfl⟩
set_option maxRecDepth 100000 in
set_option maxHeartbeats 2000000 in
theorem release_ref (h : RescAt w p A cap d) (hs : StoreAt w RT ps g s) {e : En} (he : d.L[d.pos]? = some e) (h0 : d.st ≠ 0) :
    Calls Try.prog 10 #[.pointer (some ⟨p, 0, none⟩), .pointer (some ⟨ps, 0, none⟩)] w fun r w' =>
      r = .returned (.int .i64 0) ∧ RescAt w' p A cap { d with pos := d.pos + 1 } ∧ StoreAt w' RT ps g (relD d e s) ∧ Only [p, g] w w' := by
  have hk : d.pos < d.L.length := (List.getElem?_eq_some_iff.1 he).1
  have cO := rover_any h
  have hov : d.over = false := by simp [De.over]; intro; omega
  rw [hov] at cO
  have h1 : 0 < d.st := by have := h.ok.st0; omega
  have hl := h.ok.len
  have H := Lib.hid (And.intro h (And.intro hs (And.intro he h0)))
  clear h hs h0 hov
  go_enter Try.func10, Try.ntmps10
  go_wp2_with (go_at_call 13; (with_reducible refine cO.mono ?_); clear cO; rintro r w1 ⟨rfl, q, hw⟩; have hE : Only [] w w1 := (by rw [hw]; exact (Only.refl _ _).drewN _); have h1 := H.out.1.only0 hE; have hs1 := H.out.2.1.only hE (by simp) (by simp); clear hw; have c1 := h1.c1; have c2 := h1.c2; have c3 := h1.c3)
  obtain ⟨ge, cur, rfl, hb, hc⟩ := h1.ents _ _ he
  have q : ∀ (j : Nat) (v : Value), e.rowR[j]? = some v → w1.cell? ⟨ge, d.pos * 4 + j, none⟩ = some v := fun j v hv => (hb.cell _).trans (hc j v hv)
  have e0 : w1.cell? ⟨ge, d.pos * 4, none⟩ = some (.int .i64 e.cell) := q 0 _ rfl
  have e1 := q 1 _ rfl
  have e2 := q 2 _ rfl
  have e3 := q 3 _ rfl
  have hge := hb.lt
  have hp := h1.head.lt
  have f3 := h1.head.frozen 3
  have HX := Lib.hid (And.intro h1 (And.intro hs1 (And.intro hE (And.intro he H.out.2.2.2))))
  clear q hc hb h1 hs1 hE he H
  go_region
  all_goals go_wp2_with fail
  obtain ⟨wx, hwx⟩ : ∃ wx, wx = ((w1.setCell ⟨p, 3, none⟩ (.int .i64 ((d.pos : Int) + 1))).alloc (.cells #[.int .i64 e.cell, .int .u32 e.ver, .int .u64 e.new, .bool e.wr] 66)).drew := ⟨_, rfl⟩
  have hoS : Only [p] w1 (w1.setCell ⟨p, 3, none⟩ (.int .i64 ((d.pos : Int) + 1))) := (Only.refl _ _).setCell (by simp) _
  have hoA : Only [] (w1.setCell ⟨p, 3, none⟩ (.int .i64 ((d.pos : Int) + 1))) wx := by rw [hwx]; exact ((Only.refl [] _).alloc _).drew
  have hB : Blk wx w1.heap.size 66 #[.int .i64 e.cell, .int .u32 e.ver, .int .u64 e.new, .bool e.wr] := by
    have := Blk.new (w1.setCell ⟨p, 3, none⟩ (.int .i64 ((d.pos : Int) + 1))) 66 #[.int .i64 e.cell, .int .u32 e.ver, .int .u64 e.new, .bool e.wr]
    rw [hwx]
    simpa using this.drew
  rw [← hwx]
  obtain ⟨h1, hs1, hE, he, h0⟩ := HX.out
  have hd : RescAt wx p (some ⟨ge, 0, none⟩) cap { d with pos := d.pos + 1 } := by
    have hh := h1.head.set_ 3 (.int .i64 ((d.pos : Int) + 1))
    exact (h1.turn (st := d.st) (pos := d.pos + 1) hoS (by decide) (by simpa using hh) ⟨h1.ok.mark, h1.ok.st0, h1.ok.st1, hk, h1.ok.len⟩).only0 hoA
  have hs := (hs1.only hoS (by simp; rintro rfl; exact absurd (hs1.head.uniq h1.head).1 (by decide)) (by simp; rintro rfl; exact absurd (hs1.body.uniq h1.head).1 (by decide))).only hoA (by simp) (by simp)
  have hO : Only [p] w wx := hE.in0.trans (hoS.trans hoA.in0)
  have hpg : p ≠ g := hd.head.ne_ hs.body (by decide)
  clear hwx hoS hoA h1 hs1 hE c1 c2 c3 e0 e1 e2 e3 f3 HX hge
  have y0 : wx.cell? ⟨w1.heap.size, 0, none⟩ = some (.int .i64 e.cell) := hB.cell 0
  have y2 : wx.cell? ⟨w1.heap.size, 2, none⟩ = some (.int .u64 e.new) := hB.cell 2
  have y3 : wx.cell? ⟨w1.heap.size, 3, none⟩ = some (.bool e.wr) := hB.cell 3
  have hcell := hs.cell0
  have hlen := hs.ok.len
  have c0 := hd.c0
  have c2 := hd.c2
  by_cases hr : e.cell < 0 ∨ (s.L.length : Int) ≤ e.cell
  · have hg := St.get_none hr
    have hR : relD d e s = s := by simp [relD, putI, relI, hg]
    have HY := Lib.hid (And.intro hd (And.intro hs hO))
    have HR := Lib.hid hR
    clear hd hs hO hR hg hB
    by_cases n1 : e.cell < 0
    · have k1 : decide (e.cell < 0) = true := by simpa using n1
      clear hr
      go_big_quiet (fail)
      go_wp2_with fail
      go_ret
      obtain ⟨hd, hs, hO⟩ := HY.out
      rw [HR.out]
      exact ⟨rfl, hd.drewN _, hs.drewN _, (hO.drewN _).inl⟩
    · have k1 : decide (e.cell < 0) = false := by simpa using n1
      have k2 : decide ((s.L.length : Int) ≤ e.cell) = true := by simp; omega
      clear hr
      go_big_quiet (fail)
      go_wp2_with fail
      go_ret
      obtain ⟨hd, hs, hO⟩ := HY.out
      rw [HR.out]
      exact ⟨rfl, hd.drewN _, hs.drewN _, (hO.drewN _).inl⟩
  · obtain ⟨k, c, hkc, hkl, hc⟩ := St.get_some hr
    have k1 : decide ((k : Int) < 0) = false := by simp
    have k2 : decide ((s.L.length : Int) ≤ (k : Int)) = false := by simp; omega
    have k2' : decide (s.L.length ≤ k) = false := by simp; omega
    have m2 := hs.at2 hc
    rw [hkc] at y0
    have HY := Lib.hid (And.intro hd (And.intro hs (And.intro hO hc)))
    have hgb := hs.body
    have hgl := hgb.lt
    have hrel : relD d e s = if d.st = 1 ∧ e.wr = true then (putI s k d.mark e.new).2 else (relI s k d.mark).2 := by simp only [relD, hkc]
    have hf : ∀ W, Only [g] wx W → Only [g] wx W ∧ W.cell? ⟨w1.heap.size, 0, none⟩ = some (.int .i64 k) ∧ W.cell? ⟨w1.heap.size, 2, none⟩ = some (.int .u64 e.new) ∧ W.cell? ⟨w1.heap.size, 3, none⟩ = some (.bool e.wr) ∧ W.cell? ⟨p, 0, none⟩ = some (.int .i64 d.mark) := fun W ho => by
      have hng : w1.heap.size ∉ [g] := fun hm => by
        simp at hm
        rw [← hm] at hgb
        exact absurd (hgb.uniq hB).1 (by decide)
      exact ⟨ho, by rw [← hkc]; exact (ho.blk hB hng).cell 0, (ho.blk hB hng).cell 2, (ho.blk hB hng).cell 3, (ho.blk hd.head (by simpa using hpg)).cell 0⟩
    have HF := Lib.hid (And.intro hf hgb)
    have HK := Lib.hid hrel
    clear hf hgb hd hs hO hr hB hc hkc hrel
    by_cases hm : c.mark = d.mark
    · have q1 : (c.mark != d.mark) = false := by simp [hm]
      clear hm
      go_big_quiet (fail)
      obtain ⟨wy, hwy⟩ : ∃ wy, wy = wx.drewN nq := ⟨_, rfl⟩
      have hE1 : Only [] wx wy := by rw [hwy]; exact (Only.refl _ _).drewN _
      have hd1 := HY.out.1.only0 hE1
      have hs1 := HY.out.2.1.only hE1 (by simp) (by simp)
      have z0 : wy.cell? ⟨w1.heap.size, 0, none⟩ = some (.int .i64 k) := by rw [hwy]; exact y0
      have z0' := hd1.c0
      have zc := hs1.cell0
      have z2 := hs1.at2 HY.out.2.2.2
      rw [← hwy]
      have HW := Lib.hid hwy
      clear hwy y0 y2 y3 c0 c2 m2 hd1 hs1 hE1 hcell
      go_wp2_with fail
      go_big_quiet (fail)
      obtain ⟨wz, hwz⟩ : ∃ wz, wz = wy.drewN nq := ⟨_, rfl⟩
      have hE2 : Only [] wx wz := by rw [hwz, HW.out]; exact ((Only.refl _ _).drewN _).drewN _
      have hd2 := HY.out.1.only0 hE2
      have hs2 := HY.out.2.1.only hE2 (by simp) (by simp)
      have u0 := HF.out.1 wz hE2.in0
      have u2 := hd2.c2
      rw [← hwz]
      have hO2 := HY.out.2.2.1.trans hE2.in0
      obtain ⟨-, -, -, u3, -⟩ := u0
      have cP := rput_any ps g s k d.mark e.new wz.drew (hs2.drewN 1)
      have cR := rrelease_any ps g s k d.mark wz.drew (hs2.drewN 1)
      have hoy : Only [g] wx wz.drew := hE2.in0.drew
      clear hwz hd2 hs2 hE2 z0 z0' zc z2 HW
      go_wp2_with fail
      all_goals
        go_region_held3 (fun W => Only [g] wx W ∧ W.cell? ⟨w1.heap.size, 0, none⟩ = some (.int .i64 k) ∧ W.cell? ⟨w1.heap.size, 2, none⟩ = some (.int .u64 e.new) ∧ W.cell? ⟨w1.heap.size, 3, none⟩ = some (.bool e.wr) ∧ W.cell? ⟨p, 0, none⟩ = some (.int .i64 d.mark))
          (first | exact HF.out.1 _ hoy | exact HF.out.1 _ hoz)
          (first | (go_at_call 22; (with_reducible refine cP.mono ?_); clear cP cR; rintro r w6 ⟨rfl, hs6, ho6⟩; have hoz := hoy.trans ho6) | (go_at_call 23; (with_reducible refine cR.mono ?_); clear cP cR; rintro r w6 ⟨rfl, hs6, ho6⟩; have hoz := hoy.trans ho6))
        clear u2 u3 hoy ho6
        go_wp2_with fail
        go_ret
        have hr : ∀ b, (decide (d.st = 1 ∧ e.wr = true)) = b → relD d e s = if b = true then (putI s k d.mark e.new).2 else (relI s k d.mark).2 := fun b hb => by subst hb; rw [HK.out]; simp
        refine ⟨rfl, HY.out.1.apart hoz HF.out.2 (by decide) (by decide), ?_, HY.out.2.2.1.inl.trans hoz.inr⟩
        first | (rw [hr true (by simp [*])]; exact hs6) | (rw [hr false (by simp [*])]; exact hs6)
    · have q1 : (c.mark != d.mark) = true := by simp [hm]
      have hR : relD d e s = s := by
        rw [HK.out]
        split
        · simp only [putI, St.get_nat, HY.out.2.2.2]; rw [if_pos (.inr hm)]
        · simp only [relI, St.get_nat, HY.out.2.2.2]; rw [if_pos (.inr hm)]
      clear hm
      go_big_quiet (fail)
      go_wp2_with fail
      go_big_quiet (fail)
      go_wp2_with fail
      go_ret
      obtain ⟨hd, hs, hO, -⟩ := HY.out
      rw [hR]
      exact ⟨rfl, (hd.drewN _).drewN _, (hs.drewN _).drewN _, ((hO.drewN _).drewN _).inl⟩
end
end Go.Proofs.Ytgkjkmdenmighaa
