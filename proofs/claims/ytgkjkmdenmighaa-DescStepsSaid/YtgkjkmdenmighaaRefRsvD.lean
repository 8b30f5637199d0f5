/- What a step of the document's own descriptor does while it is Open: where the cell is reserved, for an entry that is only read (layer 7). -/
import Derived.Test.YtgkjkmdenmighaaRefRsv
namespace Go.Proofs.Ytgkjkmdenmighaa
open Go.RowKit
section
variable {w : World} {p ps g : Nat} {A : Option Addr} {cap : Nat} {d : De} {s : St}
set_option maxRecDepth 100000 in
set_option maxHeartbeats 4000000 in
theorem rsv_read (h : RescAt w p A cap d) (hs : StoreAt w RT ps g s) {e : En} (he : d.L[d.pos]? = some e) (h0 : d.st = 0) {k : Nat} {c : C} (hkc : e.cell = k) (hkl : k < s.L.length) (hc : s.L[k]? = some c) (h4 : ¬ (c.mark ≠ 0 ∧ c.mark ≠ d.mark)) (hv : c.ver = e.ver) (h3 : e.wr = false) :
    Calls Try.prog 10 #[.pointer (some ⟨p, 0, none⟩), .pointer (some ⟨ps, 0, none⟩)] w fun r w' =>
      r = .returned (.int .i64 (rsvD d e s).1) ∧ RescAt w' p A cap (rsvD d e s).2.1 ∧ StoreAt w' RT ps g (rsvD d e s).2.2 ∧ Only [p, g] w w' := by
  have hkc_ := Lib.hid hkc
  have hc_ := Lib.hid hc
  have h4_ := Lib.hid h4
  have hv_ := Lib.hid hv
  have h3_ := Lib.hid h3
  clear h3 hv h4 hc hkc
  have hk : d.pos < d.L.length := (List.getElem?_eq_some_iff.1 he).1
  have cO := rover_any h
  have hov : d.over = false := by simp [De.over, h0]
  rw [hov] at cO
  have h1 : ¬ 0 < d.st := by omega
  have hl := h.ok.len
  have hb : ((d.pos : Int) == (d.L.length : Int)) = false := by simp; omega
  have H := Lib.hid (And.intro h (And.intro hs he))
  clear h hs h0 hov he
  go_enter Try.func10, Try.ntmps10
  go_wp2_with (go_at_call 13; (with_reducible refine cO.mono ?_); clear cO; rintro r w1 ⟨rfl, q, hw⟩; have hE : Only [] w w1 := (by rw [hw]; exact (Only.refl _ _).drewN _); have hd1 := H.out.1.only0 hE; have hs1 := H.out.2.1.only hE (by simp) (by simp); clear hw; have c1 := hd1.c1; have c2 := hd1.c2; have c3 := hd1.c3)
  go_big_quiet (fail)
  obtain ⟨wz, hwz⟩ : ∃ wz, wz = w1.drewN nq := ⟨_, rfl⟩
  have hE2 : Only [] w1 wz := by rw [hwz]; exact (Only.refl _ _).drewN _
  have hd := hd1.only0 hE2
  have hs2 := hs1.only hE2 (by simp) (by simp)
  have hO := hE.trans hE2
  rw [← hwz]
  have he := H.out.2.2
  clear hwz hE hE2 hd1 hs1 c1 c2 c3 H
  go_wp2_with fail
  obtain ⟨ge, cur, rfl, hb2, hc⟩ := hd.ents _ _ he
  have q : ∀ (j : Nat) (v : Value), e.rowR[j]? = some v → wz.cell? ⟨ge, d.pos * 4 + j, none⟩ = some v := fun j v hv => (hb2.cell _).trans (hc j v hv)
  have e0 : wz.cell? ⟨ge, d.pos * 4, none⟩ = some (.int .i64 e.cell) := q 0 _ rfl
  have e1 := q 1 _ rfl
  have e2 := q 2 _ rfl
  have e3 := q 3 _ rfl
  have c1 := hd.c1
  have c3 := hd.c3
  have hge := hb2.lt
  have hp := hd.head.lt
  have HX := Lib.hid (And.intro hd (And.intro hs2 (And.intro hO he)))
  clear q hc hb2 hd hs2 hO he
  go_region
  all_goals go_wp2_with fail
  obtain ⟨wx, hwx⟩ : ∃ wx, wx = (wz.alloc (.cells #[.int .i64 e.cell, .int .u32 e.ver, .int .u64 e.new, .bool e.wr] 66)).drew := ⟨_, rfl⟩
  have hoA : Only [] wz wx := by rw [hwx]; exact ((Only.refl [] _).alloc _).drew
  have hB : Blk wx wz.heap.size 66 #[.int .i64 e.cell, .int .u32 e.ver, .int .u64 e.new, .bool e.wr] := by
    have := Blk.new wz 66 #[.int .i64 e.cell, .int .u32 e.ver, .int .u64 e.new, .bool e.wr]
    rw [hwx]
    simpa using this.drew
  rw [← hwx]
  have HX2 := Lib.hid (And.intro (HX.out.1.only0 hoA) (And.intro (HX.out.2.1.only hoA (by simp) (by simp)) (HX.out.2.2.1.trans hoA)))
  have hpx : p < wx.heap.size := Nat.lt_of_lt_of_le hp hoA.size
  have hzx : wz.heap.size < wx.heap.size := by rw [hwx]; simp [World.drew]
  clear hwx hoA HX e0 e1 e2 e3 c1 c3 hp hge
  obtain ⟨hd, hs, hO⟩ := HX2.out
  have y0 : wx.cell? ⟨wz.heap.size, 0, none⟩ = some (.int .i64 e.cell) := hB.cell 0
  have hcell := hs.cell0
  have hkc := hkc_.out
  have hc := hc_.out
  have h4 := h4_.out
  have hg : s.get e.cell = some c := by rw [hkc, St.get_nat]; exact hc
  have k1 : decide ((k : Int) < 0) = false := by simp
  have k2 : decide ((s.L.length : Int) ≤ (k : Int)) = false := by simp; omega
  have k2' : decide (s.L.length ≤ k) = false := by simp; omega
  rw [hkc] at y0
  have HC := Lib.hid (And.intro hc (And.intro hg hkc))
  clear hd hs hO hg hkc
  go_big_quiet (fail)
  obtain ⟨wy, hwy⟩ : ∃ wy, wy = wx.drewN nq := ⟨_, rfl⟩
  have hE : Only [] wx wy := by rw [hwy]; exact (Only.refl _ _).drewN _
  have hd := HX2.out.1.only0 hE
  have hs := HX2.out.2.1.only hE (by simp) (by simp)
  have hO := HX2.out.2.2.trans hE
  replace hB := hE.blk hB (by simp)
  rw [← hwy]
  have hpy : p < wy.heap.size := Nat.lt_of_lt_of_le hpx hE.size
  have hzy : wz.heap.size < wy.heap.size := Nat.lt_of_lt_of_le hzx hE.size
  have hgy := hs.body.lt
  have hsy := hs.head.lt
  have y0 : wy.cell? ⟨wz.heap.size, 0, none⟩ = some (.int .i64 k) := by rw [hwy]; exact y0
  have hcell := hs.cell0
  have m0 := hs.at0 hc
  have m1 := hs.at1 hc
  have m2 := hs.at2 hc
  clear hwy hE HX2 hpx hzx hc
  have HX := Lib.hid (And.intro hd (And.intro hs (And.intro hO hB)))
  clear hd hs hO hB
  go_wp2_with fail
  go_region
  all_goals go_wp2_with fail
  obtain ⟨wv, hwv⟩ : ∃ wv, wv = (wy.alloc (.cells #[.int .u64 c.v, .int .u32 c.ver, .int .i64 c.mark] 55)).drew := ⟨_, rfl⟩
  have hE : Only [] wy wv := by rw [hwv]; exact ((Only.refl [] _).alloc _).drew
  have hCb : Blk wv wy.heap.size 55 #[.int .u64 c.v, .int .u32 c.ver, .int .i64 c.mark] := by
    have := Blk.new wy 55 #[.int .u64 c.v, .int .u32 c.ver, .int .i64 c.mark]
    rw [hwv]
    simpa using this.drew
  rw [← hwv]
  have hd := HX.out.1.only0 hE
  have hs := HX.out.2.1.only hE (by simp) (by simp)
  have hO := HX.out.2.2.1.trans hE
  have hB := hE.blk HX.out.2.2.2 (by simp)
  have hgne : wy.heap.size ≠ g := by omega
  clear hwv hE HX hpy hzy hgy hsy y0 hcell m0 m1 m2
  have HX := Lib.hid (And.intro hd (And.intro hs (And.intro hO (And.intro hB hCb))))
  have y1 : wv.cell? ⟨wz.heap.size, 1, none⟩ = some (.int .u32 e.ver) := hB.cell 1
  have y3 : wv.cell? ⟨wz.heap.size, 3, none⟩ = some (.bool e.wr) := hB.cell 3
  have m1 : wv.cell? ⟨wy.heap.size, 1, none⟩ = some (.int .u32 c.ver) := hCb.cell 1
  have m2 : wv.cell? ⟨wy.heap.size, 2, none⟩ = some (.int .i64 c.mark) := hCb.cell 2
  have c0 := hd.c0
  have hlim := hs.cell1
  clear hd hs hO hB hCb
  have H4 := Lib.hid h4
  clear h4
  go_cut [150] (fun v wy => v = .bool false ∧ ∃ n, wy = wv.drewN n)
  case first =>
    by_cases h5 : c.mark = 0
    · have q1 : (c.mark != 0) = false := by simp [h5]
      clear h5
      go_big_quiet (fail)
      go_wp2_with fail
      go_meet
      exact ⟨rfl, _, rfl⟩
    · have q1 : (c.mark != 0) = true := by simp [h5]
      have q2 : (c.mark != d.mark) = false := by
        have := H4.out
        simp [h5] at this
        simp [this]
      clear h5
      go_big_quiet (fail)
      go_wp2_with fail
      go_meet
      exact ⟨rfl, _, rfl⟩
  case rest =>
    obtain ⟨rfl, nq, hw⟩ := hcut
    have hE : Only [] wv wc := by rw [hw]; exact (Only.refl _ _).drewN _
    have y1 : wc.cell? ⟨wz.heap.size, 1, none⟩ = some (.int .u32 e.ver) := by rw [hw]; exact y1
    have y3 : wc.cell? ⟨wz.heap.size, 3, none⟩ = some (.bool e.wr) := by rw [hw]; exact y3
    have m1 : wc.cell? ⟨wy.heap.size, 1, none⟩ = some (.int .u32 c.ver) := by rw [hw]; exact m1
    have hlim : wc.cell? ⟨ps, 1, none⟩ = some (.int .u32 s.lim) := by rw [hw]; exact hlim
    have hd := HX.out.1.only0 hE
    have hs := HX.out.2.1.only hE (by simp) (by simp)
    have hO := HX.out.2.2.1.trans hE
    have hB := hE.blk HX.out.2.2.2.1 (by simp)
    clear hw HX hE
    have HX := Lib.hid (And.intro hd (And.intro hs (And.intro hO hB)))
    have hv := hv_.out
    have q1 : (c.ver != e.ver) = false := by simp [hv]
    have HV := Lib.hid hv
    clear hv hd hs hO hB
    go_wp2_with fail
    have h3 := h3_.out
    have HR := Lib.hid (show rsvD d e s = (0, { d with pos := d.pos + 1 }, s.put e.cell { c with mark := d.mark }) by simp only [rsvD, HC.out.2.1]; rw [if_neg H4.out, if_neg (not_not_intro HV.out), if_neg (fun h => by rw [h3] at h; cases h.1)])
    rw [h3] at y3
    clear h3
    go_big_quiet (fail)
    obtain ⟨wd, hwd⟩ : ∃ wd, wd = wc.drewN nq := ⟨_, rfl⟩
    have hE : Only [] wc wd := by rw [hwd]; exact (Only.refl _ _).drewN _
    rw [← hwd]
    obtain ⟨hd, hs, hO, hB⟩ := HX.out
    replace hs := hs.only hE (by simp) (by simp)
    replace hB := hE.blk hB (by simp)
    replace hd := hd.only0 hE
    replace hO := hO.trans hE
    clear hwd hE HX y1 y3 m1 hlim
    have hI : rsvI s k e.ver d.mark = (0, s.put e.cell { c with mark := d.mark }) := by
      have hg : s.get (k : Int) = some c := by rw [St.get_nat]; exact HC.out.1
      simp only [rsvI, hg]; rw [if_neg (by have := hd.ok.mark; omega), if_neg H4.out, if_neg (not_not_intro HV.out), HC.out.2.2]
    have hgb := hs.body
    have hpg : p ≠ g := hd.head.ne_ hs.body (by decide)
    have hf : ∀ W, Only [g] wd W → Only [g] wd W ∧ W.cell? ⟨wz.heap.size, 0, none⟩ = some (.int .i64 k) ∧ W.cell? ⟨wz.heap.size, 1, none⟩ = some (.int .u32 e.ver) ∧ W.cell? ⟨p, 0, none⟩ = some (.int .i64 d.mark) := fun W ho => by
      have hng : wz.heap.size ∉ [g] := fun hm => by
        simp at hm
        rw [← hm] at hgb
        exact absurd (hgb.uniq hB).1 (by decide)
      exact ⟨ho, by rw [← HC.out.2.2]; exact (ho.blk hB hng).cell 0, (ho.blk hB hng).cell 1, (ho.blk hd.head (by simpa using hpg)).cell 0⟩
    have HF := Lib.hid hf
    have hoy : Only [g] wd wd.drew := (Only.refl _ _).drew
    have cP := rreserve_any ps g s k e.ver d.mark wd.drew (hs.drewN 1)
    rw [hI] at cP
    have HX := Lib.hid (And.intro hd (And.intro hpg (And.intro hgb hO)))
    clear hf hs hd hO hB hgb hI
    go_wp2_with fail
    go_region_held3 (fun W => Only [g] wd W ∧ W.cell? ⟨wz.heap.size, 0, none⟩ = some (.int .i64 k) ∧ W.cell? ⟨wz.heap.size, 1, none⟩ = some (.int .u32 e.ver) ∧ W.cell? ⟨p, 0, none⟩ = some (.int .i64 d.mark))
      (first | exact HF.out _ hoy | exact HF.out _ hoz)
      (first | (go_at_call 24; (with_reducible refine cP.mono ?_); clear cP; rintro r w6 ⟨rfl, hs6, ho6⟩; have hoz := hoy.trans ho6))
    obtain ⟨hd1, hpg, hgb, hO⟩ := HX.out
    have hd6 := hd1.apart hoz hgb (by decide) (by decide)
    have c3 := hd6.c3
    have f3 := hd6.head.frozen 3
    have ho := (hO.in0 (S := [p, g])).trans hoz.inr
    have HY := Lib.hid (And.intro hs6 (And.intro hd6 ho))
    clear hd1 hO hd6 hoz hs6 HX HF ho6 hoy hgb ho
    go_wp2_with fail
    go_ret
    obtain ⟨hs6, hd6, ho⟩ := HY.out
    have hoS : Only [p] w6 (w6.setCell ⟨p, 3, none⟩ (.int .i64 ((d.pos : Int) + 1))) := (Only.refl _ _).setCell (by simp) _
    rw [HR.out]
    refine ⟨rfl, ?_, store_resc hs6 hd6 hoS, ho.trans hoS.inl⟩
    have hh := hd6.head.set_ 3 (.int .i64 ((d.pos : Int) + 1))
    exact hd6.turn (st := d.st) (pos := d.pos + 1) hoS (by decide) (by simpa using hh) ⟨hd6.ok.mark, hd6.ok.st0, hd6.ok.st1, hk, hd6.ok.len⟩
end
end Go.Proofs.Ytgkjkmdenmighaa
