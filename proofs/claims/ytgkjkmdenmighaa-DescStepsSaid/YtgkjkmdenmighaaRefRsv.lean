/- What a step of the document's own descriptor does while it is Open: once all are reserved; where there is no such cell; where another mark is in the way (layer 7). -/
import Derived.Test.YtgkjkmdenmighaaRefDesc
namespace Go.Proofs.Ytgkjkmdenmighaa
open Go.RowKit
section
variable {w : World} {p ps g : Nat} {A : Option Addr} {cap : Nat} {d : De} {s : St}
theorem resc_turn {W : World} (hd : RescAt W p A cap d) (x : Int) (hx : 0 ≤ x ∧ x ≤ 3) :
    RescAt ((W.setCell ⟨p, 2, none⟩ (.int .i64 x)).setCell ⟨p, 3, none⟩ (.int .i64 0)) p A cap { d with st := x, pos := 0 } ∧ Only [p] W ((W.setCell ⟨p, 2, none⟩ (.int .i64 x)).setCell ⟨p, 3, none⟩ (.int .i64 0)) := by
  have ho : Only [p] W ((W.setCell ⟨p, 2, none⟩ (.int .i64 x)).setCell ⟨p, 3, none⟩ (.int .i64 0)) := ((Only.refl _ _).setCell (by simp) _).setCell (by simp) _
  refine ⟨hd.turn (st := x) (pos := 0) ho (by decide) ?_ ⟨hd.ok.mark, hx.1, hx.2, by simp, hd.ok.len⟩, ho⟩
  have := (hd.head.set_ 2 (.int .i64 x)).set_ 3 (.int .i64 0)
  simpa using this
theorem store_resc {W W' : World} (hs : StoreAt W RT ps g s) (hd : RescAt W p A cap d) (ho : Only [p] W W') : StoreAt W' RT ps g s :=
  hs.only ho (by simp; rintro rfl; exact absurd (hs.head.uniq hd.head).1 (by decide)) (by simp; rintro rfl; exact absurd (hs.body.uniq hd.head).1 (by decide))
set_option maxRecDepth 100000 in
set_option maxHeartbeats 2000000 in
theorem done_ref (h : RescAt w p A cap d) (hs : StoreAt w RT ps g s) (hn : d.pos = d.L.length) (h0 : d.st = 0) :
    Calls Try.prog 10 #[.pointer (some ⟨p, 0, none⟩), .pointer (some ⟨ps, 0, none⟩)] w fun r w' =>
      r = .returned (.int .i64 0) ∧ RescAt w' p A cap { d with st := 1, pos := 0 } ∧ StoreAt w' RT ps g s ∧ Only [p, g] w w' := by
  have cO := rover_any h
  have hov : d.over = false := by simp [De.over, h0]
  rw [hov] at cO
  have h1 : ¬ 0 < d.st := by omega
  have hl := h.ok.len
  have hb : ((d.pos : Int) == (d.L.length : Int)) = true := by simp; omega
  have H := Lib.hid (And.intro h hs)
  clear h hs h0 hov hn
  go_enter Try.func10, Try.ntmps10
  go_wp2_with (go_at_call 13; (with_reducible refine cO.mono ?_); clear cO; rintro r w1 ⟨rfl, q, hw⟩; have hE : Only [] w w1 := (by rw [hw]; exact (Only.refl _ _).drewN _); have hd1 := H.out.1.only0 hE; have hs1 := H.out.2.only hE (by simp) (by simp); clear hw; have c1 := hd1.c1; have c2 := hd1.c2; have c3 := hd1.c3)
  obtain ⟨wo, hwo⟩ : ∃ x, x = w1 := ⟨_, rfl⟩
  go_big_quiet (fail)
  obtain ⟨wz, hwz⟩ : ∃ wz, wz = w1.drewN nq := ⟨_, rfl⟩
  have hE2 : Only [] w1 wz := by rw [hwz]; exact (Only.refl _ _).drewN _
  have hd := hd1.only0 hE2
  have hs2 := hs1.only hE2 (by simp) (by simp)
  have hO := hE.trans hE2
  rw [← hwz]
  clear hwz hE hE2 hd1 hs1 c1 c2 c3
  have c2 := hd.c2
  have c3 := hd.c3
  have f2 := hd.head.frozen 2
  have f3 := hd.head.frozen 3
  have HX := Lib.hid (And.intro hd (And.intro hs2 hO))
  clear hd hs2 hO H hwo
  go_wp2_with fail
  go_ret
  obtain ⟨hd, hs2, hO⟩ := HX.out
  obtain ⟨hd', ho'⟩ := resc_turn hd 1 (by decide)
  exact ⟨rfl, hd', store_resc hs2 hd ho', hO.in0.trans ho'.inl⟩
set_option maxRecDepth 100000 in
set_option maxHeartbeats 4000000 in
theorem rsv_none (h : RescAt w p A cap d) (hs : StoreAt w RT ps g s) {e : En} (he : d.L[d.pos]? = some e) (h0 : d.st = 0) (hr : e.cell < 0 ∨ (s.L.length : Int) ≤ e.cell) :
    Calls Try.prog 10 #[.pointer (some ⟨p, 0, none⟩), .pointer (some ⟨ps, 0, none⟩)] w fun r w' =>
      r = .returned (.int .i64 (rsvD d e s).1) ∧ RescAt w' p A cap (rsvD d e s).2.1 ∧ StoreAt w' RT ps g (rsvD d e s).2.2 ∧ Only [p, g] w w' := by
  have hk : d.pos < d.L.length := (List.getElem?_eq_some_iff.1 he).1
  have cO := rover_any h
  have hov : d.over = false := by simp [De.over, h0]
  rw [hov] at cO
  have h1 : ¬ 0 < d.st := by omega
  have hl := h.ok.len
  have hb : ((d.pos : Int) == (d.L.length : Int)) = false := by simp; omega
  have H := Lib.hid (And.intro h (And.intro hs he))
  clear h hs h0 hov he
  go_enter Try.func10, Try.ntmps10
  go_wp2_with (go_at_call 13; (with_reducible refine cO.mono ?_); clear cO; rintro r w1 ⟨rfl, q, hw⟩; have hE : Only [] w w1 := (by rw [hw]; exact (Only.refl _ _).drewN _); have hd1 := H.out.1.only0 hE; have hs1 := H.out.2.1.only hE (by simp) (by simp); clear hw; have c1 := hd1.c1; have c2 := hd1.c2; have c3 := hd1.c3)
  go_big_quiet (fail)
  obtain ⟨wz, hwz⟩ : ∃ wz, wz = w1.drewN nq := ⟨_, rfl⟩
  have hE2 : Only [] w1 wz := by rw [hwz]; exact (Only.refl _ _).drewN _
  have hd := hd1.only0 hE2
  have hs2 := hs1.only hE2 (by simp) (by simp)
  have hO := hE.trans hE2
  rw [← hwz]
  have he := H.out.2.2
  clear hwz hE hE2 hd1 hs1 c1 c2 c3 H
  go_wp2_with fail
  obtain ⟨ge, cur, rfl, hb2, hc⟩ := hd.ents _ _ he
  have q : ∀ (j : Nat) (v : Value), e.rowR[j]? = some v → wz.cell? ⟨ge, d.pos * 4 + j, none⟩ = some v := fun j v hv => (hb2.cell _).trans (hc j v hv)
  have e0 : wz.cell? ⟨ge, d.pos * 4, none⟩ = some (.int .i64 e.cell) := q 0 _ rfl
  have e1 := q 1 _ rfl
  have e2 := q 2 _ rfl
  have e3 := q 3 _ rfl
  have c1 := hd.c1
  have c3 := hd.c3
  have hge := hb2.lt
  have hp := hd.head.lt
  have HX := Lib.hid (And.intro hd (And.intro hs2 (And.intro hO he)))
  clear q hc hb2 hd hs2 hO he
  go_region
  all_goals go_wp2_with fail
  obtain ⟨wx, hwx⟩ : ∃ wx, wx = (wz.alloc (.cells #[.int .i64 e.cell, .int .u32 e.ver, .int .u64 e.new, .bool e.wr] 66)).drew := ⟨_, rfl⟩
  have hoA : Only [] wz wx := by rw [hwx]; exact ((Only.refl [] _).alloc _).drew
  have hB : Blk wx wz.heap.size 66 #[.int .i64 e.cell, .int .u32 e.ver, .int .u64 e.new, .bool e.wr] := by
    have := Blk.new wz 66 #[.int .i64 e.cell, .int .u32 e.ver, .int .u64 e.new, .bool e.wr]
    rw [hwx]
    simpa using this.drew
  rw [← hwx]
  have HX2 := Lib.hid (And.intro (HX.out.1.only0 hoA) (And.intro (HX.out.2.1.only hoA (by simp) (by simp)) (HX.out.2.2.1.trans hoA)))
  have hpx : p < wx.heap.size := Nat.lt_of_lt_of_le hp hoA.size
  have hzx : wz.heap.size < wx.heap.size := by rw [hwx]; simp [World.drew]
  clear hwx hoA HX e0 e1 e2 e3 c1 c3 hp hge
  obtain ⟨hd, hs, hO⟩ := HX2.out
  have y0 : wx.cell? ⟨wz.heap.size, 0, none⟩ = some (.int .i64 e.cell) := hB.cell 0
  have hcell := hs.cell0
  have hg := St.get_none hr
  have HR := Lib.hid (show rsvD d e s = (0, { d with st := 2, pos := 0 }, s) by simp only [rsvD, hg])
  clear hd hs hO hg hB
  go_cut [8] (fun v wy => v = .bool true ∧ ∃ n, wy = wx.drewN n)
  case first =>
    by_cases n1 : e.cell < 0
    · have k1 : decide (e.cell < 0) = true := by simpa using n1
      clear hr
      go_big_quiet (fail)
      go_wp2_with fail
      go_meet
      exact ⟨rfl, _, rfl⟩
    · have k1 : decide (e.cell < 0) = false := by simpa using n1
      have k2 : decide ((s.L.length : Int) ≤ e.cell) = true := by simp; omega
      clear hr
      go_big_quiet (fail)
      go_wp2_with fail
      go_meet
      exact ⟨rfl, _, rfl⟩
  case rest =>
    obtain ⟨rfl, nq, hw⟩ := hcut
    have hE : Only [] wx wc := by rw [hw]; exact (Only.refl _ _).drewN _
    have hd := HX2.out.1.only0 hE
    have hs := HX2.out.2.1.only hE (by simp) (by simp)
    have hO := HX2.out.2.2.trans hE
    clear y0 hcell HX2 hw hE
    have c2 := hd.c2
    have c3 := hd.c3
    have f2 := hd.head.frozen 2
    have f3 := hd.head.frozen 3
    have HX := Lib.hid (And.intro hd (And.intro hs hO))
    clear hd hs hO
    go_wp2_with fail
    go_ret
    obtain ⟨hd, hs, hO⟩ := HX.out
    obtain ⟨hd', ho'⟩ := resc_turn hd 2 (by decide)
    rw [HR.out]
    exact ⟨rfl, hd', store_resc hs hd ho', hO.in0.trans ho'.inl⟩
set_option maxRecDepth 100000 in
set_option maxHeartbeats 4000000 in
theorem rsv_tell (h : RescAt w p A cap d) (hs : StoreAt w RT ps g s) {e : En} (he : d.L[d.pos]? = some e) (h0 : d.st = 0) {k : Nat} {c : C} (hkc : e.cell = k) (hkl : k < s.L.length) (hc : s.L[k]? = some c) (h4 : c.mark ≠ 0 ∧ c.mark ≠ d.mark) :
    Calls Try.prog 10 #[.pointer (some ⟨p, 0, none⟩), .pointer (some ⟨ps, 0, none⟩)] w fun r w' =>
      r = .returned (.int .i64 (rsvD d e s).1) ∧ RescAt w' p A cap (rsvD d e s).2.1 ∧ StoreAt w' RT ps g (rsvD d e s).2.2 ∧ Only [p, g] w w' := by
  have hkc_ := Lib.hid hkc
  have hc_ := Lib.hid hc
  have h4_ := Lib.hid h4
  clear h4 hc hkc
  have hk : d.pos < d.L.length := (List.getElem?_eq_some_iff.1 he).1
  have cO := rover_any h
  have hov : d.over = false := by simp [De.over, h0]
  rw [hov] at cO
  have h1 : ¬ 0 < d.st := by omega
  have hl := h.ok.len
  have hb : ((d.pos : Int) == (d.L.length : Int)) = false := by simp; omega
  have H := Lib.hid (And.intro h (And.intro hs he))
  clear h hs h0 hov he
  go_enter Try.func10, Try.ntmps10
  go_wp2_with (go_at_call 13; (with_reducible refine cO.mono ?_); clear cO; rintro r w1 ⟨rfl, q, hw⟩; have hE : Only [] w w1 := (by rw [hw]; exact (Only.refl _ _).drewN _); have hd1 := H.out.1.only0 hE; have hs1 := H.out.2.1.only hE (by simp) (by simp); clear hw; have c1 := hd1.c1; have c2 := hd1.c2; have c3 := hd1.c3)
  go_big_quiet (fail)
  obtain ⟨wz, hwz⟩ : ∃ wz, wz = w1.drewN nq := ⟨_, rfl⟩
  have hE2 : Only [] w1 wz := by rw [hwz]; exact (Only.refl _ _).drewN _
  have hd := hd1.only0 hE2
  have hs2 := hs1.only hE2 (by simp) (by simp)
  have hO := hE.trans hE2
  rw [← hwz]
  have he := H.out.2.2
  clear hwz hE hE2 hd1 hs1 c1 c2 c3 H
  go_wp2_with fail
  obtain ⟨ge, cur, rfl, hb2, hc⟩ := hd.ents _ _ he
  have q : ∀ (j : Nat) (v : Value), e.rowR[j]? = some v → wz.cell? ⟨ge, d.pos * 4 + j, none⟩ = some v := fun j v hv => (hb2.cell _).trans (hc j v hv)
  have e0 : wz.cell? ⟨ge, d.pos * 4, none⟩ = some (.int .i64 e.cell) := q 0 _ rfl
  have e1 := q 1 _ rfl
  have e2 := q 2 _ rfl
  have e3 := q 3 _ rfl
  have c1 := hd.c1
  have c3 := hd.c3
  have hge := hb2.lt
  have hp := hd.head.lt
  have HX := Lib.hid (And.intro hd (And.intro hs2 (And.intro hO he)))
  clear q hc hb2 hd hs2 hO he
  go_region
  all_goals go_wp2_with fail
  obtain ⟨wx, hwx⟩ : ∃ wx, wx = (wz.alloc (.cells #[.int .i64 e.cell, .int .u32 e.ver, .int .u64 e.new, .bool e.wr] 66)).drew := ⟨_, rfl⟩
  have hoA : Only [] wz wx := by rw [hwx]; exact ((Only.refl [] _).alloc _).drew
  have hB : Blk wx wz.heap.size 66 #[.int .i64 e.cell, .int .u32 e.ver, .int .u64 e.new, .bool e.wr] := by
    have := Blk.new wz 66 #[.int .i64 e.cell, .int .u32 e.ver, .int .u64 e.new, .bool e.wr]
    rw [hwx]
    simpa using this.drew
  rw [← hwx]
  have HX2 := Lib.hid (And.intro (HX.out.1.only0 hoA) (And.intro (HX.out.2.1.only hoA (by simp) (by simp)) (HX.out.2.2.1.trans hoA)))
  have hpx : p < wx.heap.size := Nat.lt_of_lt_of_le hp hoA.size
  have hzx : wz.heap.size < wx.heap.size := by rw [hwx]; simp [World.drew]
  clear hwx hoA HX e0 e1 e2 e3 c1 c3 hp hge
  obtain ⟨hd, hs, hO⟩ := HX2.out
  have y0 : wx.cell? ⟨wz.heap.size, 0, none⟩ = some (.int .i64 e.cell) := hB.cell 0
  have hcell := hs.cell0
  have hkc := hkc_.out
  have hc := hc_.out
  have h4 := h4_.out
  have hg : s.get e.cell = some c := by rw [hkc, St.get_nat]; exact hc
  have k1 : decide ((k : Int) < 0) = false := by simp
  have k2 : decide ((s.L.length : Int) ≤ (k : Int)) = false := by simp; omega
  have k2' : decide (s.L.length ≤ k) = false := by simp; omega
  rw [hkc] at y0
  have HC := Lib.hid (And.intro hc (And.intro hg hkc))
  clear hd hs hO hg hkc
  go_big_quiet (fail)
  obtain ⟨wy, hwy⟩ : ∃ wy, wy = wx.drewN nq := ⟨_, rfl⟩
  have hE : Only [] wx wy := by rw [hwy]; exact (Only.refl _ _).drewN _
  have hd := HX2.out.1.only0 hE
  have hs := HX2.out.2.1.only hE (by simp) (by simp)
  have hO := HX2.out.2.2.trans hE
  replace hB := hE.blk hB (by simp)
  rw [← hwy]
  have hpy : p < wy.heap.size := Nat.lt_of_lt_of_le hpx hE.size
  have hzy : wz.heap.size < wy.heap.size := Nat.lt_of_lt_of_le hzx hE.size
  have hgy := hs.body.lt
  have hsy := hs.head.lt
  have y0 : wy.cell? ⟨wz.heap.size, 0, none⟩ = some (.int .i64 k) := by rw [hwy]; exact y0
  have hcell := hs.cell0
  have m0 := hs.at0 hc
  have m1 := hs.at1 hc
  have m2 := hs.at2 hc
  clear hwy hE HX2 hpx hzx hc
  have HX := Lib.hid (And.intro hd (And.intro hs (And.intro hO hB)))
  clear hd hs hO hB
  go_wp2_with fail
  go_region
  all_goals go_wp2_with fail
  obtain ⟨wv, hwv⟩ : ∃ wv, wv = (wy.alloc (.cells #[.int .u64 c.v, .int .u32 c.ver, .int .i64 c.mark] 55)).drew := ⟨_, rfl⟩
  have hE : Only [] wy wv := by rw [hwv]; exact ((Only.refl [] _).alloc _).drew
  have hCb : Blk wv wy.heap.size 55 #[.int .u64 c.v, .int .u32 c.ver, .int .i64 c.mark] := by
    have := Blk.new wy 55 #[.int .u64 c.v, .int .u32 c.ver, .int .i64 c.mark]
    rw [hwv]
    simpa using this.drew
  rw [← hwv]
  have hd := HX.out.1.only0 hE
  have hs := HX.out.2.1.only hE (by simp) (by simp)
  have hO := HX.out.2.2.1.trans hE
  have hB := hE.blk HX.out.2.2.2 (by simp)
  have hgne : wy.heap.size ≠ g := by omega
  clear hwv hE HX hpy hzy hgy hsy y0 hcell m0 m1 m2
  have HX := Lib.hid (And.intro hd (And.intro hs (And.intro hO (And.intro hB hCb))))
  have y1 : wv.cell? ⟨wz.heap.size, 1, none⟩ = some (.int .u32 e.ver) := hB.cell 1
  have y3 : wv.cell? ⟨wz.heap.size, 3, none⟩ = some (.bool e.wr) := hB.cell 3
  have m1 : wv.cell? ⟨wy.heap.size, 1, none⟩ = some (.int .u32 c.ver) := hCb.cell 1
  have m2 : wv.cell? ⟨wy.heap.size, 2, none⟩ = some (.int .i64 c.mark) := hCb.cell 2
  have c0 := hd.c0
  have hlim := hs.cell1
  clear hd hs hO hB hCb
  have HR := Lib.hid (show rsvD d e s = (c.mark, d, s) by simp only [rsvD, HC.out.2.1]; rw [if_pos h4])
  have q1 : (c.mark != 0) = true := by simpa using h4.1
  have q2 : (c.mark != d.mark) = true := by simpa using h4.2
  clear h4
  go_big_quiet (fail)
  go_wp2_with fail
  go_ret
  obtain ⟨hd, hs, hO, -, -⟩ := HX.out
  rw [HR.out]
  exact ⟨rfl, hd.drewN _, hs.drewN _, (hO.drewN _).in0⟩
end
end Go.Proofs.Ytgkjkmdenmighaa
