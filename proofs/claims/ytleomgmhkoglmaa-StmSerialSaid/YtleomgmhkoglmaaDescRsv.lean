/- What reserve of package desc does: the next entry is looked at, and reserved (layer 7). -/
import Derived.Test.YtleomgmhkoglmaaDescA
import Derived.Deep.RegionHeld3
import Derived.Deep.DeepCutAuto
namespace Go.Proofs.Ytleomgmhkoglmaa
open Go.RowKit
theorem readI_cases (s : St) (i : Int) : ∃ cd c, readI s i = (cd, c) ∧ ((cd = 2 ∧ c = ⟨0, 0, 0⟩ ∧ s.get i = none) ∨ (cd = 0 ∧ s.get i = some c)) := by
  unfold readI
  cases h : s.get i with
  | none => exact ⟨2, ⟨0, 0, 0⟩, rfl, .inl ⟨rfl, rfl, rfl⟩⟩
  | some c => exact ⟨0, c, rfl, .inr ⟨rfl, rfl⟩⟩
section
variable {w : World} {p ps g : Nat} {A : Option Addr} {cap : Nat} {d : De} {s : St}
set_option maxRecDepth 100000 in
set_option maxHeartbeats 2000000 in
theorem reserve_desk (h : DeskAt w p A cap d) (hs : StoreAt w WT ps g s) {e : En} (he : d.L[d.pos]? = some e) :
    Calls Try.prog 65 #[.pointer (some ⟨p, 0, none⟩), .pointer (some ⟨ps, 0, none⟩)] w fun r w' =>
      r = .returned (.int .i64 (rsvD d e s).1) ∧ DeskAt w' p A cap (rsvD d e s).2.1 ∧ StoreAt w' WT ps g (rsvD d e s).2.2 ∧ Only [p, g] w w' := by
  have c0 := h.c0
  have c1 := h.c1
  have c2 := h.c2
  have c3 := h.c3
  have hl := h.ok.len
  have hp := h.head.lt
  have hk : d.pos < d.L.length := (List.getElem?_eq_some_iff.1 he).1
  obtain ⟨ge, cur, rfl, hb, hc⟩ := h.ents _ _ he
  have q : ∀ (j : Nat) (v : Value), e.row[j]? = some v → w.cell? ⟨ge, d.pos * 5 + j, none⟩ = some v := fun j v hv => (hb.cell _).trans (hc j v hv)
  have e0 : w.cell? ⟨ge, d.pos * 5, none⟩ = some (.int .i64 e.cell) := q 0 _ rfl
  have e1 := q 1 _ rfl
  have e2 := q 2 _ rfl
  have e3 := q 3 _ rfl
  have e4 := q 4 _ rfl
  have hge := hb.lt
  clear q
  have H := Lib.hid (And.intro h (And.intro hs he))
  clear h hs he hc hb
  go_enter Try.func65, Try.ntmps65
  go_wp2
  go_region
  obtain ⟨wx, hwx⟩ : ∃ wx, wx = (w.alloc (.cells #[.int .i64 e.cell, .int .u32 e.ver, .int .u64 e.old, .int .u64 e.new, .bool e.wr] 113)).drew := ⟨_, rfl⟩
  have hoA : Only [] w wx := by rw [hwx]; exact ((Only.refl [] w).alloc _).drew
  have hB : Blk wx w.heap.size 113 #[.int .i64 e.cell, .int .u32 e.ver, .int .u64 e.old, .int .u64 e.new, .bool e.wr] := by rw [hwx]; exact (Blk.new w _ _).drew
  have hz : wx.heap.size = w.heap.size + 1 := by rw [hwx]; simp [World.drew]
  rw [← hwx]
  clear hwx c0 c1 c2 c3 e0 e1 e2 e3 e4
  have x0 : wx.cell? ⟨w.heap.size, 0, none⟩ = some (.int .i64 e.cell) := hB.cell 0
  have hs1 := H.out.2.1.only hoA (by simp) (by simp)
  obtain ⟨cd, c, hR, hcase⟩ := readI_cases s e.cell
  have cRd := read_any ps g s e.cell wx hs1
  rw [hR] at cRd
  clear hR
  go_wp2_with fail
  refine cRd.mono ?_
  clear cRd
  rintro r w2 ⟨rfl, ho2⟩
  simp only [cV]
  go_wp2_with fail
  obtain ⟨w3, hw3⟩ : ∃ w3, w3 = w2.alloc (.cells #[.int .u64 c.v, .int .u32 c.ver, .int .i64 c.mark] 84) := ⟨_, rfl⟩
  have ho3 : Only [] wx w3 := by rw [hw3]; exact ho2.alloc _
  have hC : Blk w3 w2.heap.size 84 #[.int .u64 c.v, .int .u32 c.ver, .int .i64 c.mark] := by rw [hw3]; exact Blk.new w2 _ _
  have hz2 : wx.heap.size ≤ w2.heap.size := ho2.size
  rw [← hw3]
  clear hw3 ho2 x0
  have hs3 := hs1.only ho3 (by simp) (by simp)
  have hB3 := ho3.blk hB (by simp)
  have hd3 := H.out.1.only0 (hoA.trans ho3)
  have hO := hoA.trans ho3
  have he := H.out.2.2
  clear hs1 hB hoA ho3 H
  have hpz : w2.heap.size ≠ p := by omega
  have hpe : w.heap.size ≠ p := by omega
  have HX := Lib.hid (And.intro hs3 (And.intro hB3 (And.intro hC (And.intro hd3 (And.intro hO (And.intro he hcase))))))
  have y1 : w3.cell? ⟨w2.heap.size, 1, none⟩ = some (.int .u32 c.ver) := hC.cell 1
  have y2 : w3.cell? ⟨w2.heap.size, 2, none⟩ = some (.int .i64 c.mark) := hC.cell 2
  have x1 : w3.cell? ⟨w.heap.size, 1, none⟩ = some (.int .u32 e.ver) := hB3.cell 1
  have x4 : w3.cell? ⟨w.heap.size, 4, none⟩ = some (.bool e.wr) := hB3.cell 4
  have c0 : w3.cell? ⟨p, 0, none⟩ = some (.int .i64 d.mark) := hd3.c0
  clear hs3 hB3 hC hd3 hO he hcase
  obtain ⟨b, hb⟩ : ∃ b, Hid ((c.mark != 0 && c.mark != d.mark) = b) := ⟨_, Lib.hid rfl⟩
  go_cut [32] (fun v wy => v = .bool b ∧ ∃ n, wy = w3.drewN n)
  case first =>
    obtain ⟨b1, h1⟩ : ∃ b1, (c.mark != 0) = b1 := ⟨_, rfl⟩
    obtain ⟨b2, h2⟩ : ∃ b2, (c.mark != d.mark) = b2 := ⟨_, rfl⟩
    have hbb := hb.out
    rw [h1, h2] at hbb
    cases b1
    · go_big_quiet (fail)
      go_wp2_with fail
      go_meet
      exact ⟨by rw [← hbb]; rfl, _, rfl⟩
    · go_big_quiet (fail)
      go_wp2_with fail
      go_meet
      exact ⟨by rw [← hbb], _, rfl⟩
  case rest =>
    obtain ⟨rfl, nq, hw⟩ := hcut
    have hE : Only [] w3 wc := by rw [hw]; exact (Only.refl _ _).drewN _
    obtain ⟨hs3, hB3, hC, hd3, hO, he, hcase⟩ := HX.out
    replace hs3 := hs3.only hE (by simp) (by simp)
    replace hB3 := hE.blk hB3 (by simp)
    replace hC := hE.blk hC (by simp)
    replace hd3 := hd3.only0 hE
    replace hO := hO.trans hE
    clear y1 y2 x1 x4 c0 HX hw hE
    have HX := Lib.hid (And.intro hs3 (And.intro hd3 (And.intro hO (And.intro he hcase))))
    have y1 : wc.cell? ⟨w2.heap.size, 1, none⟩ = some (.int .u32 c.ver) := hC.cell 1
    have y2 : wc.cell? ⟨w2.heap.size, 2, none⟩ = some (.int .i64 c.mark) := hC.cell 2
    have x1 : wc.cell? ⟨w.heap.size, 1, none⟩ = some (.int .u32 e.ver) := hB3.cell 1
    have x4 : wc.cell? ⟨w.heap.size, 4, none⟩ = some (.bool e.wr) := hB3.cell 4
    cases b
    · have h4 : ¬ (c.mark ≠ 0 ∧ c.mark ≠ d.mark) := by
        have hb := hb.out
        rintro ⟨g1, g2⟩
        simp [g1, g2] at hb
      have cB := become_any hd3 2 (by decide)
      by_cases hcd : cd = 2
      · -- there is no such cell
        have hg : s.get e.cell = none := by
          rcases hcase with ⟨_, _, h⟩ | ⟨h, _⟩
          · exact h
          · omega
        have hR : rsvD d e s = (0, { d with st := 2, pos := 0 }, s) := by simp only [rsvD, hg]
        subst hcd
        rw [codeV_n (by decide : (2 : Int) ≠ 0)]
        clear hs3 hB3 hC hd3 hO he hcase h4
        go_wp2_with fail
        refine cB.mono ?_
        rintro r w5 ⟨rfl, hd5, ho5⟩
        obtain ⟨hs3, hd3, hO, -, -⟩ := HX.out
        go_wp2_with fail
        go_ret
        rw [hR]
        exact ⟨rfl, hd5, hs3.only ho5 (by simp; rintro rfl; exact absurd (hs3.head.uniq hd3.head).1 (by decide)) (by simp; rintro rfl; exact absurd (hs3.body.uniq hd3.head).1 (by decide)), hO.in0.trans ho5.inl⟩
      · obtain ⟨rfl, hg⟩ : cd = 0 ∧ s.get e.cell = some c := by
          rcases hcase with ⟨h, _⟩ | h
          · exact absurd h hcd
          · exact h
        rw [codeV0]
        by_cases hv : c.ver = e.ver
        · have hvb : (c.ver != e.ver) = false := by simp [hv]
          have cL : ∀ n, Calls Try.prog 71 #[.pointer (some ⟨ps, 0, none⟩)] (wc.drewN n) fun r w' => r = .returned (.int .u32 s.lim) ∧ w' = wc.drewN n := fun n =>
            (limit_any ps g s _ (hs3.drewN n)).mono fun _ _ ⟨h1, h2⟩ => ⟨h1, h2.symm⟩
          have HL := Lib.hid cL
          have HV := Lib.hid hv
          have H4 := Lib.hid h4
          have HBC := Lib.hid (And.intro hB3 hC)
          clear cL hs3 hB3 hC hd3 hO he hcase h4 hv hcd cB
          go_wp2_with fail
          obtain ⟨b3, hb3⟩ : ∃ b3, Hid ((e.wr && c.ver == s.lim) = b3) := ⟨_, Lib.hid rfl⟩
          go_cut [59] (fun v wy => v = .bool b3 ∧ ∃ n, wy = wc.drewN n)
          case first =>
            obtain ⟨b5, h5⟩ : ∃ b5, e.wr = b5 := ⟨_, rfl⟩
            obtain ⟨b6, h6⟩ : ∃ b6, (c.ver == s.lim) = b6 := ⟨_, rfl⟩
            have hbb := hb3.out
            rw [h5, h6] at hbb
            rw [h5] at x4
            clear h5
            cases b5
            · go_big_quiet (fail)
              go_wp2_with fail
              go_meet
              exact ⟨by rw [← hbb]; rfl, _, rfl⟩
            · go_big_quiet ((go_at_call 71; exact Calls.quiet_of_same (HL.out _)))
              go_wp2_with fail
              go_meet
              exact ⟨by rw [← hbb], _, rfl⟩
          case rest =>
            obtain ⟨rfl, nq, hw⟩ := hcut
            obtain ⟨wd, rfl⟩ : ∃ x, x = wc := ⟨_, rfl⟩
            have hE : Only [] wc wd := by rw [hw]; exact (Only.refl _ _).drewN _
            obtain ⟨hs3, hd3, hO, he, hcase⟩ := HX.out
            obtain ⟨hB3, hC⟩ := HBC.out
            have hg : s.get e.cell = some c := by
              rcases hcase with ⟨h, _⟩ | ⟨_, h⟩
              · omega
              · exact h
            replace hs3 := hs3.only hE (by simp) (by simp)
            replace hB3 := hE.blk hB3 (by simp)
            replace hd3 := hd3.only0 hE
            replace hO := hO.trans hE
            clear y1 y2 x1 x4 HX HBC hw hE HL hC hvb
            cases b3
            · have h3 : ¬ (e.wr = true ∧ c.ver = s.lim) := by
                have h := hb3.out
                rintro ⟨g1, g2⟩
                simp [g1, g2] at h
              have hR : rsvD d e s = (0, { d with pos := d.pos + 1 }, s.put e.cell { c with mark := d.mark }) := by
                simp only [rsvD, hg]; rw [if_neg H4.out, if_neg (not_not_intro HV.out), if_neg h3]
              have hI : rsvI s e.cell e.ver d.mark = (0, s.put e.cell { c with mark := d.mark }) := by
                simp only [rsvI, hg]; rw [if_neg (by have := hd3.ok.mark; omega), if_neg H4.out, if_neg (not_not_intro HV.out)]
              have hgb := hs3.body
              have hpg : p ≠ g := hd3.head.ne_ hs3.body (by decide)
              have hgl := hgb.lt
              have hf : ∀ W, Only [g] wd W → Only [g] wd W ∧ W.cell? ⟨w.heap.size, 0, none⟩ = some (.int .i64 e.cell) ∧ W.cell? ⟨w.heap.size, 1, none⟩ = some (.int .u32 e.ver) ∧ W.cell? ⟨p, 0, none⟩ = some (.int .i64 d.mark) := fun W ho => by
                have hng : w.heap.size ∉ [g] := fun hm => by
                  simp at hm
                  rw [← hm] at hgb
                  exact absurd (hgb.uniq hB3).1 (by decide)
                exact ⟨ho, (ho.blk hB3 hng).cell 0, (ho.blk hB3 hng).cell 1, (ho.blk hd3.head (by simpa using hpg)).cell 0⟩
              have HF := Lib.hid hf
              have hoy : Only [g] wd wd.drew := (Only.refl _ _).drew
              have cP := reserve_any ps g s e.cell e.ver d.mark wd.drew (hs3.drewN 1)
              rw [hI, codeV0] at cP
              have HX := Lib.hid (And.intro hd3 (And.intro hpg (And.intro hgb (And.intro hO hs3))))
              clear hf hs3 hd3 hO hB3 he hcase hg h3 hgb hI
              go_wp2_with fail
              go_region_held3 (fun W => Only [g] wd W ∧ W.cell? ⟨w.heap.size, 0, none⟩ = some (.int .i64 e.cell) ∧ W.cell? ⟨w.heap.size, 1, none⟩ = some (.int .u32 e.ver) ∧ W.cell? ⟨p, 0, none⟩ = some (.int .i64 d.mark))
                (first | exact HF.out _ hoy | exact HF.out _ hoz)
                (first | (go_at_call 72; (with_reducible refine cP.mono ?_); clear cP; rintro r w6 ⟨rfl, hs6, ho6⟩; have hoz := hoy.trans ho6))
              obtain ⟨hd1, hpg, hgb, hO, -⟩ := HX.out
              have hd6 := hd1.apart hoz hgb (by decide) (by decide)
              have c3 := hd6.c3
              have f3 := hd6.head.frozen 3
              have ho := (hO.in0 (S := [p, g])).trans hoz.inr
              have HY := Lib.hid (And.intro hs6 (And.intro hd6 ho))
              clear hd1 hO hd6 hoz hs6 HX HF ho6 hoy hgb ho
              go_wp2_with fail
              go_ret
              obtain ⟨hs6, hd6, ho⟩ := HY.out
              have hoS : Only [p] w6 (w6.setCell ⟨p, 3, none⟩ (.int .i64 ((d.pos : Int) + 1))) := (Only.refl _ _).setCell (by simp) _
              rw [hR]
              refine ⟨rfl, ?_, ?_, ho.trans hoS.inl⟩
              · have hh := hd6.head.set_ 3 (.int .i64 ((d.pos : Int) + 1))
                exact hd6.turn (st := d.st) (pos := d.pos + 1) hoS (by decide) (by simpa using hh) ⟨hd6.ok.mark, hd6.ok.st0, hd6.ok.st1, hk, hd6.ok.len⟩
              · exact hs6.only hoS (by simp; rintro rfl; exact absurd (hs6.head.uniq hd6.head).1 (by decide)) (by simp; exact Ne.symm hpg)
            · have h3 : e.wr = true ∧ c.ver = s.lim := by
                have h := hb3.out
                simpa using h
              have hR : rsvD d e s = (0, { d with st := 3, pos := 0 }, s) := by simp only [rsvD, hg]; rw [if_neg H4.out, if_neg (not_not_intro HV.out), if_pos h3]
              have cB := become_any hd3 3 (by decide)
              have HX := Lib.hid (And.intro hs3 (And.intro hd3 hO))
              clear hs3 hd3 hO hB3 he hcase hg h3
              go_wp2_with fail
              refine cB.mono ?_
              rintro r w5 ⟨rfl, hd5, ho5⟩
              obtain ⟨hs3, hd3, hO⟩ := HX.out
              go_wp2_with fail
              go_ret
              rw [hR]
              exact ⟨rfl, hd5, hs3.only ho5 (by simp; rintro rfl; exact absurd (hs3.head.uniq hd3.head).1 (by decide)) (by simp; rintro rfl; exact absurd (hs3.body.uniq hd3.head).1 (by decide)), hO.in0.trans ho5.inl⟩
        · have hvb : (c.ver != e.ver) = true := by simp [hv]
          have hR : rsvD d e s = (0, { d with st := 2, pos := 0 }, s) := by simp only [rsvD, hg]; rw [if_neg h4, if_pos hv]
          clear hs3 hB3 hC hd3 hO he hcase h4 hv hg hcd
          go_wp2_with fail
          refine cB.mono ?_
          rintro r w5 ⟨rfl, hd5, ho5⟩
          obtain ⟨hs3, hd3, hO, -, -⟩ := HX.out
          go_wp2_with fail
          go_ret
          rw [hR]
          exact ⟨rfl, hd5, hs3.only ho5 (by simp; rintro rfl; exact absurd (hs3.head.uniq hd3.head).1 (by decide)) (by simp; rintro rfl; exact absurd (hs3.body.uniq hd3.head).1 (by decide)), hO.in0.trans ho5.inl⟩
    · have hR : rsvD d e s = (c.mark, d, s) := by
        have hb := hb.out
        simp only [Bool.and_eq_true, bne_iff_ne] at hb
        rcases hcase with ⟨_, rfl, _⟩ | ⟨_, hg⟩
        · exact absurd rfl hb.1
        · simp only [rsvD, hg]; rw [if_pos hb]
      clear hs3 hB3 hC hd3 hO he hcase
      go_wp2_with fail
      go_ret
      rw [hR]
      exact ⟨rfl, HX.out.2.1, HX.out.1, HX.out.2.2.1.in0⟩
end
end Go.Proofs.Ytleomgmhkoglmaa
