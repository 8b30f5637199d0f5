/- What a run of a worker's job comes to (layer 8): a job that lacks no cell has a descriptor. -/
import Derived.Test.YtleomgmhkoglmaaStmJob
import Derived.Test.YtleomgmhkoglmaaTxEntsB
import Derived.Laws.EntriesVeiled
namespace Go.Proofs.Ytleomgmhkoglmaa
open Go.RowKit Go.Maps
/-- what run reads -/
structure RunAt (base : Nat) (w : World) (pm ps : Nat) (AWv AL : Value) (made : Int) (pw : Nat) (fv tv jv : Value) (num : Int) (j : Jb) (bt bm n sz N : Nat) (last : Value) (R : Int → Option Cl) (x : Int) (s : Dt) : Prop where
  hm : Blk w pm MT #[.pointer (some ⟨ps, 0, none⟩), AWv, .int .i64 made, AL]
  hw : Blk w pw WkT #[fv, tv, jv, .pointer (some ⟨bt, 0, none⟩), .pointer none, .int .i64 num]
  hJ : JobAt base w jv j
  hr : RecAt w bt bm n N last R sz
  hs : j.run (machD N R) Dt.new = (x, s)
  sz : sz ≤ 1000
  made : 0 ≤ made ∧ made ≤ 1000000
  hb : base ≤ w.heap.size
section
variable {base : Nat} {w : World} {pm ps : Nat} {AWv AL : Value} {made : Int} {pw : Nat} {fv tv jv : Value} {num : Int} {j : Jb} {bt bm n sz N : Nat} {last : Value} {R : Int → Option Cl} {x : Int} {s : Dt}
/-- behind the record's Run -/
structure RanAt (base : Nat) (w : World) (pm ps : Nat) (AWv AL : Value) (made : Int) (pw : Nat) (fv tv jv : Value) (num : Int) (j : Jb) (bt bm n sz N : Nat) (R : Int → Option Cl) (x : Int) (s : Dt) (W : World) : Prop where
  hm : Blk W pm MT #[.pointer (some ⟨ps, 0, none⟩), AWv, .int .i64 made, AL]
  hw : Blk W pw WkT #[fv, tv, jv, .pointer (some ⟨bt, 0, none⟩), .pointer none, .int .i64 num]
  hr : ∃ bd bw m, RecAt W bt bm n N (.pointer (some ⟨bd, 0, none⟩)) R sz ∧ DraftAt W bd bw bt m s true
  h1 : Blk W w.heap.size PWT #[.pointer (some ⟨pw, 0, none⟩)]
  h2 : Blk W (w.heap.size + 1) IntT #[.int .i64 x]
  ho : Only [bt] w W
theorem run_head (h : RunAt base w pm ps AWv AL made pw fv tv jv num j bt bm n sz N last R x s) {wa : World} (hwa : wa = ((w.alloc (.cells #[.pointer (some ⟨pw, 0, none⟩)] PWT)).alloc (.cells #[.int .i64 0] IntT))) :
    Calls Try.prog 41 #[.pointer (some ⟨bt, 0, none⟩), .func (.func 42) #[] #[.pointer (some ⟨w.heap.size, 0, none⟩), .pointer (some ⟨w.heap.size + 1, 0, none⟩)]] wa fun e w' =>
      e = .returned (.tuple #[.int .i64 (s.lk.getD 0), .bool (!s.lk.isSome)]) ∧ RanAt base w pm ps AWv AL made pw fv tv jv num j bt bm n sz N R x s w' := by
  have hz1 : (w.alloc (.cells #[.pointer (some ⟨pw, 0, none⟩)] PWT)).heap.size = w.heap.size + 1 := by simp
  have hz2 : wa.heap.size = w.heap.size + 2 := by rw [hwa]; simp
  have hb1 : Blk wa w.heap.size PWT #[.pointer (some ⟨pw, 0, none⟩)] := by rw [hwa]; exact (Blk.new w _ _).alloc _
  have hb2 : Blk wa (w.heap.size + 1) IntT #[.int .i64 0] := by rw [hwa, ← hz1]; exact Blk.new _ _ _
  have ho : Only [] w wa := by rw [hwa]; exact ((Only.refl _ _).alloc _).alloc _
  clear hwa hz1
  have hr := h.hr.only ho (by simp) (by simp)
  have hJ := h.hJ.only ho Clear.nil (by simp)
  have hw := ho.blk h.hw (by simp)
  have hm := ho.blk h.hm (by simp)
  have lbt := h.hr.blk.lt
  have lbm := h.hr.own.lt
  have lpw := h.hw.lt
  have lpm := h.hm.lt
  have hwt : pw ≠ bt := h.hw.ne_ h.hr.blk (by decide)
  have hmt : pm ≠ bt := h.hm.ne_ h.hr.blk (by decide)
  have cR := Run_any (w := wa) hr 42 #[.pointer (some ⟨w.heap.size, 0, none⟩), .pointer (some ⟨w.heap.size + 1, 0, none⟩)] [w.heap.size + 1] [w.heap.size + 1] (fun s' w' => s' = s ∧ Blk w' (w.heap.size + 1) IntT #[.int .i64 x])
    (fun s' a b ⟨h1, h2⟩ hk => ⟨h1, (hk _ (by simp)).trans h2⟩) (fun k hk => by simp at hk; omega) (fun k hk => by simp at hk; omega) enterRun
    (fun bd bw wb hbd hbw hrb hdb hob => by
      have cJ := run1_any (base := base) (j := j) (p1 := w.heap.size) (p2 := w.heap.size + 1) (pw := pw) (x0 := 0) hrb hdb (hJ.only hob Clear.nil (by simp)) (by omega) (by have := h.hb; omega) (by have := h.hb; omega) ((hob.blk hb1 (by simp)).cell 0) ((hob.blk hw (by simp)).cell 2) (hob.blk hb2 (by simp)) (by omega)
      rw [h.hs] at cJ
      refine cJ.mono ?_
      rintro e w' ⟨rfl, m, s', h1, h2, h3, h4⟩
      exact ⟨rfl, m, s', h1, h2, h3, h4⟩)
  refine cR.mono ?_
  rintro e w' ⟨bd, bw, m, s', rfl, hbd, hbw, hr', hd', ho', rfl, h2'⟩
  have hall : Only [bt] w w' := (ho.in0 (S := [bt])).then ho' (fun y hy => by
    simp only [List.mem_cons, List.not_mem_nil, or_false] at hy
    rcases hy with rfl | rfl
    · exact .inl (by simp)
    · exact .inr (by omega))
  refine ⟨rfl, hall.blk h.hm (by simpa using hmt), hall.blk h.hw (by simpa using hwt), ⟨bd, bw, m, hr', hd'⟩, ho'.blk hb1 (by simp; omega), h2', hall⟩
variable {W : World}
theorem RanAt.held (h : RanAt base w pm ps AWv AL made pw fv tv jv num j bt bm n sz N R x s W) (hne : pw ≠ pm) (hl : pw < w.heap.size ∧ pm < w.heap.size) {mv : Int} {W' : World} (ho : Only [pw] (W.setCell ⟨pm, 2, none⟩ (.int .i64 mv)) W') :
    Only [pw] (W.setCell ⟨pm, 2, none⟩ (.int .i64 mv)) W' ∧ W'.cell? ⟨w.heap.size, 0, none⟩ = some (.pointer (some ⟨pw, 0, none⟩)) ∧ W'.cell? ⟨pm, 2, none⟩ = some (.int .i64 mv) ∧ W'.cell? ⟨w.heap.size + 1, 0, none⟩ = some (.int .i64 x) := by
  have k1 := ho.blk (h.h1.far (p := ⟨pm, 2, none⟩) (by simp; omega) (.int .i64 mv)) (by simp; omega)
  have k2 := ho.blk (h.h2.far (p := ⟨pm, 2, none⟩) (by simp; omega) (.int .i64 mv)) (by simp; omega)
  have k3 := ho.blk (h.hm.set_ 2 (.int .i64 mv)) (by simpa using hne.symm)
  exact ⟨ho, k1.cell 0, by simpa using k3.cell 2, k2.cell 0⟩
set_option maxRecDepth 100000 in
set_option maxHeartbeats 2000000 in
theorem run_done (h : RunAt base w pm ps AWv AL made pw fv tv jv num j bt bm n sz N last R x s) (hlk : s.lk = none) :
    Calls Try.prog 26 #[.pointer (some ⟨pm, 0, none⟩), .pointer (some ⟨pw, 0, none⟩)] w fun e w' => e = .returned (.tuple #[]) ∧ ∃ w1 last' p A' cap ks, RecAt w1 bt bm n N last' R sz ∧ Only [bt] w w1 ∧ KeysF R sz ks ∧
      DeskAt w' p A' cap ⟨made + 1, ents R s.wr ks, 0, 0⟩ ∧ w1.heap.size ≤ p ∧ Only [pm, pw] w1 w' ∧ Blk w' pm MT #[.pointer (some ⟨ps, 0, none⟩), AWv, .int .i64 (made + 1), AL] ∧ Blk w' pw WkT #[fv, tv, jv, .pointer (some ⟨bt, 0, none⟩), .pointer (some ⟨p, 0, none⟩), .int .i64 x] := by
  have c3 : (w.alloc (.cells #[.pointer (some ⟨pw, 0, none⟩)] PWT)).cell? ⟨pw, 3, none⟩ = some (.pointer (some ⟨bt, 0, none⟩)) := (h.hw.alloc _).cell 3
  have hcR := Lib.hid fun wa hwa => run_head (wa := wa) h hwa
  have hmade := h.made
  have hsz := Lib.hid h.sz
  have hne : pw ≠ pm := h.hw.ne_ h.hm (by decide)
  have hl : pw < w.heap.size ∧ pm < w.heap.size := ⟨h.hw.lt, h.hm.lt⟩
  have hl1 := hl.1
  have hl2 := hl.2
  clear h
  go_enter Try.func26, Try.ntmps26
  go_wp2_with fail
  have cR := hcR.out _ rfl
  rw [show s.lk.getD 0 = 0 by rw [hlk]; rfl, show (!s.lk.isSome) = true by rw [hlk]; rfl] at cR
  refine cR.mono ?_
  clear cR hcR c3
  rintro e w1 ⟨rfl, hR⟩
  have m2 : w1.cell? ⟨pm, 2, none⟩ = some (.int .i64 made) := hR.hm.cell 2
  have f2 : w1.frozen? ⟨pm, 2, none⟩ = false := hR.hm.frozen 2
  have hm2 := Lib.hid hR.hm.lt
  obtain ⟨bd, bw, m, hr, hd⟩ := hR.hr
  have hx0 : wrap64 (made + 1) = made + 1 := by unfold wrap64; omega
  have HR := Lib.hid hR
  clear hR
  go_wp2_with fail

  have hO2 : Only [pm] w1 (w1.setCell ⟨pm, 2, none⟩ (.int .i64 (made + 1))) := (Only.refl _ _).setCell (.inl (by simp)) _
  have hS0 := HR.out.held hne hl (mv := made + 1) (Only.refl _ _).drew
  have hb2 : Blk (w1.setCell ⟨pm, 2, none⟩ (.int .i64 (made + 1))) pw WkT #[fv, tv, jv, .pointer (some ⟨bt, 0, none⟩), .pointer none, .int .i64 num] := hO2.blk HR.out.hw (by simpa using hne)
  have hr2 := hr.only hO2 (by simp; exact hr.blk.ne_ HR.out.hm (by decide)) (by simp; exact Ne.symm (hr.own.ne_blk HR.out.hm))
  have hd2 := hd.only hO2 (by simp; exact hd.blk.ne_ HR.out.hm (by decide)) (by simp; obtain ⟨_, q⟩ := hd.own; exact Ne.symm (q.ne_blk HR.out.hm))
  have cE := entries_any (w := (w1.setCell ⟨pm, 2, none⟩ (.int .i64 (made + 1))).drew) (hr2.drewN 1) (hd2.drewN 1) (by rw [hlk]; rfl) hsz.out
  have HX := Lib.hid (And.intro hr hO2)
  clear hr hd hd2 hr2 m2 f2
  go_region_held3 (fun W => Only [pw] (w1.setCell ⟨pm, 2, none⟩ (.int .i64 (made + 1))) W ∧ W.cell? ⟨w.heap.size, 0, none⟩ = some (.pointer (some ⟨pw, 0, none⟩)) ∧ W.cell? ⟨pm, 2, none⟩ = some (.int .i64 (made + 1)) ∧ W.cell? ⟨w.heap.size + 1, 0, none⟩ = some (.int .i64 x))
    (first | exact hS0 | exact HR.out.held hne hl hoE | exact HR.out.held hne hl hoN | exact HR.out.held hne hl (hoN.setCell (.inl (by simp)) _) | exact HR.out.held hne hl ((hoN.setCell (.inl (by simp)) _).setCell (.inl (by simp)) _))
    (first | (go_at_call 44; (with_reducible refine cE.mono ?_); clear cE; rintro e w5 ⟨v, ks, rfl, hK, hown, ho5⟩; have hoE : Only [pw] (w1.setCell ⟨pm, 2, none⟩ (.int .i64 (made + 1))) w5 := (Only.refl _ _).drew.trans ho5.in0; obtain ⟨EA, ec, rfl, hN⟩ := RowN.of_owns En.row_len hown; have cN := desc_new ec (made + 1) (by omega) hN.rows (by have := hK.len; have := hsz.out; simp [ents]; omega)) | (go_at_call 43; (with_reducible refine cN.mono ?_); clear cN; rintro e w6 ⟨p, A', cap, rfl, hp, hda, ho6⟩; have hoN := hoE.trans ho6.in0; have hb6 := ((Only.refl [] (w1.setCell ⟨pm, 2, none⟩ (.int .i64 (made + 1)))).drew.trans ho5).trans ho6 |>.blk hb2 (by simp); have k4 : w6.cell? ⟨pw, 4, none⟩ = some (.pointer none) := hb6.cell 4; have k5 : w6.cell? ⟨pw, 5, none⟩ = some (.int .i64 num) := hb6.cell 5; have f4 : w6.frozen? ⟨pw, 4, none⟩ = false := hb6.frozen 4; have f5 : w6.frozen? ⟨pw, 5, none⟩ = false := hb6.frozen 5))
  go_wp2_with fail
  refine bodyPost_ret (results_none rfl _ _ _) rfl ?_
  obtain ⟨hr, hO2⟩ := HX.out
  have hO6 : Only [] (w1.setCell ⟨pm, 2, none⟩ (.int .i64 (made + 1))) w6 := ((Only.refl _ _).drew.trans ho5).trans ho6
  have hOS : Only [pw] w6 ((w6.setCell ⟨pw, 4, none⟩ (.pointer (some ⟨p, 0, none⟩))).setCell ⟨pw, 5, none⟩ (.int .i64 x)) := ((Only.refl _ _).setCell (.inl (by simp)) _).setCell (.inl (by simp)) _
  have hall : Only [pm, pw] w1 ((w6.setCell ⟨pw, 4, none⟩ (.pointer (some ⟨p, 0, none⟩))).setCell ⟨pw, 5, none⟩ (.int .i64 x)) :=
    ((hO2.more (S' := [pm, pw]) (by simp +contextual)).trans hO6.in0).trans (hOS.more (by simp +contextual))
  have hm6 : Blk (w1.setCell ⟨pm, 2, none⟩ (.int .i64 (made + 1))) pm MT #[.pointer (some ⟨ps, 0, none⟩), AWv, .int .i64 (made + 1), AL] := by
    have := HR.out.hm.set_ 2 (.int .i64 (made + 1))
    simpa using this
  refine ⟨rfl, w1, _, p, A', cap, ks, hr, HR.out.ho, hK, hda.only hOS (by simp; exact hda.head.ne_ hb6 (by decide)) (fun g cur hg => by simp; exact hg.ne_ hb6 (by decide)), ?_, hall, hOS.blk (hO6.blk hm6 (by simp)) (by simpa using hne.symm), ?_⟩
  · have := hO2.size
    have := ho5.size
    have e : ∀ W : World, W.drew.heap.size = W.heap.size := fun _ => rfl
    rw [e] at this
    omega
  · have := (hb6.set_ 4 (.pointer (some ⟨p, 0, none⟩))).set_ 5 (.int .i64 x)
    simpa using this
end
end Go.Proofs.Ytleomgmhkoglmaa
