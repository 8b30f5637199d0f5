/- What a step of a worker's descriptor does, whoever takes it (layer 8). -/
import Derived.Test.YtleomgmhkoglmaaStmT
import Derived.Test.YtleomgmhkoglmaaStmW
import Derived.Test.YtleomgmhkoglmaaDescStep
namespace Go.Proofs.Ytleomgmhkoglmaa
open Go.RowKit
section
variable {base : Nat} {w : World} {G : Geo} {J : List (List Jb)} {M : Ma} {Ps : List Nat} {Fs : List Ft} {AL : Value} {S : List Nat}
/-- what advance reads -/
structure AdvAt (base : Nat) (w : World) (pm ps gS : Nat) (g n cW k : Nat) (made : Int) (AL : Value) (ln : Nat) (xs : List Value) (pw p : Nat) (fv tv jv rv : Value) (num : Int) (tl : Nat) (A : Option Addr) (cap : Nat) (d : De) (s : St) : Prop where
  hm : Blk w pm MT #[.pointer (some ⟨ps, 0, none⟩), .slice (some ⟨g, 0, none⟩) n cW, .int .i64 made, AL]
  hg : w.cell? ⟨g, k, none⟩ = some (.pointer (some ⟨pw, 0, none⟩))
  gl : ∃ cur, Blk w g PWT cur
  hk : k < n
  hn : n ≤ 8
  hw : Blk w pw WkT #[fv, tv, jv, rv, .pointer (some ⟨p, 0, none⟩), .int .i64 num]
  ht : ∃ T c, tv = .slice T tl c
  hd : DeskAt w p A cap d
  hs : StoreAt w WT ps gS s
  hl : w.ownsRow base LgT 4 AL ln xs
  ln : ln ≤ 1000000
  hb : base ≤ w.heap.size
variable {pm ps gS g n cW k : Nat} {made : Int} {ln : Nat} {xs : List Value} {pw p : Nat} {fv tv jv rv : Value} {num : Int} {tl : Nat} {A : Option Addr} {cap : Nat} {d : De} {s : St}
theorem AdvAt.held (h : AdvAt base w pm ps gS g n cW k made AL ln xs pw p fv tv jv rv num tl A cap d s) {W : World} (ho : Only [p, gS] w W) : Only [p, gS] w W ∧ W.cell? ⟨pw, 4, none⟩ = some (.pointer (some ⟨p, 0, none⟩)) ∧ W.cell? ⟨pm, 0, none⟩ = some (.pointer (some ⟨ps, 0, none⟩)) := by
  have h1 : pw ∉ [p, gS] := apart_of h.hd.head h.hs.body (t := WkT) (by decide) (by decide) _ _ h.hw
  have h2 : pm ∉ [p, gS] := apart_of h.hd.head h.hs.body (t := MT) (by decide) (by decide) _ _ h.hm
  exact ⟨ho, (ho.blk h.hw h1).cell 4, (ho.blk h.hm h2).cell 0⟩
theorem infoLg : (Try.prog.info? 44).map (fun i => (i.zero, i.size, i.bytes)) = some (some (.agg #[.int .i64 0, .int .i64 0, .int .i64 0, .bool false]), 4, 32) := by kernel_rfl
theorem AdvAt.after (h : AdvAt base w pm ps gS g n cW k made AL ln xs pw p fv tv jv rv num tl A cap d s) {w1 : World} {d' : De} {s' : St} (ho : Only [p, gS] w w1) (hd : DeskAt w1 p A cap d') (hs : StoreAt w1 WT ps gS s') : AdvAt base w1 pm ps gS g n cW k made AL ln xs pw p fv tv jv rv num tl A cap d' s' := by
  have q : ∀ {t : TypeId} {x : Nat} {cur : Array Value}, Blk w x t cur → t ≠ DT → t ≠ CellT → x ∉ [p, gS] := fun {t x cur} hx h1 h2 => apart_of h.hd.head h.hs.body (t := t) h1 h2 _ _ hx
  obtain ⟨cur, hc⟩ := h.gl
  refine ⟨ho.blk h.hm (q h.hm (by decide) (by decide)), (ho.cell (p := ⟨g, k, none⟩) hc.lt (q hc (by decide) (by decide))).trans h.hg, ⟨cur, ho.blk hc (q hc (by decide) (by decide))⟩, h.hk, h.hn, ho.blk h.hw (q h.hw (by decide) (by decide)), h.ht, hd, hs, owns_keep h.hl ho (fun x hx => ?_), h.ln, Nat.le_trans h.hb ho.size⟩
  obtain ⟨cur, hc⟩ := owns_blk h.hl hx
  exact q hc (by decide) (by decide)
set_option maxRecDepth 100000 in
set_option maxHeartbeats 2000000 in
/-- a step that ends nothing -/
theorem adv_quiet (h : AdvAt base w pm ps gS g n cW k made AL ln xs pw p fv tv jv rv num tl A cap d s) {x : Int} {d' : De} {s' : St} (hR : stepD d s = (x, d', s')) (hno : ¬ (d.st = 0 ∧ (d'.st = 1 ∨ d'.st = 3))) :
    Calls Try.prog 49 #[.pointer (some ⟨pm, 0, none⟩), .int .i64 k] w fun e w' => e = .returned (.int .i64 x) ∧ DeskAt w' p A cap d' ∧ StoreAt w' WT ps gS s' ∧ Only [p, gS] w w' := by
  have m1 : w.cell? ⟨pm, 1, none⟩ = some (.slice (some ⟨g, 0, none⟩) n cW) := h.hm.cell 1
  have c4 : w.cell? ⟨pw, 4, none⟩ = some (.pointer (some ⟨p, 0, none⟩)) := h.hw.cell 4
  have hg := h.hg
  have hk := h.hk
  have hn := h.hn
  have cS := status_any h.hd
  have cT := step_desk (w := w.drew) (h.hd.drewN 1) (h.hs.drewN 1)
  rw [hR] at cT
  simp only at cT
  have hk' : (k : Int) < (n : Int) := by omega
  have hk0 : (0 : Int) ≤ (k : Int) := by omega
  have H := Lib.hid h
  clear h
  obtain ⟨st', hst'⟩ : ∃ b, Hid (d'.st = b) := ⟨_, Lib.hid rfl⟩
  rw [hst'.out] at hno
  have hcase : (d.st ≠ 0) ∨ (d.st = 0 ∧ (st' == 1) = false ∧ (st' == 3) = false) := by
    by_cases h0 : d.st = 0
    · right
      refine ⟨h0, ?_, ?_⟩
      · rw [beq_eq_false_iff_ne]; intro e; exact hno ⟨h0, .inl e⟩
      · rw [beq_eq_false_iff_ne]; intro e; exact hno ⟨h0, .inr e⟩
    · exact .inl h0
  clear hno
  rcases hcase with h0 | ⟨h0, h1, h3⟩
  · have h0' : (d.st == 0) = false := by simpa using h0
    clear h0
    go_enter Try.func49, Try.ntmps49
    go_wp2_with (go_at_call 50; (with_reducible refine cS.mono ?_); clear cS; rintro e w1 ⟨rfl, rfl⟩)
    go_region_held3 (fun W => Only [p, gS] w W ∧ W.cell? ⟨pw, 4, none⟩ = some (.pointer (some ⟨p, 0, none⟩)) ∧ W.cell? ⟨pm, 0, none⟩ = some (.pointer (some ⟨ps, 0, none⟩)))
      (first | exact H.out.held (Only.refl _ _).drew | exact H.out.held ((Only.refl _ _).drew.trans hoS))
      (first | (go_at_call 59; (with_reducible refine cT.mono ?_); clear cT; rintro e w2 ⟨rfl, hd2, hs2, hoS⟩))
    have c4' := (H.out.held ((Only.refl _ _).drew.trans hoS)).2.1
    have cS2 := status_any hd2
    rw [hst'.out] at cS2
    go_wp2_with (go_at_call 50; (with_reducible refine cS2.mono ?_); clear cS2; rintro e w1 ⟨rfl, rfl⟩)
    go_ret
    exact ⟨rfl, hd2, hs2, (Only.refl _ _).drew.trans hoS⟩
  · have h0' : (d.st == 0) = true := by simpa using h0
    rw [h0] at cS
    go_enter Try.func49, Try.ntmps49
    go_wp2_with (go_at_call 50; (with_reducible refine cS.mono ?_); clear cS; rintro e w1 ⟨rfl, rfl⟩)
    go_region_held3 (fun W => Only [p, gS] w W ∧ W.cell? ⟨pw, 4, none⟩ = some (.pointer (some ⟨p, 0, none⟩)) ∧ W.cell? ⟨pm, 0, none⟩ = some (.pointer (some ⟨ps, 0, none⟩)))
      (first | exact H.out.held (Only.refl _ _).drew | exact H.out.held ((Only.refl _ _).drew.trans hoS))
      (first | (go_at_call 59; (with_reducible refine cT.mono ?_); clear cT; rintro e w2 ⟨rfl, hd2, hs2, hoS⟩))
    have c4' := (H.out.held ((Only.refl _ _).drew.trans hoS)).2.1
    have cS2 := status_any hd2
    rw [hst'.out] at cS2
    go_wp2_with (go_at_call 50; (with_reducible refine cS2.mono ?_); clear cS2; rintro e w1 ⟨rfl, rfl⟩)
    go_ret
    exact ⟨rfl, hd2, hs2, (Only.refl _ _).drew.trans hoS⟩
theorem own_keep {t e : TypeId} {cs : Array Value} {size n : Nat} {v : Value} {zs : List Value} {o : Obj} {x : Nat} {w5 : World} (hb : Blk w x t cs) (ht : w.ownsRow base e size v n zs) (hg : (w.drew.alloc o).grownBy w5 v.ownBlock) (hne : t ≠ e) : Blk w5 x t cs := by
  refine (hg.block x (Blk.lt ((hb.drewN 1).alloc o)) (fun e => ?_)).trans ((hb.drewN 1).alloc o)
  obtain ⟨cur, hc⟩ := owns_blk ht (x := x) (by rw [← e]; simp)
  exact hne (hb.uniq hc).1
theorem logs_out {w5 : World} {o : Obj} {AL' : Value} {gg c n' : Nat} {zs : List Value} {a0 a1 a2 : Value} (hv : AL' = .slice (some ⟨gg, 0, none⟩) n' c) (hl : w.ownsRow base LgT 4 AL ln xs) (hm5 : Blk w5 pm MT #[a0, a1, a2, AL]) (hown : w5.ownsRow base LgT 4 AL' n' zs) (hg : (w.drew.alloc o).grownBy w5 AL.ownBlock) :
    Blk (w5.setCell ⟨pm, 3, none⟩ AL') pm MT #[a0, a1, a2, AL'] ∧ (w5.setCell ⟨pm, 3, none⟩ AL').ownsRow base LgT 4 AL' n' zs ∧ Only (pm :: AL.ownBlock.toList) w (w5.setCell ⟨pm, 3, none⟩ AL') := by
  have hO : Only [pm] w5 (w5.setCell ⟨pm, 3, none⟩ AL') := (Only.refl _ _).setCell (.inl (by simp)) _
  refine ⟨?_, owns_keep hown hO (fun x hx hm => ?_), ?_⟩
  · have := hm5.set_ 3 AL'
    simpa using this
  · simp only [List.mem_cons, List.not_mem_nil, or_false] at hm
    subst hm
    obtain ⟨cur, hc⟩ := owns_blk hown hx
    exact absurd (hm5.uniq hc).1 (by decide)
  · have h1 : Only AL.ownBlock.toList w w5 := ((((Only.refl _ w).drew).alloc o).trans (grown_S hg))
    exact (h1.more (S' := pm :: AL.ownBlock.toList) (by simp +contextual)).trans (hO.more (by simp +contextual))
set_option maxRecDepth 100000 in
set_option maxHeartbeats 4000000 in
/-- a step that ends a job's descriptor well: the log has it -/
theorem adv_logs (h : AdvAt base w pm ps gS g n cW k made AL ln xs pw p fv tv jv rv num tl A cap d s) {x : Int} {d' : De} {s' : St} (hR : stepD d s = (x, d', s')) (h0 : d.st = 0) {st' : Int} {sp : Bool} (hst : d'.st = st') (hsp : (st' == 3) = sp) (hy : st' = 1 ∨ st' = 3) :
    Calls Try.prog 49 #[.pointer (some ⟨pm, 0, none⟩), .int .i64 k] w fun e w' => e = .returned (.int .i64 x) ∧ ∃ w2 AL', DeskAt w2 p A cap d' ∧ StoreAt w2 WT ps gS s' ∧ Only [p, gS] w w2 ∧
      Blk w' pm MT #[.pointer (some ⟨ps, 0, none⟩), .slice (some ⟨g, 0, none⟩) n cW, .int .i64 made, AL'] ∧ w'.ownsRow base LgT 4 AL' (ln + 1) (xs ++ [.int .i64 k, .int .i64 tl, .int .i64 (toldBy d' num), .bool sp]) ∧ Only (pm :: AL.ownBlock.toList) w2 w' := by
  have m1 : w.cell? ⟨pm, 1, none⟩ = some (.slice (some ⟨g, 0, none⟩) n cW) := h.hm.cell 1
  have c4 : w.cell? ⟨pw, 4, none⟩ = some (.pointer (some ⟨p, 0, none⟩)) := h.hw.cell 4
  have hg := h.hg
  have hk := h.hk
  have hn := h.hn
  have cS := status_any h.hd
  have cT := step_desk (w := w.drew) (h.hd.drewN 1) (h.hs.drewN 1)
  rw [hR] at cT
  simp only at cT
  have hk' : (k : Int) < (n : Int) := by omega
  have hk0 : (0 : Int) ≤ (k : Int) := by omega
  have H := Lib.hid h
  clear h
  obtain ⟨i0, hi, hz0, hz1, hz2⟩ := info_parts infoLg
  have h0' : (d.st == 0) = true := by simpa using h0
  rw [h0] at cS
  have HR := Lib.hid hR
  have hst' := Lib.hid hst
  clear hR hst
  obtain ⟨y, hy'⟩ : ∃ y, Hid (toldBy d' num = y) := ⟨_, Lib.hid rfl⟩
  rw [hy'.out]
  rcases hy with rfl | rfl
  all_goals
    obtain rfl : _ = sp := hsp
    go_enter Try.func49, Try.ntmps49
    go_wp2_with (go_at_call 50; (with_reducible refine cS.mono ?_); clear cS; rintro e w1 ⟨rfl, rfl⟩)
    go_region_held3 (fun W => Only [p, gS] w W ∧ W.cell? ⟨pw, 4, none⟩ = some (.pointer (some ⟨p, 0, none⟩)) ∧ W.cell? ⟨pm, 0, none⟩ = some (.pointer (some ⟨ps, 0, none⟩)))
      (first | exact H.out.held (Only.refl _ _).drew | exact H.out.held ((Only.refl _ _).drew.trans hoS))
      (first | (go_at_call 59; (with_reducible refine cT.mono ?_); clear cT; rintro e w2 ⟨rfl, hd2, hs2, hoS⟩))
    have ho2 : Only [p, gS] w w2 := (Only.refl _ _).drew.trans hoS
    have h2 := H.out.after ho2 hd2 hs2
    have c4' := (H.out.held ho2).2.1
    have cS2 := status_any hd2
    rw [hst'.out] at cS2
    have HX := Lib.hid (And.intro ho2 (And.intro hd2 hs2))
    obtain ⟨T, ct, rfl⟩ := h2.ht
    have m3 : w2.cell? ⟨pm, 3, none⟩ = some AL := h2.hm.cell 3
    have c1 : w2.cell? ⟨pw, 1, none⟩ = some (.slice T tl ct) := h2.hw.cell 1
    have cY := tells_any (w := w2.drew) h2.hw.drew (h2.hd.drewN 1)
    rw [hy'.out] at cY
    have mz := h2.hm.lt
    have wz := h2.hw.lt
    have H2 := Lib.hid h2
    clear ho2 hd2 hs2 hoS m1 c4 hg h2 H
    go_wp2_with (go_at_call 50; (with_reducible refine cS2.mono ?_); clear cS2; rintro e w1 ⟨rfl, rfl⟩)
    go_region_law (first | (refine step_append_lies _ (by rfl) _ _ _ (by rfl) base LgT i0 _ 4 32 Try.underlying41 hi hz0 hz1 hz2 rfl (by omega) AL ln xs (by rfl) (H2.out.hl.drew.alloc _) ⟨w2.drew.heap.size, 0, none⟩ 1 1 [_, _, _, _] (by rfl) (by rfl) (World.news_of_block (cs := #[_, _, _, _]) (t := LgT) (fr := (0, 0)) (heap_alloc_new w2.drew _)) (by simp [Value.oneCell']) (by omega) (by have := H2.out.ln; unfold maxLen; omega) (by have := H2.out.ln; omega) (by simp; exact Nat.le_succ_of_le H2.out.hb) (w2.drew.heap.size + 1) (by simp) ?_; intro gg cap5 w5 hown' hgrow hat hltg; have hm5 := own_keep H2.out.hm H2.out.hl hgrow (by decide); have k3 : w5.cell? ⟨pm, 3, none⟩ = some AL := hm5.cell 3; have f3 : w5.frozen? ⟨pm, 3, none⟩ = false := hm5.frozen 3) | (go_simp; go_at_call 51; (with_reducible refine cY.mono ?_); rintro e w6 ⟨rfl, rfl⟩))
    all_goals
      go_wp2_with fail
      go_ret
      obtain ⟨r1, r2, r3⟩ := logs_out rfl H2.out.hl hm5 hown' hgrow
      exact ⟨rfl, w2, _, HX.out.2.1, HX.out.2.2, HX.out.1, r1, r2, r3⟩
end
end Go.Proofs.Ytleomgmhkoglmaa
