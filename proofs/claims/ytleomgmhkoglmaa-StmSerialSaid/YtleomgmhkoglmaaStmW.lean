/- What a worker's calls do: begin, end, bears, tells (layer 8). -/
import Derived.Test.YtleomgmhkoglmaaStmB
import Derived.Laws.EntriesVeiled
import Derived.Deep.RegionLaw
import Derived.BigRegion
namespace Go.Proofs.Ytleomgmhkoglmaa
open Go.RowKit
section
variable {base : Nat} {w : World} {pw p : Nat} {fv tv jv rv dv : Value} {num : Int} {A : Option Addr} {cap : Nat} {d : De}
set_option maxHeartbeats 800000 in
theorem tells_any (hb : Blk w pw WkT #[fv, tv, jv, rv, .pointer (some ⟨p, 0, none⟩), .int .i64 num]) (hd : DeskAt w p A cap d) :
    Calls Try.prog 51 #[.pointer (some ⟨pw, 0, none⟩)] w fun e w' => e = .returned (.int .i64 (toldBy d num)) ∧ w = w' := by
  have c4 : w.cell? ⟨pw, 4, none⟩ = some (.pointer (some ⟨p, 0, none⟩)) := hb.cell 4
  have c5 : w.cell? ⟨pw, 5, none⟩ = some (.int .i64 num) := hb.cell 5
  have cS := status_any hd
  clear hb hd
  by_cases h3 : d.st = 3
  · have hT : toldBy d num = -1 := by simp [toldBy, h3]
    rw [hT]
    rw [h3] at cS
    go_enter Try.func51, Try.ntmps51
    go_wp2_with (go_at_call 50; (with_reducible refine cS.mono ?_); rintro e w1 ⟨rfl, rfl⟩)
    go_ret
    exact ⟨rfl, rfl⟩
  · have hT : toldBy d num = num := by simp [toldBy, h3]
    rw [hT]
    clear hT
    go_enter Try.func51, Try.ntmps51
    go_wp2_with (go_at_call 50; (with_reducible refine cS.mono ?_); rintro e w1 ⟨rfl, rfl⟩)
    go_ret
    exact ⟨rfl, rfl⟩
theorem bears_nil (h4 : w.cell? ⟨pw, 4, none⟩ = some (.pointer none)) (mark : Int) :
    Calls Try.prog 48 #[.pointer (some ⟨pw, 0, none⟩), .int .i64 mark] w fun e w' => e = .returned (.bool false) ∧ w = w' := by
  go_enter Try.func48, Try.ntmps48
  go_wp2
  go_ret
  exact ⟨rfl, rfl⟩
theorem bears_desc (c4 : w.cell? ⟨pw, 4, none⟩ = some (.pointer (some ⟨p, 0, none⟩))) (hd : DeskAt w p A cap d) (mark : Int) :
    Calls Try.prog 48 #[.pointer (some ⟨pw, 0, none⟩), .int .i64 mark] w fun e w' => e = .returned (.bool (d.mark == mark)) ∧ w = w' := by
  have cM := mark_any hd
  clear hd
  obtain ⟨b, hb⟩ : ∃ b, Hid ((d.mark == mark) = b) := ⟨_, Lib.hid rfl⟩
  rw [hb.out]
  have hb' := hb.out
  go_enter Try.func48, Try.ntmps48
  go_wp2_with (go_at_call 29; (with_reducible refine cM.mono ?_); rintro e w1 ⟨rfl, rfl⟩)
  go_ret
  exact ⟨rfl, rfl⟩
set_option maxRecDepth 100000 in
set_option maxHeartbeats 1600000 in
theorem begin_none {pb : Nat} {A T : Option Addr} {cap ct : Nat} {js : List Jb} {told : List Int} (h : NextAt base w pw pb A T cap ct js told) (hb : Blk w pw WkT #[fv, tv, .nilFunc, rv, dv, .int .i64 num]) (hn : js[told.length]? = none) (cells : Int) :
    Calls Try.prog 24 #[.pointer (some ⟨pw, 0, none⟩), .int .i64 cells] w fun e w' => e = .returned (.bool false) ∧ Blk w' pw WkT #[fv, tv, .nilFunc, rv, dv, .int .i64 num] ∧ Only [pw] w w' := by
  have cN := next_lie h
  rw [hn] at cN
  clear h hn
  go_enter Try.func24, Try.ntmps24
  go_wp2_with (go_at_call 37; (with_reducible refine cN.mono ?_); clear cN; rintro e w1 ⟨v, rfl, rfl, ho⟩; have hb1 := ho.blk hb (by simp); have f2 : w1.frozen? ⟨pw, 2, none⟩ = false := hb1.frozen _; have c2 : w1.cell? ⟨pw, 2, none⟩ = some .nilFunc := hb1.cell 2; have hq := nilEq; clear hb)
  go_ret
  refine ⟨rfl, ?_, ho.in0.setCell (.inl (by simp)) _⟩
  have := hb1.set_ 2 .nilFunc
  simpa using this
set_option maxRecDepth 100000 in
set_option maxHeartbeats 1600000 in
theorem begin_some {pb : Nat} {A T : Option Addr} {cap ct : Nat} {js : List Jb} {told : List Int} {j : Jb} (h : NextAt base w pw pb A T cap ct js told) (hb : Blk w pw WkT #[fv, tv, .nilFunc, rv, dv, .int .i64 num]) (hn : js[told.length]? = some j) (cells : Int) (hc : cells ≤ 1000) (hbp : base ≤ pw) :
    Calls Try.prog 24 #[.pointer (some ⟨pw, 0, none⟩), .int .i64 cells] w fun e w' => ∃ v bt bm, e = .returned (.bool true) ∧ Blk w' pw WkT #[fv, tv, v, .pointer (some ⟨bt, 0, none⟩), dv, .int .i64 num] ∧ JobAt base w' v j ∧
      RecAt w' bt bm 0 cells (.pointer none) (fun _ => none) 0 ∧ w.heap.size ≤ bt ∧ w.heap.size ≤ bm ∧ Only [pw] w w' := by
  have cN := next_lie h
  rw [hn] at cN
  have hz := hb.lt
  clear h hn
  go_enter Try.func24, Try.ntmps24
  go_wp2_with (go_at_call 37; (with_reducible refine cN.mono ?_); clear cN; rintro e w1 ⟨v, rfl, hN, ho⟩; have hb1 := ho.blk hb (by simp); have f2 : w1.frozen? ⟨pw, 2, none⟩ = false := hb1.frozen _; have c2 : w1.cell? ⟨pw, 2, none⟩ = some .nilFunc := hb1.cell 2; have hJ : JobAt base w1 v j := hN; clear hb hN; obtain ⟨G, caps, rfl⟩ := hJ.func; have hq := jobEq G caps)
  have hb2 := hb1.set_ 2 (.func (.func G) #[] caps)
  have ho2 : Only [pw] w (w1.setCell ⟨pw, 2, none⟩ (.func (.func G) #[] caps)) := ho.in0.setCell (.inl (by simp)) _
  have hJ2 : JobAt base (w1.setCell ⟨pw, 2, none⟩ (.func (.func G) #[] caps)) (.func (.func G) #[] caps) j := hJ.only (S := [pw]) ((Only.refl _ _).setCell (.inl (by simp)) _) (Clear.one hb1 (by decide)) (by simp [hbp])
  generalize w1.setCell ⟨pw, 2, none⟩ (.func (.func G) #[] caps) = w2 at hb2 ho2 hJ2 ⊢
  simp only [List.setIfInBounds_toArray, List.set_cons_succ, List.set_cons_zero] at hb2
  clear hb1 f2 c2 hJ ho
  refine (txNew_any w2 cells hc).mono ?_
  rintro e w3 ⟨rfl, hr, ho3⟩
  have hb3 := ho3.blk hb2 (by simp)
  have f3 : w3.frozen? ⟨pw, 3, none⟩ = false := hb3.frozen _
  have c3 : w3.cell? ⟨pw, 3, none⟩ = some rv := hb3.cell 3
  have hz2 := ho2.size
  go_wp2
  go_ret
  have h4 : Only [pw] w3 (w3.setCell ⟨pw, 3, none⟩ (.pointer (some ⟨w2.heap.size + 1, 0, none⟩))) := (Only.refl _ _).setCell (.inl (by simp)) _
  refine ⟨_, w2.heap.size + 1, w2.heap.size, rfl, ?_, (hJ2.only ho3 Clear.nil (by simp)).only h4 (Clear.one hb3 (by decide)) (by simp [hbp]), hr.only h4 (by simp; omega) (by simp; omega), by omega, by omega, (ho2.trans ho3.in0).trans h4⟩
  have := hb3.set_ 3 (.pointer (some ⟨w2.heap.size + 1, 0, none⟩))
  simpa using this
set_option maxRecDepth 100000 in
set_option maxHeartbeats 1600000 in
theorem end_failed (hb : Blk w pw WkT #[fv, tv, jv, rv, .pointer (some ⟨p, 0, none⟩), .int .i64 num]) (hd : DeskAt w p A cap d) (h2 : d.st = 2) (cells : Int) (hc : cells ≤ 1000) :
    Calls Try.prog 30 #[.pointer (some ⟨pw, 0, none⟩), .int .i64 cells] w fun e w' => ∃ bt bm, e = .returned (.tuple #[]) ∧ Blk w' pw WkT #[fv, tv, jv, .pointer (some ⟨bt, 0, none⟩), .pointer none, .int .i64 num] ∧
      RecAt w' bt bm 0 cells (.pointer none) (fun _ => none) 0 ∧ w.heap.size ≤ bt ∧ w.heap.size ≤ bm ∧ Only [pw] w w' := by
  have c4 : w.cell? ⟨pw, 4, none⟩ = some (.pointer (some ⟨p, 0, none⟩)) := hb.cell 4
  have cS := status_any hd
  rw [h2] at cS
  have hz := hb.lt
  clear hd
  go_enter Try.func30, Try.ntmps30
  go_wp2_with (go_at_call 50; (with_reducible refine cS.mono ?_); rintro e w1 ⟨rfl, rfl⟩)
  refine (txNew_any w cells hc).mono ?_
  rintro e w3 ⟨rfl, hr, ho3⟩
  have hb3 := ho3.blk hb (by simp)
  have f3 : w3.frozen? ⟨pw, 3, none⟩ = false := hb3.frozen _
  have f4 : w3.frozen? ⟨pw, 4, none⟩ = false := hb3.frozen _
  have c3 : w3.cell? ⟨pw, 3, none⟩ = some rv := hb3.cell 3
  have c4 : w3.cell? ⟨pw, 4, none⟩ = some (.pointer (some ⟨p, 0, none⟩)) := hb3.cell 4
  go_wp2
  refine bodyPost_ret (results_none rfl _ _ _) rfl ?_
  have h4 : Only [pw] w3 ((w3.setCell ⟨pw, 3, none⟩ (.pointer (some ⟨w.heap.size + 1, 0, none⟩))).setCell ⟨pw, 4, none⟩ (.pointer none)) := ((Only.refl _ _).setCell (.inl (by simp)) _).setCell (.inl (by simp)) _
  refine ⟨w.heap.size + 1, w.heap.size, rfl, ?_, hr.only h4 (by simp; omega) (by simp; omega), by omega, by omega, ho3.in0.trans h4⟩
  have := (hb3.set_ 3 (.pointer (some ⟨w.heap.size + 1, 0, none⟩))).set_ 4 (.pointer none)
  simpa using this
theorem end_keep {t : TypeId} {cs : Array Value} {n : Nat} {xs : List Value} {o : Obj} {w5 : World} (hb : Blk w pw t cs) (ht : w.ownsRow base IntT 1 tv n xs) (hg : (w.drew.alloc o).grownBy w5 tv.ownBlock) (hne : t ≠ IntT := by decide) : Blk w5 pw t cs := by
  refine (hg.block pw (Blk.lt ((hb.drewN 1).alloc o)) (fun e => ?_)).trans ((hb.drewN 1).alloc o)
  obtain ⟨cur, hc⟩ := owns_blk ht (x := pw) (by rw [← e]; simp)
  exact hne (hb.uniq hc).1
theorem end_out {t : TypeId} {a0 a1 a2 a3 a4 a5 tv' : Value} {v0 v2 v3 v4 v5 : Value} {n : Nat} {xs : List Value} {o : Obj} {w5 : World} {g : Nat} {c m : Nat} {zs : List Value} {a : Array Value} (hv : tv' = .slice (some ⟨g, 0, none⟩) n c) (hw : Blk w pw t a) (hlt : pw < w.heap.size) (ht : w.ownsRow base IntT 1 tv m zs)
    (hb : Blk w5 pw t #[a0, a1, a2, a3, a4, a5]) (hown : w5.ownsRow base IntT 1 tv' n xs) (hg : (w.alloc o).drew.grownBy w5 tv.ownBlock) (hat : tv.ownBlock = some g ∨ g = w.drew.heap.size + 1) (hne : t ≠ IntT := by decide) :
    Blk ((((((w5.setCell ⟨pw, 0, none⟩ v0).setCell ⟨pw, 1, none⟩ tv').setCell ⟨pw, 2, none⟩ v2).setCell ⟨pw, 3, none⟩ v3).setCell ⟨pw, 4, none⟩ v4).setCell ⟨pw, 5, none⟩ v5) pw t #[v0, tv', v2, v3, v4, v5] ∧
    ((((((w5.setCell ⟨pw, 0, none⟩ v0).setCell ⟨pw, 1, none⟩ tv').setCell ⟨pw, 2, none⟩ v2).setCell ⟨pw, 3, none⟩ v3).setCell ⟨pw, 4, none⟩ v4).setCell ⟨pw, 5, none⟩ v5).ownsRow base IntT 1 tv' n xs ∧ (∀ g, tv'.ownBlock = some g → tv.ownBlock = some g ∨ w.heap.size ≤ g) ∧
    Only (pw :: tv.ownBlock.toList) w ((((((w5.setCell ⟨pw, 0, none⟩ v0).setCell ⟨pw, 1, none⟩ tv').setCell ⟨pw, 2, none⟩ v2).setCell ⟨pw, 3, none⟩ v3).setCell ⟨pw, 4, none⟩ v4).setCell ⟨pw, 5, none⟩ v5) := by
  have hO : Only [pw] w5 ((((((w5.setCell ⟨pw, 0, none⟩ v0).setCell ⟨pw, 1, none⟩ tv').setCell ⟨pw, 2, none⟩ v2).setCell ⟨pw, 3, none⟩ v3).setCell ⟨pw, 4, none⟩ v4).setCell ⟨pw, 5, none⟩ v5) :=
    ((((((Only.refl _ _).setCell (.inl (by simp)) _).setCell (.inl (by simp)) _).setCell (.inl (by simp)) _).setCell (.inl (by simp)) _).setCell (.inl (by simp)) _).setCell (.inl (by simp)) _
  refine ⟨?_, owns_keep hown hO (fun x hx hm => ?_), fun g' hg' => ?_, ?_⟩
  · have := (((((hb.set_ 0 v0).set_ 1 tv').set_ 2 v2).set_ 3 v3).set_ 4 v4).set_ 5 v5
    simpa using this
  · simp only [List.mem_cons, List.not_mem_nil, or_false] at hm
    subst hm
    obtain ⟨cur, hc⟩ := owns_blk hown hx
    exact hne (hb.uniq hc).1
  · subst hv
    simp only [Value.ownBlock, Option.some.injEq] at hg'
    subst hg'
    rcases hat with hat | hat
    · exact .inl hat
    · right
      have : w.drew.heap.size = w.heap.size := rfl
      omega
  · have h1 : Only tv.ownBlock.toList w w5 := ((((Only.refl _ w).alloc o).drew).trans (grown_S hg))
    exact (h1.more (S' := pw :: tv.ownBlock.toList) (by simp +contextual)).trans (hO.more (by simp +contextual))
set_option maxRecDepth 100000 in
set_option maxHeartbeats 2000000 in
theorem end_done {F : FuncId} {fc : Array Value} {n : Nat} {xs : List Value} (hb : Blk w pw WkT #[.func (.func F) #[] fc, tv, jv, rv, .pointer (some ⟨p, 0, none⟩), .int .i64 num]) (hd : DeskAt w p A cap d) (h2 : d.st ≠ 2) (ht : w.ownsRow base IntT 1 tv n xs) (hn : n ≤ 1000) (hbs : base ≤ w.heap.size) (cells : Int) :
    Calls Try.prog 30 #[.pointer (some ⟨pw, 0, none⟩), .int .i64 cells] w fun e w' => ∃ tv', e = .returned (.tuple #[]) ∧ Blk w' pw WkT #[.func (.func F) #[] fc, tv', .nilFunc, .pointer none, .pointer none, .int .i64 0] ∧
      w'.ownsRow base IntT 1 tv' (n + 1) (xs ++ [.int .i64 (toldBy d num)]) ∧ (∀ g, tv'.ownBlock = some g → tv.ownBlock = some g ∨ w.heap.size ≤ g) ∧ Only (pw :: tv.ownBlock.toList) w w' := by
  have c4 : w.cell? ⟨pw, 4, none⟩ = some (.pointer (some ⟨p, 0, none⟩)) := hb.cell 4
  have cS := status_any hd
  have hz := hb.lt
  obtain ⟨i0, hi, hz0, hz1, hz2⟩ := info_parts infoI
  have cT := tells_any (w := w.drew) hb.drew (hd.drewN 1)
  obtain ⟨x, hx⟩ : ∃ x, Hid (toldBy d num = x) := ⟨_, Lib.hid rfl⟩
  rw [hx.out] at cT ⊢
  go_enter Try.func30, Try.ntmps30
  go_wp2_with (go_at_call 50; (with_reducible refine cS.mono ?_); rintro e w1 ⟨rfl, rfl⟩)
  have c0 : w.drew.cell? ⟨pw, 0, none⟩ = some (.func (.func F) #[] fc) := hb.cell 0
  have c1 : w.drew.cell? ⟨pw, 1, none⟩ = some tv := hb.cell 1
  have c0' : w.cell? ⟨pw, 0, none⟩ = some (.func (.func F) #[] fc) := hb.cell 0
  have c1' : w.cell? ⟨pw, 1, none⟩ = some tv := hb.cell 1
  have HB := Lib.hid hb
  have HT := Lib.hid ht
  clear hb ht hd cS c4
  go_region_law (first | (refine step_append_lies _ (by rfl) _ _ _ (by rfl) base IntT i0 _ 1 8 Try.underlying24 hi hz0 hz1 hz2 rfl (by omega) tv n xs (by rfl) (HT.out.drew.alloc _) ⟨w.drew.heap.size, 0, none⟩ 1 1 [.int .i64 x] (by rfl) (by rfl) (World.news_of_block (cs := #[.int .i64 x]) (t := IntT) (fr := (0, 0)) (heap_alloc_new w.drew _)) (by simp [Value.oneCell']) (by omega) (by unfold maxLen; omega) (by omega) (by simp; exact Nat.le_succ_of_le hbs) (w.drew.heap.size + 1) (by simp) ?_; intro gg cap w5 hown' hgrow hat hltg; have hb5 := end_keep HB.out HT.out hgrow; have k0 := hb5.cell 0; have k1 := hb5.cell 1; have k2 := hb5.cell 2; have k3 := hb5.cell 3; have k4 := hb5.cell 4; have k5 := hb5.cell 5; have f0 := hb5.frozen 0; have f1 := hb5.frozen 1; have f2 := hb5.frozen 2; have f3 := hb5.frozen 3; have f4 := hb5.frozen 4; have f5 := hb5.frozen 5; simp only [List.getElem?_toArray, List.getElem?_cons_zero, List.getElem?_cons_succ] at k0 k1 k2 k3 k4 k5) | (go_simp; go_at_call 51; (with_reducible refine cT.mono ?_); rintro e w2 ⟨rfl, rfl⟩))
  all_goals
    go_end0
    exact ⟨_, rfl, end_out rfl HB.out hz HT.out hb5 hown' hgrow hat⟩
end
end Go.Proofs.Ytleomgmhkoglmaa
