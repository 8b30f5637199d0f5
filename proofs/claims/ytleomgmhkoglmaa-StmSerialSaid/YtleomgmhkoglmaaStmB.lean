/- What slices.Clone does with numbers, jobs, entries of the log; what a feed tells, and next (layer 8). -/
import Derived.Test.YtleomgmhkoglmaaStmA
import Derived.Test.YtleomgmhkoglmaaDescNew
import Derived.Test.YtleomgmhkoglmaaTxRunB
import Derived.Deep.RegionHeld3
import Derived.Deep.AppendLies
import Derived.StillTailTactics
namespace Go.Proofs.Ytleomgmhkoglmaa
section
open Go.RowKit
def vrow (v : Value) : List Value := [v]
/-- a slice of numbers, cloned -/
theorem infoI : (Try.prog.info? 3).map (fun i => (i.zero, i.size, i.bytes)) = some (some (.int .i64 0), 1, 8) := by kernel_rfl
set_option maxRecDepth 100000 in
set_option maxHeartbeats 2000000 in
theorem cloneI_any {w : World} {A : Option Addr} {L : List Int} (cp : Nat) (h : RowsAt w A irow 1 L) (hl : L.length ≤ 1000000) :
    Calls Try.prog 32 #[.slice A L.length cp] w fun e w' => ∃ A' cap, e = .returned (.slice A' L.length cap) ∧ RowN w' A' 3 irow 1 L ∧ Only [] w w' := by
  have q := fun (w : World) (a : Option Addr) (n c n' c' : Nat) => Lib.run_eql_slice_nil (P := Try.prog) w 24 3 a n c n' c' Try.underlying24
  cases A with
  | none =>
    obtain rfl : L = [] := by
      cases L with
      | nil => rfl
      | cons x L => obtain ⟨_, _, hA, _⟩ := h 0 x rfl; cases hA
    go_enter Try.func32, Try.ntmps32
    go_wp2
    go_ret
    exact ⟨none, 0, rfl, RowN.nil _ _, Only.refl _ _⟩
  | some a =>
    obtain ⟨i0, hi, hz0, hz1, hz2⟩ := info_parts infoI
    have hrl : ∀ a, (irow a).length = 1 := fun _ => rfl
    have hlen : (L.flatMap irow).length = L.length * 1 := by
      have := flat_size (f := irow) (L := L) hrl
      simpa [flat] using this
    have hcells : ∀ j u, (L.flatMap irow)[j]? = some u → w.cell? (a.add j) = some u := fun j u hj => by
      have hne : 0 < L.length := by
        have h1 := (List.getElem?_eq_some_iff.1 hj).1
        omega
      obtain ⟨b, off, hA, -, -⟩ := h 0 _ (List.getElem?_eq_getElem hne)
      injection hA with hA
      subst hA
      have ea : (⟨b, off, none⟩ : Addr).add j = ⟨b, off + j, none⟩ := by
        unfold Addr.add
        split
        · next h => rw [h, Nat.add_zero]
        · rfl
      rw [ea]
      exact rows_flat hrl (by omega) h hj
    have hone : ∀ u ∈ L.flatMap irow, u.oneCell' = true := fun u hu => by
      obtain ⟨e, hm, he⟩ := List.mem_flatMap.1 hu
      simp only [irow, List.mem_cons, List.not_mem_nil, or_false] at he
      subst he
      rfl
    have HC := Lib.hid hcells
    clear h hcells
    go_enter Try.func32, Try.ntmps32
    go_wp2_with (at_builtin; refine wpList_append_own _ rfl _ _ 24 rfl w.heap.size 3 i0 _ 1 8 Try.underlying24 hi hz0 hz1 hz2 rfl (by omega) _ _ _ rfl (World.ownsRow_made w #[] 0 (Nat.le_refl _) (Nat.zero_le _) (by simp)) a L.length cp (L.flatMap irow) rfl hlen ?qc2 hone ?qc4 ?qc5 ?qc6 ?_)
    case qc2 =>
      intro j u hj
      exact Lib.cell?_alloc_some _ (HC.out j u hj)
    case qc4 => unfold maxLen; omega
    case qc5 => omega
    case qc6 => simp
    intro v' w1 hown hgrow hnil
    have hx : w1.ownsRow w.heap.size 3 1 v' L.length (L.flatMap irow) := by simpa using hown
    obtain ⟨A', cap, rfl, hN⟩ := RowN.of_owns hrl hx
    have ho : Only [] w w1 := only_grow ((Only.refl [] w).alloc _) hgrow (fun j hj => by simp [Value.ownBlock] at hj; omega)
    clear hown hgrow hnil hx HC hone hlen q hi hz0 hz1 hz2
    go_wp2_with fail
    go_ret
    exact ⟨A', cap, rfl, hN, ho⟩
/-- a slice of jobs, cloned -/
theorem infoJ : (Try.prog.info? 68).map (fun i => (i.zero, i.size, i.bytes)) = some (some (.nilFunc), 1, 8) := by kernel_rfl
set_option maxRecDepth 100000 in
set_option maxHeartbeats 2000000 in
theorem cloneJ_any {w : World} {A : Option Addr} {L : List Value} (cp : Nat) (h : RowsAt w A vrow 1 L) (hl : L.length ≤ 1000000) (h1 : ∀ v ∈ L, v.oneCell' = true) :
    Calls Try.prog 38 #[.slice A L.length cp] w fun e w' => ∃ A' cap, e = .returned (.slice A' L.length cap) ∧ RowN w' A' 68 vrow 1 L ∧ Only [] w w' := by
  have q := fun (w : World) (a : Option Addr) (n c n' c' : Nat) => Lib.run_eql_slice_nil (P := Try.prog) w 59 68 a n c n' c' Try.underlying59
  cases A with
  | none =>
    obtain rfl : L = [] := by
      cases L with
      | nil => rfl
      | cons x L => obtain ⟨_, _, hA, _⟩ := h 0 x rfl; cases hA
    go_enter Try.func38, Try.ntmps38
    go_wp2
    go_ret
    exact ⟨none, 0, rfl, RowN.nil _ _, Only.refl _ _⟩
  | some a =>
    obtain ⟨i0, hi, hz0, hz1, hz2⟩ := info_parts infoJ
    have hrl : ∀ a, (vrow a).length = 1 := fun _ => rfl
    have hlen : (L.flatMap vrow).length = L.length * 1 := by
      have := flat_size (f := vrow) (L := L) hrl
      simpa [flat] using this
    have hcells : ∀ j u, (L.flatMap vrow)[j]? = some u → w.cell? (a.add j) = some u := fun j u hj => by
      have hne : 0 < L.length := by
        have h1 := (List.getElem?_eq_some_iff.1 hj).1
        omega
      obtain ⟨b, off, hA, -, -⟩ := h 0 _ (List.getElem?_eq_getElem hne)
      injection hA with hA
      subst hA
      have ea : (⟨b, off, none⟩ : Addr).add j = ⟨b, off + j, none⟩ := by
        unfold Addr.add
        split
        · next h => rw [h, Nat.add_zero]
        · rfl
      rw [ea]
      exact rows_flat hrl (by omega) h hj
    have hone : ∀ u ∈ L.flatMap vrow, u.oneCell' = true := fun u hu => by
      obtain ⟨e, hm, he⟩ := List.mem_flatMap.1 hu
      simp only [vrow, List.mem_cons, List.not_mem_nil, or_false] at he
      subst he
      exact h1 _ hm
    have HC := Lib.hid hcells
    clear h hcells
    go_enter Try.func38, Try.ntmps38
    go_wp2_with (at_builtin; refine wpList_append_own _ rfl _ _ 59 rfl w.heap.size 68 i0 _ 1 8 Try.underlying59 hi hz0 hz1 hz2 rfl (by omega) _ _ _ rfl (World.ownsRow_made w #[] 0 (Nat.le_refl _) (Nat.zero_le _) (by simp)) a L.length cp (L.flatMap vrow) rfl hlen ?qc2 hone ?qc4 ?qc5 ?qc6 ?_)
    case qc2 =>
      intro j u hj
      exact Lib.cell?_alloc_some _ (HC.out j u hj)
    case qc4 => unfold maxLen; omega
    case qc5 => omega
    case qc6 => simp
    intro v' w1 hown hgrow hnil
    have hx : w1.ownsRow w.heap.size 68 1 v' L.length (L.flatMap vrow) := by simpa using hown
    obtain ⟨A', cap, rfl, hN⟩ := RowN.of_owns hrl hx
    have ho : Only [] w w1 := only_grow ((Only.refl [] w).alloc _) hgrow (fun j hj => by simp [Value.ownBlock] at hj; omega)
    clear hown hgrow hnil hx HC hone hlen q hi hz0 hz1 hz2
    go_wp2_with fail
    go_ret
    exact ⟨A', cap, rfl, hN, ho⟩
/-- a slice of entries of the log, cloned -/
theorem infoL : (Try.prog.info? 44).map (fun i => (i.zero, i.size, i.bytes)) = some (some (.agg #[.int .i64 0, .int .i64 0, .int .i64 0, .bool false]), 4, 32) := by kernel_rfl
set_option maxRecDepth 100000 in
set_option maxHeartbeats 2000000 in
theorem cloneL_any {w : World} {A : Option Addr} {L : List Lg} (cp : Nat) (h : RowsAt w A Lg.row 4 L) (hl : L.length ≤ 1000000) :
    Calls Try.prog 31 #[.slice A L.length cp] w fun e w' => ∃ A' cap, e = .returned (.slice A' L.length cap) ∧ RowN w' A' 44 Lg.row 4 L ∧ Only [] w w' := by
  have q := fun (w : World) (a : Option Addr) (n c n' c' : Nat) => Lib.run_eql_slice_nil (P := Try.prog) w 41 44 a n c n' c' Try.underlying41
  cases A with
  | none =>
    obtain rfl : L = [] := by
      cases L with
      | nil => rfl
      | cons x L => obtain ⟨_, _, hA, _⟩ := h 0 x rfl; cases hA
    go_enter Try.func31, Try.ntmps31
    go_wp2
    go_ret
    exact ⟨none, 0, rfl, RowN.nil _ _, Only.refl _ _⟩
  | some a =>
    obtain ⟨i0, hi, hz0, hz1, hz2⟩ := info_parts infoL
    have hrl : ∀ a, (Lg.row a).length = 4 := fun _ => rfl
    have hlen : (L.flatMap Lg.row).length = L.length * 4 := by
      have := flat_size (f := Lg.row) (L := L) hrl
      simpa [flat] using this
    have hcells : ∀ j u, (L.flatMap Lg.row)[j]? = some u → w.cell? (a.add j) = some u := fun j u hj => by
      have hne : 0 < L.length := by
        have h1 := (List.getElem?_eq_some_iff.1 hj).1
        omega
      obtain ⟨b, off, hA, -, -⟩ := h 0 _ (List.getElem?_eq_getElem hne)
      injection hA with hA
      subst hA
      have ea : (⟨b, off, none⟩ : Addr).add j = ⟨b, off + j, none⟩ := by
        unfold Addr.add
        split
        · next h => rw [h, Nat.add_zero]
        · rfl
      rw [ea]
      exact rows_flat hrl (by omega) h hj
    have hone : ∀ u ∈ L.flatMap Lg.row, u.oneCell' = true := fun u hu => by
      obtain ⟨e, hm, he⟩ := List.mem_flatMap.1 hu
      simp only [Lg.row, List.mem_cons, List.not_mem_nil, or_false] at he
      rcases he with rfl | rfl | rfl | rfl <;> rfl
    have HC := Lib.hid hcells
    clear h hcells
    go_enter Try.func31, Try.ntmps31
    go_wp2_with (at_builtin; refine wpList_append_own _ rfl _ _ 41 rfl w.heap.size 44 i0 _ 4 32 Try.underlying41 hi hz0 hz1 hz2 rfl (by omega) _ _ _ rfl (World.ownsRow_made w #[] 0 (Nat.le_refl _) (Nat.zero_le _) (by simp)) a L.length cp (L.flatMap Lg.row) rfl hlen ?qc2 hone ?qc4 ?qc5 ?qc6 ?_)
    case qc2 =>
      intro j u hj
      exact Lib.cell?_alloc_some _ (HC.out j u hj)
    case qc4 => unfold maxLen; omega
    case qc5 => omega
    case qc6 => simp
    intro v' w1 hown hgrow hnil
    have hx : w1.ownsRow w.heap.size 44 4 v' L.length (L.flatMap Lg.row) := by simpa using hown
    obtain ⟨A', cap, rfl, hN⟩ := RowN.of_owns hrl hx
    have ho : Only [] w w1 := only_grow ((Only.refl [] w).alloc _) hgrow (fun j hj => by simp [Value.ownBlock] at hj; omega)
    clear hown hgrow hnil hx HC hone hlen q hi hz0 hz1 hz2
    go_wp2_with fail
    go_ret
    exact ⟨A', cap, rfl, hN, ho⟩
end
section
open Go.RowKit
/-- what a feed tells: a job, or none -/
def NextIs (base : Nat) (W : World) (v : Value) (o : Option Jb) : Prop := match o with
  | none => v = .nilFunc
  | some j => JobAt base W v j
theorem JobAt.func {base : Nat} {W : World} {v : Value} {j : Jb} (h : JobAt base W v j) : ∃ G caps, v = .func (.func G) #[] caps := by
  cases j with
  | add => exact ⟨_, _, h⟩
  | ops L => obtain ⟨pb, A, cap, h, _⟩ := h; exact ⟨_, _, h⟩
theorem jobEq (G : FuncId) (caps : Array Value) (w : World) : (binOp .eql JobT (.func (.func G) #[] caps) .nilFunc).run Try.prog w = .ok (.bool false) w := by kernel_rfl
theorem jobNe (G : FuncId) (caps : Array Value) (w : World) : (binOp .neq JobT (.func (.func G) #[] caps) .nilFunc).run Try.prog w = .ok (.bool true) w := by kernel_rfl
theorem nilEq (w : World) : (binOp .eql JobT .nilFunc .nilFunc).run Try.prog w = .ok (.bool true) w := by kernel_rfl
theorem nilNe (w : World) : (binOp .neq JobT .nilFunc .nilFunc).run Try.prog w = .ok (.bool false) w := by kernel_rfl
section
variable {base : Nat} {w : World}
set_option maxHeartbeats 800000 in
theorem feed_any {pb : Nat} {A : Option Addr} {js : List Jb} {cap : Nat} (hB : Blk w pb JobsT #[.slice A js.length cap]) (hj : ∀ (i : Nat) (j : Jb), js[i]? = some j → ∃ g cur x, A = some ⟨g, 0, none⟩ ∧ Blk w g JobT cur ∧ cur[i]? = some x ∧ JobAt base w x j) (T : Option Addr) (n ct : Nat) (hn : n ≤ 8) (hl : js.length ≤ 8) :
    Calls Try.prog 39 #[.slice T n ct, .pointer (some ⟨pb, 0, none⟩)] w fun e w' => ∃ v, e = .returned v ∧ NextIs base w' v js[n]? ∧ Only [] w w' := by
  have c := hB.cell 0
  by_cases hlt : n < js.length
  · obtain ⟨j, hx⟩ : ∃ j, js[n]? = some j := ⟨_, List.getElem?_eq_getElem hlt⟩
    obtain ⟨g, cur, x, rfl, hg, hc, hJ⟩ := hj n j hx
    have c2 := (hg.cell n).trans hc
    rw [hx]
    clear hj hx hg hc
    go_enter Try.func39, Try.ntmps39
    go_wp2
    go_ret
    exact ⟨x, rfl, hJ, Only.refl _ _⟩
  · rw [List.getElem?_eq_none (by omega)]
    clear hj
    go_enter Try.func39, Try.ntmps39
    go_wp2
    go_ret
    exact ⟨_, rfl, rfl, Only.refl _ _⟩
theorem next_over (w : World) : CallsD Try.prog 53 #[] .returning w fun e u' w' => e = .returned (.tuple #[]) ∧ u' = .returning ∧ w' = w := by
  refine callsD_of_wpS Try.func53 rfl fun c₀ cs hu => ?_
  apply wpS_region
  simp [wpOpsS, go_sem, recoverD, hu, Exit.thenS]
  cases c₀
  simp_all [bodyPostS, results, Try.results53]
/-- a worker's feed and what it has told, as next reads them -/
structure NextAt (base : Nat) (w : World) (pw pb : Nat) (A T : Option Addr) (cap ct : Nat) (js : List Jb) (told : List Int) : Prop where
  c0 : w.cell? ⟨pw, 0, none⟩ = some (.func (.func 39) #[] #[.pointer (some ⟨pb, 0, none⟩)])
  c1 : w.cell? ⟨pw, 1, none⟩ = some (.slice T told.length ct)
  lt : pw < w.heap.size
  hB : Blk w pb JobsT #[.slice A js.length cap]
  hj : ∀ (i : Nat) (j : Jb), js[i]? = some j → ∃ g cur x, A = some ⟨g, 0, none⟩ ∧ Blk w g JobT cur ∧ cur[i]? = some x ∧ JobAt base w x j
  ht : RowsAt w T irow 1 told
  hn : told.length ≤ 8
  hl : js.length ≤ 8
theorem NextAt.only0 {pw pb : Nat} {A T : Option Addr} {cap ct : Nat} {js : List Jb} {told : List Int} {w' : World} (h : NextAt base w pw pb A T cap ct js told) (ho : Only [] w w') : NextAt base w' pw pb A T cap ct js told :=
  ⟨(ho.cell (p := ⟨pw, 0, none⟩) h.lt (by simp)).trans h.c0, (ho.cell (p := ⟨pw, 1, none⟩) h.lt (by simp)).trans h.c1, Nat.lt_of_lt_of_le h.lt ho.size, ho.blk h.hB (by simp), fun i j hj => by
    obtain ⟨g, cur, x, h1, h2, h3, h4⟩ := h.hj i j hj
    exact ⟨g, cur, x, h1, ho.blk h2 (by simp), h3, h4.only ho Clear.nil (by simp)⟩, h.ht.only0 ho, h.hn, h.hl⟩
theorem next_held {pw pb : Nat} {A T : Option Addr} {cap ct : Nat} {js : List Jb} {told : List Int} {W : World} (h : NextAt base w pw pb A T cap ct js told) (ho : Only [] w W) :
    Only [] w W ∧ W.cell? ⟨pw, 0, none⟩ = some (.func (.func 39) #[] #[.pointer (some ⟨pb, 0, none⟩)]) ∧ W.cell? ⟨pw, 1, none⟩ = some (.slice T told.length ct) := ⟨ho, (h.only0 ho).c0, (h.only0 ho).c1⟩
theorem next_clone {pw pb : Nat} {A T : Option Addr} {cap ct : Nat} {js : List Jb} {told : List Int} {W : World} {X : Prop} (h : Hid (NextAt base w pw pb A T cap ct js told)) (hX : Only [] w W ∧ X) :
    Calls Try.prog 32 #[.slice T told.length ct] W fun e w' => ∃ A' cap, e = .returned (.slice A' told.length cap) ∧ Only [] W w' :=
  (cloneI_any ct (h.out.only0 hX.1).ht (by have := h.out.hn; omega)).mono fun _ _ ⟨A', cap, h1, _, h3⟩ => ⟨A', cap, h1, h3⟩
theorem next_feed {pw pb : Nat} {A T : Option Addr} {cap ct : Nat} {js : List Jb} {told : List Int} {W : World} {X : Prop} (h : Hid (NextAt base w pw pb A T cap ct js told)) (hX : Only [] w W ∧ X) (T' : Option Addr) (c' : Nat) :
    Calls Try.prog 39 #[.slice T' told.length c', .pointer (some ⟨pb, 0, none⟩)] W fun e w' => ∃ v, e = .returned v ∧ Hid (NextIs base w' v js[told.length]?) ∧ Only [] W w' :=
  (feed_any (h.out.only0 hX.1).hB (h.out.only0 hX.1).hj T' told.length c' h.out.hn h.out.hl).mono fun _ _ ⟨v, h1, h2, h3⟩ => ⟨v, h1, Lib.hid h2, h3⟩
theorem next_keep {pw pb : Nat} {A T : Option Addr} {cap ct : Nat} {js : List Jb} {told : List Int} {W W' : World} {X : Prop} (h : Hid (NextAt base w pw pb A T cap ct js told)) (hX : Only [] w W ∧ X) (ho : Only [] W W') :
    Only [] w W' ∧ W'.cell? ⟨pw, 0, none⟩ = some (.func (.func 39) #[] #[.pointer (some ⟨pb, 0, none⟩)]) ∧ W'.cell? ⟨pw, 1, none⟩ = some (.slice T told.length ct) := next_held h.out (hX.1.trans ho)
set_option maxRecDepth 100000 in
set_option maxHeartbeats 1600000 in
theorem next_lie {pw pb : Nat} {A T : Option Addr} {cap ct : Nat} {js : List Jb} {told : List Int} (h : NextAt base w pw pb A T cap ct js told) :
    Calls Try.prog 37 #[.pointer (some ⟨pw, 0, none⟩)] w fun e w' => ∃ v, e = .returned v ∧ NextIs base w' v js[told.length]? ∧ Only [] w w' := by
  have H := Lib.hid h
  clear h
  go_enter_defers Try.func37, Try.ntmps37
  go_wp2_with fail
  go_region_held3 (fun W => Only [] w W ∧ W.cell? ⟨pw, 0, none⟩ = some (.func (.func 39) #[] #[.pointer (some ⟨pb, 0, none⟩)]) ∧ W.cell? ⟨pw, 1, none⟩ = some (.slice T told.length ct))
    (first | exact next_held H.out (Only.refl _ _).drew | exact next_held H.out (Only.refl _ _) | exact next_keep H ‹_› hoc | exact next_keep H ‹_› ho)
    (first | (go_at_call 32; (with_reducible refine (next_clone H ‹_›).mono ?_); rintro e w' ⟨A', cap', rfl, hoc⟩) | (go_at_call 39; (with_reducible refine (next_feed H ‹_› _ _).mono ?_); rintro e w' ⟨v, rfl, hN, ho⟩))
  go_wp2_with fail
  refine leaves_cons (f := 53) (args := #[]) (by simp) (by simp [go_sem]) ?_
  refine (next_over _).mono ?_
  rintro e u' w'' ⟨rfl, rfl, rfl⟩
  exact ⟨_, results_tmp rfl _ _ _, v, rfl, hN.out, ((Only.refl [] w).drew.trans hoc).trans ho⟩
end
end
end Go.Proofs.Ytleomgmhkoglmaa
