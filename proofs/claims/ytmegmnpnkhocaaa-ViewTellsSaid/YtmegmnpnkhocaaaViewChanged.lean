/- What Changed of package view answers (layer 5): for all lists that are not long. -/
import Derived.Maps.AppendAt
import Derived.Test.YtmegmnpnkhocaaaViewRange
namespace Go.Proofs.Ytmegmnpnkhocaaa
open Go.RowKit Go.Shelf
attribute [local go_sem] Oper.semAt_some
section
variable {W w1 : World} {n₀ n₁ B : Nat} {t e : TypeId} {size : Nat} {v v' : Value} {k m : Nat} {xs ys : List Value} {tmp : Obj}
/-- a variable's box behind an append whose row is younger than n₁, and the store -/
theorem appended2 (hv : Boxed W B t v) (hte : t ≠ e) (hrow : W.ownsRow n₁ e size v k xs) (hn₁ : n₁ ≤ W.heap.size) (hown' : w1.ownsRow n₁ e size v' m ys) (hgrow : (W.alloc tmp).grownBy w1 v.ownBlock) :
    Boxed w1 B t v ∧ Boxed (w1.setCell ⟨B, 0, none⟩ v') B t v' ∧ (w1.setCell ⟨B, 0, none⟩ v').ownsRow n₁ e size v' m ys ∧ KeepsOthers W (w1.setCell ⟨B, 0, none⟩ v') ∧ Below n₁ W w1 := by
  have hv1 : Boxed w1 B t v := (hv.alloc tmp).kept hgrow (hv.not_row hte hrow)
  refine ⟨hv1, hv1.set v', hown'.kept (grownBy_setCell' w1 B v') (.inr (hv1.not_row hte hown').symm), ?_, ?_⟩
  · refine ((KeepsOthers.alloc W tmp).trans (KeepsOthers.of_grownBy hgrow fun j o ej hj => ?_)).trans (KeepsOthers.setCell _ _ _)
    rcases (hrow.alloc tmp).2 with ⟨rfl, _⟩ | ⟨g, cap, cur, rfl, _, hgb, _⟩
    · simp [Value.ownBlock] at ej
    · obtain rfl : g = j := by simpa [Value.ownBlock] using ej
      rw [hgb] at hj; cases hj; rfl
  · refine ((Below.refl n₁ W).alloc hn₁ tmp).grown hgrow (by simp; omega) fun j ej => ?_
    rcases hrow.2 with ⟨rfl, _⟩ | ⟨g, cap, cur, rfl, hb, _, _⟩
    · simp [Value.ownBlock] at ej
    · obtain rfl : g = j := by simpa [Value.ownBlock] using ej
      exact hb
theorem owns_base {W : World} {base base' : Nat} (h : W.ownsRow base e size v k xs) (hb : base' ≤ base) : W.ownsRow base' e size v k xs :=
  ⟨h.1, h.2.imp id fun ⟨g, cap, cur, e1, e2, e3⟩ => ⟨g, cap, cur, e1, Nat.le_trans hb e2, e3⟩⟩
theorem cell_two_new (w : World) (a b : Value) (t : TypeId) : ∀ (j : Nat) (u : Value), [a, b][j]? = some u → (w.alloc (.cells #[a, b] t)).cell? ((⟨w.heap.size, 0, none⟩ : Addr).add j) = some u := fun j u hj => by
  have hB := Blk.new w t #[a, b]
  have e : (⟨w.heap.size, 0, none⟩ : Addr).add j = ⟨w.heap.size, j, none⟩ := by
    unfold Addr.add
    split
    · next h => simp [h]
    · simp
  rw [e, hB.cell j]
  simpa using hj
end
theorem infoPair : (Try.prog.info? 35).map (fun i => (i.zero, i.size, i.bytes)) = some (some (.agg #[.int .i64 0, .int .u64 0]), 2, 16) := by kernel_rfl

set_option maxRecDepth 100000 in
set_option maxHeartbeats 4000000 in
theorem changed_any {A B : Option Addr} {LA LB : List Int} (ca cb : Nat) (w : World) (hA : Wds w A LA) (hB : Wds w B LB) (hla : LA.length ≤ 1000) (hlb : LB.length ≤ 1000) :
    Calls Try.prog 11 #[.slice A LA.length ca, .slice B LB.length cb] w fun e w' =>
      ∃ v, e = .returned v ∧ w'.ownsRow w.heap.size 35 2 v (chgL LA LB).length ((chgL LA LB).flatMap (prow .u64)) ∧ Below w.heap.size w w' := by
  refine (callsIn_wide (n := 8)).1 ?_
  have hf7 : Fence.wide.fn 7 := trivial
  have hf10 : Fence.wide.fn 10 := trivial
  obtain ⟨i0, hi, hz0, hz1, hz2⟩ := info_parts infoPair
  obtain ⟨M, hM⟩ : ∃ M, Hid (M = max LA.length LB.length) := ⟨_, Lib.hid rfl⟩
  have hmx : (if LA.length < LB.length then (LB.length : Int) else (LA.length : Int)) = (M : Int) := by have := hM.out; split <;> omega
  refine callsIn_of_wp_marks Try.func11 rfl trivial ?_ rfl
  simp only [Try.ntmps11, List.size_toArray, List.length_cons, List.length_nil, Nat.reduceAdd, Nat.reduceSub, Array.replicate_succ, Array.replicate_zero, List.push_toArray, List.append_toArray, List.nil_append, List.cons_append]
  gi_wp2_with (gi_at_call 10; refine (callsIn_wide.2 (range_any _ _ _ _)).mono ?_; rintro e w' ⟨rfl, rfl⟩)
  have hMl : M ≤ 1000 := by have := hM.out; omega
  clear hmx
  have ha0 := hA.lt
  have hb0 := hB.lt
  have bL := Boxed.new w 32 (.slice none 0 0)
  have bO := Boxed.new (w.alloc (.cells #[.slice none 0 0] 32)) 25 (.slice A LA.length ca)
  rw [World.size_alloc] at bO
  have hw0 : Below w.heap.size w ((w.alloc (.cells #[.slice none 0 0] 32)).alloc (.cells #[.slice A LA.length ca] 25)) := ((Below.refl _ w).alloc (Nat.le_refl _) _).alloc (by simp) _
  have za : ((w.alloc (.cells #[.slice none 0 0] 32)).alloc (.cells #[.slice A LA.length ca] 25)).heap.size = w.heap.size + 1 + 1 := by simp
  replace bL := bL.alloc (.cells #[.slice A LA.length ca] 25)
  generalize (w.alloc (.cells #[.slice none 0 0] 32)).alloc (.cells #[.slice A LA.length ca] 25) = Wa at bL bO hw0 za ⊢
  have bV := Boxed.new Wa 48 (.iface 25 (.slice B LB.length cb))
  have bF := Boxed.new (Wa.alloc (.cells #[.iface 25 (.slice B LB.length cb)] 48)) 3 (.int .i64 0)
  have bT := Boxed.new ((Wa.alloc (.cells #[.iface 25 (.slice B LB.length cb)] 48)).alloc (.cells #[.int .i64 0] 3)) 3 (.int .i64 (M : Int))
  rw [World.size_alloc, za] at bF
  rw [World.size_alloc, World.size_alloc, za] at bT
  rw [za] at bV
  have hw1 : Below w.heap.size w (((Wa.alloc (.cells #[.iface 25 (.slice B LB.length cb)] 48)).alloc (.cells #[.int .i64 0] 3)).alloc (.cells #[.int .i64 (M : Int)] 3)) :=
    ((hw0.alloc (by omega) _).alloc (by simp; omega) _).alloc (by simp; omega) _
  have zb : (((Wa.alloc (.cells #[.iface 25 (.slice B LB.length cb)] 48)).alloc (.cells #[.int .i64 0] 3)).alloc (.cells #[.int .i64 (M : Int)] 3)).heap.size = w.heap.size + 5 := by simp; omega
  replace bL := ((bL.alloc (.cells #[.iface 25 (.slice B LB.length cb)] 48)).alloc (.cells #[.int .i64 0] 3)).alloc (.cells #[.int .i64 (M : Int)] 3)
  replace bO := ((bO.alloc (.cells #[.iface 25 (.slice B LB.length cb)] 48)).alloc (.cells #[.int .i64 0] 3)).alloc (.cells #[.int .i64 (M : Int)] 3)
  replace bV := (bV.alloc (.cells #[.int .i64 0] 3)).alloc (.cells #[.int .i64 (M : Int)] 3)
  replace bF := bF.alloc (.cells #[.int .i64 (M : Int)] 3)
  generalize ((Wa.alloc (.cells #[.iface 25 (.slice B LB.length cb)] 48)).alloc (.cells #[.int .i64 0] 3)).alloc (.cells #[.int .i64 (M : Int)] 3) = W0 at bL bO bV bF bT hw1 zb ⊢
  clear hw0 za Wa
  have hS : ∀ k, k ∈ rangeS B LB (w.heap.size + 1 + 1) (w.heap.size + 1 + 1 + 1) (w.heap.size + 1 + 1 + 2) → k < w.heap.size + 5 ∧ k ≠ w.heap.size := fun k hk => by
    rcases rangeS_mem.1 hk with rfl | rfl | rfl | hk
    · omega
    · omega
    · omega
    · have := hb0 k hk; omega
  refine wpIn_rangeFunc_ownG rfl (by omega) (gf := 14) (lb := #[.pointer (some ⟨w.heap.size + 1 + 1 + 1, 0, none⟩), .pointer (some ⟨w.heap.size + 1 + 1 + 2, 0, none⟩), .pointer (some ⟨w.heap.size + 1 + 1, 0, none⟩)]) rfl trivial (enters_of Try.func14 (by kernel_rfl) rfl)
    (range_stops (8 - 1) (by omega) (w.heap.size + 1 + 1) (w.heap.size + 1 + 1 + 1) (w.heap.size + 1 + 1 + 2) B cb LB 0 (M : Int) (by omega) (by omega) W0 bV.cell bF.cell bT.cell (hB.below hw1 hb0)) (fun h k => KeepS.trans h k) (KeepS.putObj (fun k hk => by have := (hS k hk).1; omega)) (Below.refl _ _) (fun _ => rfl)
    (fun pre W => (∃ v, Boxed W w.heap.size 32 v ∧ W.ownsRow (w.heap.size + 5) 35 2 v (chg LA pre).length ((chg LA pre).flatMap (prow .u64)) ∧ True) ∧ Boxed W (w.heap.size + 1) 25 (.slice A LA.length ca) ∧ Below w.heap.size W0 W)
    (fun _ _ _ => False)
    (OwnFrom.and (Own.from (holdsRow_own (w.heap.size + 5) w.heap.size 32 35 2 (fun pre => (chg LA pre).length) (fun pre => (chg LA pre).flatMap (prow .u64)) (fun _ _ => True)) _) (OwnFrom.and (Own.from (boxed_own _ _ (fun _ => .slice A LA.length ca)) _) (ownFrom_below (by omega) (by omega))))
    (fun _ _ _ _ _ hs _ _ => hs)
    ⟨⟨_, bL, World.ownsRow_nil _ _ _ _, trivial⟩, bO, Below.refl _ _⟩
    ?a1 ?assign ?body ?done ?stop
  case assign =>
    intro l x W K hK
    gi_wp2
    exact hK
  case body =>
    rintro l pre x W ⟨⟨v, hv, hrow, -⟩, hO, hB⟩ hlt
    have hc := hv.cell
    have hco := hO.cell
    have hAx : Wds W A LA := hA.below (hw1.trans hB) ha0
    have hpl := chg_length LA pre
    have hlt' : pre.length < M := by omega
    have hsz := hB.size
    have h6 : 1 ≤ 8 - 1 - 1 := by omega
    cases hq : (x.2 != atL LA x.1) with
    | false =>
      have e : atL LA x.1 = x.2 := by simp at hq; exact hq.symm
      have Q := Lib.hid hq
      have E := Lib.hid e
      clear hq e
      gi_wp2_with (gi_at_call 7; refine (CallsIn.inRound l (callsIn_wide.2 (read_is ca _ hAx E.out))).mono ?_; rintro e w' ⟨rfl, rfl⟩)
      exact ⟨KeepsFrom.refl _ _, KeepS.refl _ _, ⟨v, hv, by rw [chg_miss pre Q.out]; exact hrow, trivial⟩, hO, hB⟩
    | true =>
      obtain ⟨y, hy⟩ : ∃ y, Hid (atL LA x.1 = y) := ⟨_, Lib.hid rfl⟩
      have hne : x.2 ≠ y := by rw [← hy.out]; simpa using hq
      have Q := Lib.hid hq
      clear hq
      gi_wp2_with (first
        | (gi_at_call 7; refine (CallsIn.inRound l (callsIn_wide.2 (read_is ca _ hAx hy.out))).mono ?_; rintro e w' ⟨rfl, hw'⟩; replace hw' := hw'.symm; subst hw')
        | (gi_at_builtin; refine wpListIn_append_own _ rfl _ _ 32 rfl (w.heap.size + 5) 35 i0 (.agg #[.int .i64 0, .int .u64 0]) 2 16 Try.underlying32 hi hz0 hz1 hz2 rfl (by decide) _ _ _ rfl (hrow.alloc _) ⟨W.heap.size, 0, none⟩ 1 1 [.int .i64 x.1, .int .u64 x.2] rfl rfl (cell_two_new _ _ _ _) (by simp [Value.oneCell']) (by unfold maxLen; omega) (by omega) (by simp; omega) ?_; intro v' w1 hown' hgrow _; obtain ⟨g', cap', rfl⟩ := ownsRow_succ hown'; obtain ⟨hv1, hv2, hr2, hk2, hb2⟩ := appended2 hv (by decide) hrow (by omega) hown' hgrow; have hc1 := hv1.cell; have hf1 := hv1.frozen))
      have hb3 : Below w.heap.size W w1 := hb2.mono (by omega)
      refine ⟨hk2.from _, (KeepS.below hb2 fun k hk => (hS k hk).1).setCell (fun h => (hS _ h).2 rfl) _, ⟨_, hv2, ?_, trivial⟩, Boxed.other ((hb2.block _ (by omega)).trans hO) (Nat.succ_ne_self _) _, hB.trans (hb3.setCell (p := ⟨w.heap.size, 0, none⟩) (Nat.le_refl _) _)⟩
      rw [chg_hit pre Q.out]
      simpa [prow] using hr2
  case done =>
    rintro D ys W hD rfl ⟨⟨v, hv, hrow, -⟩, hO, hB⟩ hK
    have hc := hv.cell
    gi_wp2
    refine ⟨by simp, .inl ⟨_, _, rfl, run_takeDeferred hK, ?_⟩⟩
    refine ⟨_, results_tmp rfl _ _ _, v, rfl, ?_, (hw1.trans hB).trans (belowK_b (w := w) (Nat.le_refl _) W D _ _ (by omega) hK rfl rfl)⟩
    have hr := ownsRow_putObj (owns_base hrow (Nat.le_add_right _ 5)) (.deferred none) hK rfl
    have hN : ((M : Int) - 0).toNat = max LA.length LB.length := by have := hM.out; omega
    rw [hN] at hr
    exact hr
  case stop =>
    rintro D c pre W _ _ h _
    exact h.elim
end Go.Proofs.Ytmegmnpnkhocaaa
