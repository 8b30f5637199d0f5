/- Cells in the midst of the document's state: an object's, a capability's, its head's; a store of a capability, a load of 32 cells (layers 11 to 22). -/
import Derived.Test.YtdkjfalhalepgaaJ4
import Derived.Deep.MidRow
import Derived.StillTailTactics
import Derived.Test.YtdkjfalhalepgaaEpS
import Derived.Test.YtdkjfalhalepgaaJ11
import Derived.Test.YtdkjfalhalepgaaRefNew
import Derived.Test.YtdkjfalhalepgaaJ2
import Derived.Deep.AppendSrc
import Derived.Deep.AppendLies
import Derived.Deep.RegionLaw
import Derived.Deep.RegionHeld3
import Derived.Test.YtdkjfalhalepgaaTcM
import Derived.Test.YtdkjfalhalepgaaRefMay
namespace Go.Proofs.Ytdkjfalhalepgaa
open Go.RowKit
theorem still_load_mid {P : Program} {w : World} {ops : Array Oper} {rest : List Oper} {Q : Act → Prop} {op : Oper} {a : Act} (hgd : op.guard = none) (ty : TypeId) (x : Operand) (ho : op.op = .load ty x)
    (b o : Nat) (hx : a.eval x = .pointer (some ⟨b, o, none⟩)) (cs : List Value) (d : TypeDesc) (hc : w.rangeAt b o cs)
    (hu : P.underlying ty = some d) (hd : d.isRow = true) (hi : (P.info? ty).map (·.size) = some cs.length)
    (h : wpStill P ops w Q rest (a.put op.dst (.agg cs.toArray))) : wpStill P ops w Q (op :: rest) a := by
  refine wpStill_step (fun K hK => ?_)
  have hw : Region.wanted op (yielded ops a.tmps) = true := by simp [Region.wanted, hgd]
  rw [if_pos hw]
  unfold Oper.still execOp
  simp only [ho, hx, Instr.loadAt, Instr.sureAddr, Sem.run_bind, Sem.run_pure, Result.andThen_ok, run_loadVar_mid w b o ty cs d hc hu hd hi]
  exact ⟨rfl, hK _ h⟩
theorem run_cells_mid {P : Program} (w : World) (b o : Nat) (cells : Array Value) (ht : w.there b o cells.size) (h1 : cells.all (·.oneCell') = true) : (storeCells ⟨b, o, none⟩ cells.toList).run P w = .ok () (w.setCells b o cells.toList) := by
  have := run_storeCells_cells (P := P) b o cells.toList 0 w (fun j hj => by simpa using (ht j (by simpa using hj)).1) (fun j hj => by simpa using (ht j (by simpa using hj)).2) (fun v hv => (Array.all_eq_true_iff_forall_mem.1 h1) v (by simpa using hv))
  simpa only [Nat.add_zero] using this
section
variable {w : World} {p gs go : Nat} {S : RSt}
/-- an object's cells are there -/
theorem RefAt.thereO (h : RefM w p gs go S) {i : Nat} (hi : i < 32) : w.there go (i * 32) 32 := by
  obtain ⟨-, -, ⟨cur, h2, h3⟩⟩ := h
  obtain ⟨qv, q1, -⟩ := h3 i hi
  intro j hj
  refine ⟨?_, h2.frozen _⟩
  have hl : j < (objRow (S.ob i) qv).length := hj
  rw [h2.cell, q1 j _ (List.getElem?_eq_getElem hl)]
  rfl
/-- a slot's -/
theorem RefAt.thereC (h : RefM w p gs go S) {i : Nat} (hi : i < 96) : w.there gs (i * 8) 6 := by
  obtain ⟨-, ⟨cur, h2, h3⟩, -⟩ := h
  obtain ⟨kv, q1, -⟩ := h3 i hi
  intro j hj
  refine ⟨?_, h2.frozen _⟩
  have hl : j < (slotRow (S.cap i) (S.par i) kv).length := by simp [slotRow]; omega
  rw [h2.cell, q1 j _ (List.getElem?_eq_getElem hl)]
  rfl
/-- how many are used is put -/
theorem RefAt.setNs {ts tl to ti : TypeId} (h : RefAt w ts tl to ti p gs go S) (h1 : tl ≠ ts) (h2 : to ≠ ts) (h3 : ti ≠ ts) (x : Int) : RefAt (w.setCell ⟨p, 2, none⟩ (.int .i64 x)) ts tl to ti p gs go { S with ns := x } ∧ Only [p] w (w.setCell ⟨p, 2, none⟩ (.int .i64 x)) := by
  obtain ⟨⟨cs, co, q1⟩, ⟨cur, q2, q3⟩, ⟨cur', q4, q5⟩⟩ := h
  have ho : Only [p] w (w.setCell ⟨p, 2, none⟩ (.int .i64 x)) := (Only.refl _ _).setCell (.inl (by simp)) _
  have hF : ∀ g cur, Blk w g ti cur → g ∉ [p] := fun g c hb hm => by
    simp at hm
    subst hm
    exact h3 (hb.uniq q1).1
  exact ⟨⟨⟨cs, co, q1.set_ 2 _⟩, ⟨cur, ho.blk q2 (by simp; exact q2.ne_ q1 h1), fun i hi => ⟨_, (q3 i hi).choose_spec.1, (q3 i hi).choose_spec.2.only ho hF⟩⟩, ⟨cur', ho.blk q4 (by simp; exact q4.ne_ q1 h2), fun i hi => ⟨_, (q5 i hi).choose_spec.1, (q5 i hi).choose_spec.2.only ho hF⟩⟩⟩, ho⟩
theorem RefAt.setNo {ts tl to ti : TypeId} (h : RefAt w ts tl to ti p gs go S) (h1 : tl ≠ ts) (h2 : to ≠ ts) (h3 : ti ≠ ts) (x : Int) : RefAt (w.setCell ⟨p, 3, none⟩ (.int .i64 x)) ts tl to ti p gs go { S with no := x } ∧ Only [p] w (w.setCell ⟨p, 3, none⟩ (.int .i64 x)) := by
  obtain ⟨⟨cs, co, q1⟩, ⟨cur, q2, q3⟩, ⟨cur', q4, q5⟩⟩ := h
  have ho : Only [p] w (w.setCell ⟨p, 3, none⟩ (.int .i64 x)) := (Only.refl _ _).setCell (.inl (by simp)) _
  have hF : ∀ g cur, Blk w g ti cur → g ∉ [p] := fun g c hb hm => by
    simp at hm
    subst hm
    exact h3 (hb.uniq q1).1
  exact ⟨⟨⟨cs, co, q1.set_ 3 _⟩, ⟨cur, ho.blk q2 (by simp; exact q2.ne_ q1 h1), fun i hi => ⟨_, (q3 i hi).choose_spec.1, (q3 i hi).choose_spec.2.only ho hF⟩⟩, ⟨cur', ho.blk q4 (by simp; exact q4.ne_ q1 h2), fun i hi => ⟨_, (q5 i hi).choose_spec.1, (q5 i hi).choose_spec.2.only ho hF⟩⟩⟩, ho⟩
/-- a field's cell is there -/
theorem RefAt.fld (h : RefM w p gs go S) {i j : Nat} (hi : i < 32) (hj : j < 32) : ∃ v, w.cell? ⟨go, i * 32 + j, none⟩ = some v ∧ w.frozen? ⟨go, i * 32 + j, none⟩ = false := by
  have q := h.thereO hi j hj
  obtain ⟨v, hv⟩ := Option.isSome_iff_exists.1 q.1
  exact ⟨v, hv, q.2⟩
/-- its head's -/
theorem RefAt.hd (h : RefM w p gs go S) : (∃ v, w.cell? ⟨p, 2, none⟩ = some v) ∧ (∃ v, w.cell? ⟨p, 3, none⟩ = some v) ∧ w.frozen? ⟨p, 2, none⟩ = false ∧ w.frozen? ⟨p, 3, none⟩ = false := by
  obtain ⟨⟨cs, co, q1⟩, -, -⟩ := h
  exact ⟨⟨_, q1.cell 2⟩, ⟨_, q1.cell 3⟩, q1.frozen 2, q1.frozen 3⟩
abbrev CcT : TypeId := 30
theorem sizeCc : (Try.prog.info? CcT).map (·.size) = some 6 := by kernel_rfl
theorem capRow_one (c : Cp) : (capRow c).toArray.all (·.oneCell') = true := by simp [capRow, Value.oneCell']
theorem wpList_store_cap {ops : Array Oper} {rest : List Oper} {op : Oper} {a : Act} {w : World} {Q : Exit → Act → World → Prop} (hgd : op.guard = none) (x y : Operand) (ho : op.op = .store CcT x y)
    (b o : Nat) (c : Cp) (hx : a.eval x = .pointer (some ⟨b, o, none⟩)) (hy : a.eval y = .agg c.arr) (ht : w.there b o 6)
    (h : wpList Try.prog ops Q rest (a.put op.dst undef) (w.setCells b o (capRow c))) : wpList Try.prog ops Q (op :: rest) a w :=
  wpList_store_mid hgd CcT x y ho b o (capRow c).toArray hx hy ht sizeCc (capRow_one c) h
end
end Go.Proofs.Ytdkjfalhalepgaa
/- What the document's Wake does (layers 15 to 22). -/
namespace Go.Proofs.Ytdkjfalhalepgaa
open Go.RowKit
section
variable {w w' : World} {p gs go : Nat} {S : RSt}
/-- one field of an object is put, as it lies and in the state -/
theorem RefAt.setF1 (h : RefM w p gs go S) {i j : Nat} (hi : i < 32) (hj : j < 32) (v : Value) (f : RObj → RObj) (hx : ∀ (x : RObj) (qv : Value), (objRow x qv).set j v = objRow (f x) qv) (hq : ∀ x : RObj, (f x).queue = x.queue) :
    RefM (w.setCell ⟨go, i * 32 + j, none⟩ v) p gs go (S.upO (i : Int) f) ∧ Only [go] w (w.setCell ⟨go, i * 32 + j, none⟩ v) :=
  h.setField (by decide) (by decide) (by decide) hi hj v (f (S.ob (i : Int))) (fun qv => hx _ qv) (hq _)
set_option maxRecDepth 100000 in
theorem rwake_any (h : RefM w p gs go S) {t : Nat} (ht : t < 32) (n b : Int) :
    Calls Try.prog 41 #[.pointer (some ⟨p, 0, none⟩), .int .i64 t, .int .i64 n, .int .i64 b] w fun e w' => e = .returned (.tuple #[]) ∧ RefM w' p gs go (wakeS S t n b) ∧ Only [go] w w' := by
  have h0 : (0 : Int) ≤ (t : Int) := by omega
  have h1 : (t : Int) < 32 := by omega
  obtain ⟨co, c1⟩ := h.cObjs
  obtain ⟨v, e, f⟩ := h.fld (j := 8) ht (by omega)
  have q1 := h.setF1 ht (j := 8) (by omega) (.int .i64 1) (fun x => { x with state := 1 }) (fun _ _ => rfl) (fun _ => rfl)
  have H1 := Lib.hid q1
  clear q1
  go_enter Try.func41, Try.ntmps41
  go_upto_region 1 with fail
  obtain ⟨w1, hw1⟩ : ∃ X, Hid (X = w.setCell ⟨go, t * 32 + 8, none⟩ (.int .i64 1)) := ⟨_, Lib.hid rfl⟩
  rw [← hw1.out] at H1 ⊢
  clear c1 e f hw1
  obtain ⟨co, c1⟩ := H1.out.1.cObjs
  obtain ⟨v, e, f⟩ := H1.out.1.fld (j := 7) ht (by omega)
  have q2 := H1.out.1.setF1 ht (j := 7) (by omega) (.int .i64 n) (fun x => { x with word := n }) (fun _ _ => rfl) (fun _ => rfl)
  have H2 := Lib.hid (And.intro q2.1 (H1.out.2.trans q2.2))
  clear q2
  go_upto_region 2 with fail
  obtain ⟨w2, hw2⟩ : ∃ X, Hid (X = w1.setCell ⟨go, t * 32 + 7, none⟩ (.int .i64 n)) := ⟨_, Lib.hid rfl⟩
  rw [← hw2.out] at H2 ⊢
  clear c1 e f hw2
  obtain ⟨co, c1⟩ := H2.out.1.cObjs
  obtain ⟨v, e, f⟩ := H2.out.1.fld (j := 10) ht (by omega)
  have q3 := H2.out.1.setF1 ht (j := 10) (by omega) (.int .i64 b) (fun x => { x with badge := b }) (fun _ _ => rfl) (fun _ => rfl)
  have H3 := Lib.hid (And.intro q3.1 (H2.out.2.trans q3.2))
  clear q3
  go_upto_region 3 with fail
  obtain ⟨w3, hw3⟩ : ∃ X, Hid (X = w2.setCell ⟨go, t * 32 + 10, none⟩ (.int .i64 b)) := ⟨_, Lib.hid rfl⟩
  rw [← hw3.out] at H3 ⊢
  clear c1 e f hw3
  obtain ⟨co, c1⟩ := H3.out.1.cObjs
  obtain ⟨v, e, f⟩ := H3.out.1.fld (j := 12) ht (by omega)
  have q4 := H3.out.1.setF1 ht (j := 12) (by omega) (.int .i64 (-1)) (fun x => { x with on := -1 }) (fun _ _ => rfl) (fun _ => rfl)
  have H4 := Lib.hid (And.intro q4.1 (H3.out.2.trans q4.2))
  clear q4
  go_wp2_with fail
  go_end0
  refine ⟨rfl, ?_, H4.out.2⟩
  have e : (((S.upO (t : Int) fun x => { x with state := 1 }).upO (t : Int) fun x => { x with word := n }).upO (t : Int) fun x => { x with badge := b }).upO (t : Int) (fun x => { x with on := -1 }) = wakeS S t n b :=
    RSt.ext' rfl rfl rfl (fun i => by
      simp only [wakeS, upO_at]
      by_cases e : i = (t : Int)
      · simp [e]
      · simp [e]) rfl rfl
  rw [← e]
  exact H4.out.1
end
end Go.Proofs.Ytdkjfalhalepgaa
/- is, Cost of the document's state (layers 13 to 21). -/
namespace Go.Proofs.Ytdkjfalhalepgaa
open Go.RowKit
section
variable {w : World} {p gs go : Nat} {S : RSt}
/-- an object's field's cell -/
theorem RefAt.cObj (h : RefM w p gs go S) {i : Nat} (hi : i < 32) : ∃ A cp, (∀ j v, (objRow (S.ob i) (.slice A (S.ob i).queue.length cp))[j]? = some v → w.cell? ⟨go, i * 32 + j, none⟩ = some v) ∧ RowN w A ItT irow' 1 (S.ob i).queue := h.obj hi
theorem ris_any (h : RefM w p gs go S) (i k : Int) : Calls Try.prog 38 #[.pointer (some ⟨p, 0, none⟩), .int .i64 i, .int .i64 k] w fun e w' => e = .returned (.bool (isO S i k)) ∧ w = w' := by
  by_cases h0 : i < 0
  · have e : isO S i k = false := by simp [isO]; omega
    rw [e]
    clear e
    go_enter Try.func38, Try.ntmps38
    go_wp2
    go_ret
    exact ⟨rfl, rfl⟩
  by_cases h1 : 31 < i
  · have e : isO S i k = false := by simp [isO]; omega
    rw [e]
    clear e
    go_enter Try.func38, Try.ntmps38
    go_wp2
    go_ret
    exact ⟨rfl, rfl⟩
  obtain ⟨n, rfl⟩ : ∃ n : Nat, i = n := ⟨i.toNat, by omega⟩
  have hn : n < 32 := by omega
  have hn0 : (0 : Int) ≤ (n : Int) := by omega
  have hn9 : (n : Int) < 32 := by omega
  obtain ⟨co, c1⟩ := h.cObjs
  obtain ⟨A, cp, hrow, -⟩ := h.cObj hn
  have r0 := hrow 0 _ rfl
  rw [Nat.add_zero] at r0
  have e : isO S n k = ((S.ob n).kind == k) := by
    unfold isO
    by_cases hk : (S.ob n).kind = k
    · rw [hk]; simp; omega
    · simp [hk]
  rw [e]
  clear e hrow
  go_enter Try.func38, Try.ntmps38
  go_wp2
  go_ret
  exact ⟨rfl, rfl⟩
theorem ris_is (h : RefM w p gs go S) {i k : Int} {q : Bool} (e : isO S i k = q) : Calls Try.prog 38 #[.pointer (some ⟨p, 0, none⟩), .int .i64 i, .int .i64 k] w fun e w' => e = .returned (.bool q) ∧ w = w' := e ▸ ris_any h i k
end
end Go.Proofs.Ytdkjfalhalepgaa
/- append of a list of numbers, nil let in, onto numbers of one's own: in a plain region, and as a step of a region that draws. No dump is read here. -/
namespace Go.Proofs.Ytdkjfalhalepgaa
open Go.RowKit
theorem addr_plus {b off j : Nat} : (⟨b, off, none⟩ : Addr).add j = ⟨b, off + j, none⟩ := by
  unfold Addr.add
  split
  · next h => simp [h]
  · rfl
section
variable {P : Program} (w : World)
theorem wp_append_nums {o : Oper} {a : Act} {K : Act → World → Prop} {Q : Exit → Act → World → Prop} (s x : Operand) (t : TypeId)
    (ho : o.op = .call { callee := .builtin .append, args := #[s, x], argTypes := #[t, t] })
    (base : Nat) (e ti : TypeId) (i : TypeInfo) (z : Value) (ht : P.underlying t = some (.slice e)) (hi : P.info? e = some i) (hz : i.zero = some z) (hsize : i.size = 1) (hby : i.bytes = 8) (hzs : z.cells.size = 1)
    (E m0 : Nat) (xs : List Value) (hs : a.eval s = .slice (some ⟨E, 0, none⟩) m0 m0) (hown : w.ownsRow base e 1 (.slice (some ⟨E, 0, none⟩) m0 m0) m0 xs)
    (A : Option Addr) (L : List Int) (cp : Nat) (hx : a.eval x = .slice A L.length cp) (hL : RowN w A ti irow' 1 L) (hl : L.length ≤ 1000) (hm0 : m0 ≤ 1000) (hbase : base ≤ w.heap.size)
    (h : ∀ v' w', w'.ownsRow base e 1 v' (m0 + L.length) (xs ++ L.flatMap irow') → w.grownBy w' (some E) → K (a.put o.dst v') w') : o.wp P a w K Q := by
  cases A with
  | some ad =>
    have hlen : (L.flatMap irow').length = L.length * 1 := by
      have := flat_size (f := irow') (L := L) irow'_len
      simpa [flat] using this
    have hcell : ∀ j u, (L.flatMap irow')[j]? = some u → w.cell? (ad.add j) = some u := fun j u hj => by
      have hjl := (List.getElem?_eq_some_iff.1 hj).1
      rw [hlen, Nat.mul_one] at hjl
      obtain ⟨y, hy⟩ : ∃ y, L[j]? = some y := ⟨_, List.getElem?_eq_getElem hjl⟩
      obtain ⟨g, cur, e1, hb, hc⟩ := hL j y hy
      injection e1 with e1
      subst e1
      have e2 := flat_get (f := irow') (L := L) irow'_len j 0 (by omega)
      rw [hy] at e2
      have e3 : (L.flatMap irow')[j]? = some (.int .i64 y) := by simpa [flat, irow'] using e2
      rw [e3] at hj
      cases hj
      rw [addr_plus, Nat.zero_add, hb.cell]
      have := hc 0 _ rfl
      simpa using this
    refine wp_append_own w s x t ho base e i z 1 8 ht hi hz hsize hby hzs (by omega) _ m0 xs hs hown ad L.length cp (L.flatMap irow') hx hlen hcell (fun u hu => ?_) (by unfold maxLen; omega) (by omega) hbase ?_
    · obtain ⟨y, -, hy⟩ := List.mem_flatMap.1 hu
      simp only [irow', List.mem_cons, List.not_mem_nil, or_false] at hy
      subst hy
      rfl
    · intro v' w' h1 h2 _
      exact h v' w' h1 h2
  | none =>
    obtain rfl : L = [] := by
      cases L with
      | nil => rfl
      | cons y L => obtain ⟨g, cur, e1, _⟩ := hL 0 y rfl; cases e1
    have hrun := run_append_room_src w t t o.type e i ht hi E 0 m0 m0 (.slice none 0 cp) 0 [] (by rw [hsize]; exact Src.ofNil w ht cp) (Nat.le_refl _) (fun j hj => by simp at hj) (fun j hj => by simp at hj)
    unfold Oper.wp execOp
    have hx' : a.eval x = .slice none 0 cp := hx
    simp [ho, resolve, invoke, builtin, hs, hx', hrun]
    exact h _ _ (by simpa [World.setCells] using hown) ⟨rfl, rfl, rfl, Nat.le_refl _, fun _ _ _ => rfl⟩
theorem step_append_nums {ops : Array Oper} {o : Oper} {a : Act} {K : Act → World → Prop} {Q : Exit → Act → World → Prop} {B : Prop} (hgd : o.guard = none) (s x : Operand) (t : TypeId)
    (ho : o.op = .call { callee := .builtin .append, args := #[s, x], argTypes := #[t, t] })
    (base : Nat) (e ti : TypeId) (i : TypeInfo) (z : Value) (ht : P.underlying t = some (.slice e)) (hi : P.info? e = some i) (hz : i.zero = some z) (hsize : i.size = 1) (hby : i.bytes = 8) (hzs : z.cells.size = 1)
    (E m0 : Nat) (xs : List Value) (hs : a.eval s = .slice (some ⟨E, 0, none⟩) m0 m0) (hown : w.ownsRow base e 1 (.slice (some ⟨E, 0, none⟩) m0 m0) m0 xs)
    (A : Option Addr) (L : List Int) (cp : Nat) (hx : a.eval x = .slice A L.length cp) (hL : RowN w A ti irow' 1 L) (hl : L.length ≤ 1000) (hm0 : m0 ≤ 1000) (hbase : base ≤ w.heap.size)
    (h : ∀ v' w', w'.ownsRow base e 1 v' (m0 + L.length) (xs ++ L.flatMap irow') → w.grownBy w' (some E) → K (a.put o.dst v') w') :
    if Region.wanted o (yielded ops a.tmps) = true then Oper.wp P o a w K Q else B := by
  have hw : Region.wanted o (yielded ops a.tmps) = true := by simp [Region.wanted, hgd]
  rw [if_pos hw]
  exact wp_append_nums w s x t ho base e ti i z ht hi hz hsize hby hzs E m0 xs hs hown A L cp hx hL hl hm0 hbase h
end
end Go.Proofs.Ytdkjfalhalepgaa
/- What the document's Ready, Poll answer; its pop, Block, and that a list is put as a queue (layers 15 to 22). -/
namespace Go.Proofs.Ytdkjfalhalepgaa
open Go.RowKit
section
variable {w w' : World} {p gs go : Nat} {S : RSt}
/-- a queue is put, as it lies and in the state -/
theorem RefAt.setQ (h : RefM w p gs go S) {i : Nat} (hi : i < 32) {v : Value} {l : List Int} (hv : NumsC w ItT v l) :
    RefM (w.setCell ⟨go, i * 32 + 6, none⟩ v) p gs go (queueS S i l) ∧ Only [go] w (w.setCell ⟨go, i * 32 + 6, none⟩ v) :=
  h.setQueue (by decide) (by decide) (by decide) hi hv
/-- a queue's slice, as it lies -/
theorem RefAt.cQueue (h : RefM w p gs go S) {i : Nat} (hi : i < 32) : ∃ A cp, w.cell? ⟨go, i * 32 + 6, none⟩ = some (.slice A (S.ob i).queue.length cp) ∧ RowN w A ItT irow' 1 (S.ob i).queue ∧ (S.ob i).queue.length ≤ cp := by
  obtain ⟨-, -, ⟨cur, h2, h3⟩⟩ := h
  obtain ⟨qv, q1, A, cp, rfl, q2, q3⟩ := h3 i hi
  exact ⟨A, cp, by rw [h2.cell]; exact q1 6 _ rfl, q2, q3⟩
set_option maxRecDepth 100000 in
theorem rready_any (h : RefM w p gs go S) (t : Int) : Calls Try.prog 17 #[.pointer (some ⟨p, 0, none⟩), .int .i64 t] w fun e w' => e = .returned (.bool (isO S t 5 && decide ((S.ob t).state = 1))) ∧ w' = w := by
  obtain ⟨q, hq⟩ : ∃ q, isO S t 5 = q := ⟨_, rfl⟩
  have cI := ris_is h hq
  cases q with
  | false =>
    rw [hq]
    go_enter Try.func17, Try.ntmps17
    go_wp2_with ((with_reducible refine cI.mono ?_); clear cI; rintro e w' ⟨rfl, hw⟩; subst hw)
    go_ret
    exact ⟨rfl, rfl⟩
  | true =>
    obtain ⟨n, rfl, hn, -⟩ := isO_yes hq
    obtain ⟨A, cp, hc, -⟩ := h.obj hn
    have c8 : w.cell? ⟨go, n * 32 + 8, none⟩ = some (.int .i64 (S.ob (n : Int)).state) := hc 8 _ rfl
    obtain ⟨co, c1⟩ := h.cObjs
    rw [hq]
    have h0 : (0 : Int) ≤ (n : Int) := by omega
    have h1 : (n : Int) < 32 := by omega
    clear hc hq
    go_enter Try.func17, Try.ntmps17
    go_wp2_with ((with_reducible refine cI.mono ?_); clear cI; rintro e w' ⟨rfl, hw⟩; subst hw)
    go_ret
    refine ⟨?_, rfl⟩
    by_cases e : (S.ob (n : Int)).state = 1 <;> simp [e]
set_option maxRecDepth 100000 in
theorem rpoll_any (h : RefM w p gs go S) {o : Nat} (ho : o < 32) : Calls Try.prog 63 #[.pointer (some ⟨p, 0, none⟩), .int .i64 o] w fun e w' => e = .returned (.int .i64 (S.ob o).word) ∧ RefM w' p gs go (wordS S o 0) ∧ Only [go] w w' := by
  have h0 : (0 : Int) ≤ (o : Int) := by omega
  have h1 : (o : Int) < 32 := by omega
  obtain ⟨co, c1⟩ := h.cObjs
  obtain ⟨A, cp, hc, -⟩ := h.obj ho
  have c8 : w.cell? ⟨go, o * 32 + 7, none⟩ = some (.int .i64 (S.ob (o : Int)).word) := hc 7 _ rfl
  obtain ⟨v, -, f⟩ := h.fld (j := 7) ho (by omega)
  have H1 := Lib.hid (h.setF1 ho (j := 7) (by omega) (.int .i64 0) (fun x => { x with word := 0 }) (fun _ _ => rfl) (fun _ => rfl))
  clear hc
  go_enter Try.func63, Try.ntmps63
  go_wp2_with fail
  go_ret
  exact ⟨rfl, H1.out⟩
end
end Go.Proofs.Ytdkjfalhalepgaa
/- What the document's rest, owe, Resume, Prio do (layers 15 to 22). -/
namespace Go.Proofs.Ytdkjfalhalepgaa
open Go.RowKit
section
variable {w w' : World} {p gs go : Nat} {S : RSt}
set_option maxRecDepth 100000 in
theorem rrest_any (h : RefM w p gs go S) {o : Nat} (ho : o < 32) :
    Calls Try.prog 55 #[.pointer (some ⟨p, 0, none⟩), .int .i64 o] w fun e w' => e = .returned (.tuple #[]) ∧ RefM w' p gs go (restS S o) ∧ Only [go] w w' := by
  have h0 : (0 : Int) ≤ (o : Int) := by omega
  have h1 : (o : Int) < 32 := by omega
  obtain ⟨co, c1⟩ := h.cObjs
  obtain ⟨A, cp, cq, -, -⟩ := h.cQueue ho
  unfold restS
  cases hq : (S.ob (o : Int)).queue with
  | nil =>
    rw [hq] at cq
    rw [if_pos rfl]
    obtain ⟨v, e, f⟩ := h.fld (j := 5) ho (by omega)
    have q1 := h.setF1 ho (j := 5) (by omega) (.int .i64 0) (fun x => { x with wait := 0 }) (fun _ _ => rfl) (fun _ => rfl)
    have H1 := Lib.hid q1
    have hz : ((([] : List Int).length : Int) == 0) = true := rfl
    clear q1 h hq
    go_enter Try.func55, Try.ntmps55
    go_wp2_with fail
    go_end0
    exact ⟨rfl, H1.out.1, H1.out.2⟩
  | cons x l =>
    rw [hq] at cq
    rw [if_neg (by simp)]
    have hz : (((x :: l).length : Int) == 0) = false := by simp; omega
    have oz := (Only.refl [go] w)
    have H1 := Lib.hid h
    clear h hq
    go_enter Try.func55, Try.ntmps55
    go_wp2_with fail
    go_end0
    exact ⟨rfl, H1.out, oz⟩
set_option maxRecDepth 100000 in
theorem rowe_any (h : RefM w p gs go S) {s c : Nat} (hs : s < 32) (hc : c < 32) :
    Calls Try.prog 56 #[.pointer (some ⟨p, 0, none⟩), .int .i64 s, .int .i64 c] w fun e w' => e = .returned (.tuple #[]) ∧ RefM w' p gs go (oweS S s c) ∧ Only [go] w w' := by
  have h0 : (0 : Int) ≤ (c : Int) := by omega
  have h1 : (c : Int) < 32 := by omega
  have h2 : (0 : Int) ≤ (s : Int) := by omega
  have h3 : (s : Int) < 32 := by omega
  obtain ⟨co, c1⟩ := h.cObjs
  obtain ⟨v, e, f⟩ := h.fld (j := 8) hc (by omega)
  have q1 := h.setF1 hc (j := 8) (by omega) (.int .i64 4) (fun x => { x with state := 4 }) (fun _ _ => rfl) (fun _ => rfl)
  have H1 := Lib.hid q1
  clear q1
  go_enter Try.func56, Try.ntmps56
  go_upto_region 1 with fail
  obtain ⟨w1, hw1⟩ : ∃ X, Hid (X = w.setCell ⟨go, c * 32 + 8, none⟩ (.int .i64 4)) := ⟨_, Lib.hid rfl⟩
  rw [← hw1.out] at H1 ⊢
  clear c1 e f hw1
  obtain ⟨co, c1⟩ := H1.out.1.cObjs
  obtain ⟨v, e, f⟩ := H1.out.1.fld (j := 12) hc (by omega)
  have q1 := H1.out.1.setF1 hc (j := 12) (by omega) (.int .i64 (-1)) (fun x => { x with on := -1 }) (fun _ _ => rfl) (fun _ => rfl)
  have H2 := Lib.hid (And.intro q1.1 (H1.out.2.trans q1.2))
  clear q1
  go_upto_region 2 with fail
  obtain ⟨w2, hw2⟩ : ∃ X, Hid (X = w1.setCell ⟨go, c * 32 + 12, none⟩ (.int .i64 (-1))) := ⟨_, Lib.hid rfl⟩
  rw [← hw2.out] at H2 ⊢
  clear c1 e f hw2
  obtain ⟨co, c1⟩ := H2.out.1.cObjs
  obtain ⟨v, e, f⟩ := H2.out.1.fld (j := 9) hc (by omega)
  have q1 := H2.out.1.setF1 hc (j := 9) (by omega) (.int .i64 s) (fun x => { x with owing := s }) (fun _ _ => rfl) (fun _ => rfl)
  have H3 := Lib.hid (And.intro q1.1 (H2.out.2.trans q1.2))
  clear q1
  go_upto_region 3 with fail
  obtain ⟨w3, hw3⟩ : ∃ X, Hid (X = w2.setCell ⟨go, c * 32 + 9, none⟩ (.int .i64 s)) := ⟨_, Lib.hid rfl⟩
  rw [← hw3.out] at H3 ⊢
  clear c1 e f hw3
  obtain ⟨co, c1⟩ := H3.out.1.cObjs
  obtain ⟨v, e, f⟩ := H3.out.1.fld (j := 13) hs (by omega)
  have q1 := H3.out.1.setF1 hs (j := 13) (by omega) (.int .i64 c) (fun x => { x with owes := c }) (fun _ _ => rfl) (fun _ => rfl)
  have H4 := Lib.hid (And.intro q1.1 (H3.out.2.trans q1.2))
  clear q1
  go_wp2_with fail
  go_end0
  refine ⟨rfl, ?_, H4.out.2⟩
  have e : ((((S.upO (c : Int) fun x => { x with state := 4 }).upO (c : Int) fun x => { x with on := -1 }).upO (c : Int) fun x => { x with owing := (s : Int) }).upO (s : Int) fun x => { x with owes := (c : Int) }) = oweS S s c :=
    RSt.ext' rfl rfl rfl (fun i => by
      simp only [oweS, owesS, owedS, upO_at]
      by_cases e : i = (c : Int) <;> by_cases e2 : i = (s : Int) <;> by_cases e3 : (s : Int) = (c : Int) <;> simp [e, e2, e3]) rfl rfl
  rw [← e]
  exact H4.out.1
def resN (S : RSt) (t : Int) : Int := if isO S t 5 then (if (S.ob t).state = 0 then 0 else 10) else 2
def resS (S : RSt) (t : Int) : RSt := if isO S t 5 ∧ (S.ob t).state = 0 then wakeS S t 0 0 else S
theorem rresume_any (h : RefM w p gs go S) (t : Int) :
    Calls Try.prog 12 #[.pointer (some ⟨p, 0, none⟩), .int .i64 t] w fun e w' => e = .returned (.int .i64 (resN S t)) ∧ RefM w' p gs go (resS S t) ∧ Only [go] w w' := by
  obtain ⟨q, hq⟩ : ∃ q, isO S t 5 = q := ⟨_, rfl⟩
  have cI := ris_is h hq
  unfold resN resS
  cases q with
  | false =>
    rw [hq, if_neg (by simp), if_neg (by simp)]
    go_enter Try.func12, Try.ntmps12
    go_wp2_with ((with_reducible refine cI.mono ?_); clear cI; rintro e w' ⟨rfl, hw⟩; subst hw)
    go_ret
    exact ⟨rfl, h, Only.refl _ _⟩
  | true =>
    obtain ⟨n, rfl, hn, -⟩ := isO_yes hq
    obtain ⟨A, cp, hc, -⟩ := h.obj hn
    obtain ⟨st, hst⟩ : ∃ st, (S.ob (n : Int)).state = st := ⟨_, rfl⟩
    have c8 : w.cell? ⟨go, n * 32 + 8, none⟩ = some (.int .i64 st) := hst ▸ hc 8 _ rfl
    obtain ⟨co, c1⟩ := h.cObjs
    have cK := rwake_any h hn 0 0
    have h0 : (0 : Int) ≤ (n : Int) := by omega
    have h1 : (n : Int) < 32 := by omega
    rw [hq, hst]
    clear hc hq hst
    by_cases e0 : st = 0
    · subst e0
      rw [if_pos rfl, if_pos rfl, if_pos ⟨rfl, rfl⟩]
      go_enter Try.func12, Try.ntmps12
      go_wp2_with fail
      (with_reducible refine cI.mono ?_)
      clear cI
      rintro e w' ⟨rfl, hw⟩
      subst hw
      go_wp2_with fail
      (with_reducible refine cK.mono ?_)
      clear cK
      rintro e w1 ⟨rfl, hr1, ho1⟩
      go_wp2_with fail
      go_ret
      exact ⟨rfl, hr1, ho1⟩
    · have e1 : (st != 0) = true := by simpa using e0
      rw [if_pos rfl, if_neg e0, if_neg (fun z => e0 z.2)]
      have H := Lib.hid h
      clear cK h
      go_enter Try.func12, Try.ntmps12
      go_wp2_with ((with_reducible refine cI.mono ?_); clear cI; rintro e w' ⟨rfl, hw⟩; subst hw)
      go_ret
      exact ⟨rfl, H.out, Only.refl _ _⟩
def prioN (S : RSt) (t n : Int) : Int := if isO S t 5 then (if n < 0 ∨ 255 < n then 1 else 0) else 2
def prioT (S : RSt) (t n : Int) : RSt := if isO S t 5 ∧ ¬ (n < 0 ∨ 255 < n) then prioS S t n else S
end
end Go.Proofs.Ytdkjfalhalepgaa
/- What the document's Fine answers, and SetRoot answers and does (layers 17 to 22). -/
namespace Go.Proofs.Ytdkjfalhalepgaa
open Go.RowKit
section
variable {w w' : World} {p gs go : Nat} {S : RSt}
def fineS (S : RSt) (c : Cp) : Bool := decide (c.kind = 2) && isO S c.obj 2
theorem blk6 {g : Nat} {t : TypeId} {c : Cp} (h : Blk w g t c.arr) : w.cell? ⟨g, 0, none⟩ = some (.int .i64 c.kind) ∧ w.cell? ⟨g, 1, none⟩ = some (.int .i64 c.rights) ∧ w.cell? ⟨g, 2, none⟩ = some (.int .i64 c.obj) ∧ w.cell? ⟨g, 3, none⟩ = some (.int .i64 c.badge) ∧ w.cell? ⟨g, 4, none⟩ = some (.int .i64 c.guard) ∧ w.cell? ⟨g, 5, none⟩ = some (.int .i64 c.bits) :=
  ⟨h.cell 0, h.cell 1, h.cell 2, h.cell 3, h.cell 4, h.cell 5⟩
theorem rfine_any (h : RefM w p gs go S) (c : Cp) :
    Calls Try.prog 48 #[.pointer (some ⟨p, 0, none⟩), c.v] w fun e w' => e = .returned (.bool (fineS S c)) ∧ Only [] w w' := by
  have o0 : Only [] w (w.alloc (.cells c.arr CcT)) := (Only.refl [] w).alloc _
  obtain ⟨q, hq⟩ : ∃ q, isO S c.obj 2 = q := ⟨_, rfl⟩
  have cI := ris_is (h.only0 o0) hq
  unfold fineS
  rw [hq]
  clear h hq
  by_cases e : c.kind = 2
  · rw [decide_eq_true e, Bool.true_and]
    have e1 : (c.kind == 2) = true := by simpa using e
    clear e
    go_enter Try.func48, Try.ntmps48
    go_wp2_with ((with_reducible refine cI.mono ?_); clear cI; rintro e w' ⟨rfl, hw⟩; subst hw)
    go_ret
    exact ⟨rfl, o0⟩
  · rw [decide_eq_false e, Bool.false_and]
    have e1 : (c.kind == 2) = false := by simpa using e
    clear e cI
    go_enter Try.func48, Try.ntmps48
    go_wp2_with fail
    go_ret
    exact ⟨rfl, o0⟩
/-- an object's root is put -/
theorem RefAt.setRoot (h : RefM w p gs go S) {i : Nat} (hi : i < 32) (c : Cp) : RefM (w.setCells go (i * 32 + 14) (capRow c)) p gs go (rootS S (i : Int) c) ∧ Only [go] w (w.setCells go (i * 32 + 14) (capRow c)) := by
  have q1 := h.setF1 hi (j := 14) (by omega) (.int .i64 c.kind) (fun x => { x with root := { x.root with kind := c.kind } }) (fun _ _ => rfl) (fun _ => rfl)
  have q2 := q1.1.setF1 hi (j := 15) (by omega) (.int .i64 c.rights) (fun x => { x with root := { x.root with rights := c.rights } }) (fun _ _ => rfl) (fun _ => rfl)
  have q3 := q2.1.setF1 hi (j := 16) (by omega) (.int .i64 c.obj) (fun x => { x with root := { x.root with obj := c.obj } }) (fun _ _ => rfl) (fun _ => rfl)
  have q4 := q3.1.setF1 hi (j := 17) (by omega) (.int .i64 c.badge) (fun x => { x with root := { x.root with badge := c.badge } }) (fun _ _ => rfl) (fun _ => rfl)
  have q5 := q4.1.setF1 hi (j := 18) (by omega) (.int .i64 c.guard) (fun x => { x with root := { x.root with guard := c.guard } }) (fun _ _ => rfl) (fun _ => rfl)
  have q6 := q5.1.setF1 hi (j := 19) (by omega) (.int .i64 c.bits) (fun x => { x with root := { x.root with bits := c.bits } }) (fun _ _ => rfl) (fun _ => rfl)
  have e : ((((((S.upO (i : Int) fun x => { x with root := { x.root with kind := c.kind } }).upO (i : Int) fun x => { x with root := { x.root with rights := c.rights } }).upO (i : Int) fun x => { x with root := { x.root with obj := c.obj } }).upO (i : Int) fun x => { x with root := { x.root with badge := c.badge } }).upO (i : Int) fun x => { x with root := { x.root with guard := c.guard } }).upO (i : Int) fun x => { x with root := { x.root with bits := c.bits } }) = rootS S (i : Int) c :=
    RSt.ext' rfl rfl rfl (fun k => by
      simp only [rootS, upO_at]
      by_cases e : k = (i : Int)
      · simp [e]
      · simp [e]) rfl rfl
  have hr := q6.1
  rw [e] at hr
  exact ⟨hr, (((((q1.2.trans q2.2).trans q3.2).trans q4.2).trans q5.2).trans q6.2)⟩
theorem RefAt.thereR (h : RefM w p gs go S) {i : Nat} (hi : i < 32) : w.there go (i * 32 + 14) 6 := by
  intro j hj
  have := h.thereO hi (14 + j) (by omega)
  rw [show i * 32 + 14 + j = i * 32 + (14 + j) by omega]
  exact this
def setrN (S : RSt) (t : Int) (c : Cp) : Int := if isO S t 5 then (if c.mayB = true ∧ fineS S c = true then 0 else 5) else 2
def setrS (S : RSt) (t : Int) (c : Cp) : RSt := if isO S t 5 ∧ c.mayB = true ∧ fineS S c = true then rootS S t c else S
set_option maxRecDepth 100000 in
theorem rsetroot_any (h : RefM w p gs go S) (t : Int) (c : Cp) :
    Calls Try.prog 16 #[.pointer (some ⟨p, 0, none⟩), .int .i64 t, c.v] w fun e w' => e = .returned (.int .i64 (setrN S t c)) ∧ RefM w' p gs go (setrS S t c) ∧ Only [go] w w' := by
  have n3 : w.heap.size ≠ go := fun e => by have := h.ltO; omega
  have o0 : Only [] w (w.alloc (.cells c.arr CcT)) := (Only.refl [] w).alloc _
  have hB0 := Blk.new w CcT c.arr
  have h0 := h.only0 o0
  obtain ⟨q, hq⟩ : ∃ q, isO S t 5 = q := ⟨_, rfl⟩
  have cI := ris_is h0 hq
  obtain ⟨qf, hqf⟩ : ∃ q, fineS S c = q := ⟨_, rfl⟩
  obtain ⟨qm, hqm⟩ : ∃ q, c.mayB = q := ⟨_, rfl⟩
  unfold setrN setrS
  rw [hqf, hqm]
  cases q with
  | false =>
    rw [hq, if_neg (by simp), if_neg (by simp)]
    have H := Lib.hid (And.intro h0 (show Only [go] w (w.alloc (.cells c.arr CcT)) from (Only.refl [go] w).alloc _))
    clear h h0 hB0 hq
    go_enter Try.func16, Try.ntmps16
    go_wp2_with ((with_reducible refine cI.mono ?_); clear cI; rintro e w' ⟨rfl, hw⟩; subst hw)
    go_ret
    exact ⟨rfl, H.out⟩
  | true =>
    obtain ⟨m, rfl, hm, -⟩ := isO_yes hq
    have i0 : (0 : Int) ≤ (m : Int) := by omega
    have i1 : (m : Int) < 32 := by omega
    rw [hq, if_pos rfl]
    obtain ⟨nn, hnn⟩ : ∃ x : Int, (if qm = true ∧ qf = true then 0 else 5) = x := ⟨_, rfl⟩
    obtain ⟨X, hX⟩ : ∃ x : RSt, (if true = true ∧ qm = true ∧ qf = true then rootS S (m : Int) c else S) = x := ⟨_, rfl⟩
    rw [hnn, hX]
    have HXX := Lib.hid (And.intro hnn hX)
    clear hnn hX
    have H := Lib.hid (And.intro h0 (And.intro hB0 (show Only [go] w (w.alloc (.cells c.arr CcT)) from (Only.refl [go] w).alloc _)))
    have cM := Lib.hid fun W : World => refMay_any c W
    rw [hqm] at cM
    clear h h0 hB0 hq
    go_enter Try.func16, Try.ntmps16
    go_wp2_with ((with_reducible refine cI.mono ?_); clear cI; rintro e w' ⟨rfl, hw⟩; subst hw)
    go_at_call 47
    (with_reducible refine (cM.out _).mono ?_)
    clear cM
    rintro e w1 ⟨rfl, ho1⟩
    have hB1 := ho1.blk H.out.2.1 (by simp)
    have hr1 := H.out.1.only0 ho1
    have cF := rfine_any hr1 c
    rw [hqf] at cF
    obtain ⟨k0, k1, k2, k3, k4, k5⟩ := blk6 hB1
    have H1 := Lib.hid (And.intro hr1 (And.intro hB1 (H.out.2.2.trans (ho1.more (S' := [go]) (fun _ _ hm => absurd hm (List.not_mem_nil))))))
    clear H ho1 hB1 hr1 hqf hqm
    go_wp2_with fail
    (with_reducible refine cF.mono ?_)
    clear cF k0 k1 k2 k3 k4 k5
    rintro e w2 ⟨rfl, ho2⟩
    have hB2 := ho2.blk H1.out.2.1 (by simp)
    have hr2 := H1.out.1.only0 ho2
    have hoG := H1.out.2.2.trans (ho2.more (S' := [go]) (fun _ _ hm => absurd hm (List.not_mem_nil)))
    clear H1 ho2
    cases qm with
    | false =>
      obtain ⟨hnn, hX⟩ := HXX.out
      rw [if_neg (by simp)] at hnn hX
      subst hnn hX
      have H2 := Lib.hid (And.intro hr2 hoG)
      clear hr2 hoG hB2
      go_wp2_with fail
      go_ret
      exact ⟨rfl, H2.out⟩
    | true =>
      cases qf with
      | false =>
        obtain ⟨hnn, hX⟩ := HXX.out
        rw [if_neg (by simp)] at hnn hX
        subst hnn hX
        have H2 := Lib.hid (And.intro hr2 hoG)
        clear hr2 hoG hB2
        go_wp2_with fail
        go_ret
        exact ⟨rfl, H2.out⟩
      | true =>
        obtain ⟨hnn, hX⟩ := HXX.out
        rw [if_pos (by simp)] at hnn hX
        subst hnn hX
        obtain ⟨co, c1⟩ := hr2.cObjs
        have hT := hr2.thereR hm
        obtain ⟨k0, k1, k2, k3, k4, k5⟩ := blk6 hB2
        have q := (hr2.drewN 1).setRoot hm c
        have H2 := Lib.hid (And.intro q.1 ((hoG.drewN 1).trans q.2))
        clear q hr2 hoG hB2 HXX
        go_upto_region 8 with fail
        refine wp_region_still_tail 8 (by kernel_rfl) (by kernel_rfl) ?_
        simp only [List.take_succ_cons, List.take_zero, List.drop_succ_cons, List.drop_zero]
        iterate 8 still_step
        refine wpStill_nil ?_
        change wpList _ _ _ _ _ w2.drew
        refine wpList_store_cap rfl (.tmp 33) (.tmp 31) rfl go (m * 32 + 14) c ?_ ?_ ?_ ?_
        · rfl
        · rfl
        · exact hT
        obtain ⟨w3, hw3⟩ : ∃ X, Hid (X = w2.drew.setCells go (m * 32 + 14) (capRow c)) := ⟨_, Lib.hid rfl⟩
        rw [show w2.drewN 1 = w2.drew from rfl, ← hw3.out] at H2
        rw [← hw3.out]
        clear hw3
        go_wp2_with fail
        go_ret
        exact ⟨rfl, H2.out⟩
end
end Go.Proofs.Ytdkjfalhalepgaa
