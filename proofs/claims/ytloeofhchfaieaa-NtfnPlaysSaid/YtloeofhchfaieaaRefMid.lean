/- Cells in the midst of the document's state: an object's, a capability's, its head's; a store of a capability, a load of 32 cells (layers 11 to 22). -/
import Derived.Test.YtloeofhchfaieaaRefPut
import Derived.Deep.MidRow
import Derived.StillTailTactics
namespace Go.Proofs.Ytloeofhchfaieaa
open Go.RowKit
theorem still_load_mid {P : Program} {w : World} {ops : Array Oper} {rest : List Oper} {Q : Act → Prop} {op : Oper} {a : Act} (hgd : op.guard = none) (ty : TypeId) (x : Operand) (ho : op.op = .load ty x)
    (b o : Nat) (hx : a.eval x = .pointer (some ⟨b, o, none⟩)) (cs : List Value) (d : TypeDesc) (hc : w.rangeAt b o cs)
    (hu : P.underlying ty = some d) (hd : d.isRow = true) (hi : (P.info? ty).map (·.size) = some cs.length)
    (h : wpStill P ops w Q rest (a.put op.dst (.agg cs.toArray))) : wpStill P ops w Q (op :: rest) a := by
  refine wpStill_step (fun K hK => ?_)
  have hw : Region.wanted op (yielded ops a.tmps) = true := by simp [Region.wanted, hgd]
  rw [if_pos hw]
  unfold Oper.still execOp
  simp only [ho, hx, Instr.loadAt, Instr.sureAddr, Sem.run_bind, Sem.run_pure, Result.andThen_ok, run_loadVar_mid w b o ty cs d hc hu hd hi]
  exact ⟨rfl, hK _ h⟩
theorem run_cells_mid {P : Program} (w : World) (b o : Nat) (cells : Array Value) (ht : w.there b o cells.size) (h1 : cells.all (·.oneCell') = true) : (storeCells ⟨b, o, none⟩ cells.toList).run P w = .ok () (w.setCells b o cells.toList) := by
  have := run_storeCells_cells (P := P) b o cells.toList 0 w (fun j hj => by simpa using (ht j (by simpa using hj)).1) (fun j hj => by simpa using (ht j (by simpa using hj)).2) (fun v hv => (Array.all_eq_true_iff_forall_mem.1 h1) v (by simpa using hv))
  simpa only [Nat.add_zero] using this
section
variable {w : World} {p gs go : Nat} {S : RSt}
/-- an object's cells are there -/
theorem RefAt.thereO (h : RefM w p gs go S) {i : Nat} (hi : i < 32) : w.there go (i * 32) 32 := by
  obtain ⟨-, -, ⟨cur, h2, h3⟩⟩ := h
  obtain ⟨qv, q1, -⟩ := h3 i hi
  intro j hj
  refine ⟨?_, h2.frozen _⟩
  have hl : j < (objRow (S.ob i) qv).length := hj
  rw [h2.cell, q1 j _ (List.getElem?_eq_getElem hl)]
  rfl
/-- a slot's -/
theorem RefAt.thereC (h : RefM w p gs go S) {i : Nat} (hi : i < 96) : w.there gs (i * 8) 6 := by
  obtain ⟨-, ⟨cur, h2, h3⟩, -⟩ := h
  obtain ⟨kv, q1, -⟩ := h3 i hi
  intro j hj
  refine ⟨?_, h2.frozen _⟩
  have hl : j < (slotRow (S.cap i) (S.par i) kv).length := by simp [slotRow]; omega
  rw [h2.cell, q1 j _ (List.getElem?_eq_getElem hl)]
  rfl
/-- how many are used is put -/
theorem RefAt.setNs {ts tl to ti : TypeId} (h : RefAt w ts tl to ti p gs go S) (h1 : tl ≠ ts) (h2 : to ≠ ts) (h3 : ti ≠ ts) (x : Int) : RefAt (w.setCell ⟨p, 2, none⟩ (.int .i64 x)) ts tl to ti p gs go { S with ns := x } ∧ Only [p] w (w.setCell ⟨p, 2, none⟩ (.int .i64 x)) := by
  obtain ⟨⟨cs, co, q1⟩, ⟨cur, q2, q3⟩, ⟨cur', q4, q5⟩⟩ := h
  have ho : Only [p] w (w.setCell ⟨p, 2, none⟩ (.int .i64 x)) := (Only.refl _ _).setCell (.inl (by simp)) _
  have hF : ∀ g cur, Blk w g ti cur → g ∉ [p] := fun g c hb hm => by
    simp at hm
    subst hm
    exact h3 (hb.uniq q1).1
  exact ⟨⟨⟨cs, co, q1.set_ 2 _⟩, ⟨cur, ho.blk q2 (by simp; exact q2.ne_ q1 h1), fun i hi => ⟨_, (q3 i hi).choose_spec.1, (q3 i hi).choose_spec.2.only ho hF⟩⟩, ⟨cur', ho.blk q4 (by simp; exact q4.ne_ q1 h2), fun i hi => ⟨_, (q5 i hi).choose_spec.1, (q5 i hi).choose_spec.2.only ho hF⟩⟩⟩, ho⟩
theorem RefAt.setNo {ts tl to ti : TypeId} (h : RefAt w ts tl to ti p gs go S) (h1 : tl ≠ ts) (h2 : to ≠ ts) (h3 : ti ≠ ts) (x : Int) : RefAt (w.setCell ⟨p, 3, none⟩ (.int .i64 x)) ts tl to ti p gs go { S with no := x } ∧ Only [p] w (w.setCell ⟨p, 3, none⟩ (.int .i64 x)) := by
  obtain ⟨⟨cs, co, q1⟩, ⟨cur, q2, q3⟩, ⟨cur', q4, q5⟩⟩ := h
  have ho : Only [p] w (w.setCell ⟨p, 3, none⟩ (.int .i64 x)) := (Only.refl _ _).setCell (.inl (by simp)) _
  have hF : ∀ g cur, Blk w g ti cur → g ∉ [p] := fun g c hb hm => by
    simp at hm
    subst hm
    exact h3 (hb.uniq q1).1
  exact ⟨⟨⟨cs, co, q1.set_ 3 _⟩, ⟨cur, ho.blk q2 (by simp; exact q2.ne_ q1 h1), fun i hi => ⟨_, (q3 i hi).choose_spec.1, (q3 i hi).choose_spec.2.only ho hF⟩⟩, ⟨cur', ho.blk q4 (by simp; exact q4.ne_ q1 h2), fun i hi => ⟨_, (q5 i hi).choose_spec.1, (q5 i hi).choose_spec.2.only ho hF⟩⟩⟩, ho⟩
/-- a field's cell is there -/
theorem RefAt.fld (h : RefM w p gs go S) {i j : Nat} (hi : i < 32) (hj : j < 32) : ∃ v, w.cell? ⟨go, i * 32 + j, none⟩ = some v ∧ w.frozen? ⟨go, i * 32 + j, none⟩ = false := by
  have q := h.thereO hi j hj
  obtain ⟨v, hv⟩ := Option.isSome_iff_exists.1 q.1
  exact ⟨v, hv, q.2⟩
/-- its head's -/
theorem RefAt.hd (h : RefM w p gs go S) : (∃ v, w.cell? ⟨p, 2, none⟩ = some v) ∧ (∃ v, w.cell? ⟨p, 3, none⟩ = some v) ∧ w.frozen? ⟨p, 2, none⟩ = false ∧ w.frozen? ⟨p, 3, none⟩ = false := by
  obtain ⟨⟨cs, co, q1⟩, -, -⟩ := h
  exact ⟨⟨_, q1.cell 2⟩, ⟨_, q1.cell 3⟩, q1.frozen 2, q1.frozen 3⟩
abbrev CcT : TypeId := 54
theorem sizeCc : (Try.prog.info? CcT).map (·.size) = some 6 := by kernel_rfl
theorem capRow_one (c : Cp) : (capRow c).toArray.all (·.oneCell') = true := by simp [capRow, Value.oneCell']
theorem wpList_store_cap {ops : Array Oper} {rest : List Oper} {op : Oper} {a : Act} {w : World} {Q : Exit → Act → World → Prop} (hgd : op.guard = none) (x y : Operand) (ho : op.op = .store CcT x y)
    (b o : Nat) (c : Cp) (hx : a.eval x = .pointer (some ⟨b, o, none⟩)) (hy : a.eval y = .agg c.arr) (ht : w.there b o 6)
    (h : wpList Try.prog ops Q rest (a.put op.dst undef) (w.setCells b o (capRow c))) : wpList Try.prog ops Q (op :: rest) a w :=
  wpList_store_mid hgd CcT x y ho b o (capRow c).toArray hx hy ht sizeCc (capRow_one c) h
end
end Go.Proofs.Ytloeofhchfaieaa
