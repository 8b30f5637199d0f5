/- Cells in the midst of the document's state: an object's, a capability's, its head's; a store of a capability, a load of 32 cells (layers 11 to 22). -/
import Derived.Test.YtihipcbhfjpgbaaRefPut
import Derived.Deep.MidRow
import Derived.StillTailTactics
import Derived.Test.YtihipcbhfjpgbaaJ8
import Derived.Test.YtihipcbhfjpgbaaJ6
import Derived.Test.YtihipcbhfjpgbaaRefNew
import Derived.Test.YtihipcbhfjpgbaaJ4
import Derived.Test.YtihipcbhfjpgbaaJ5
import Derived.Test.YtihipcbhfjpgbaaJ1
namespace Go.Proofs.Ytihipcbhfjpgbaa
open Go.RowKit
theorem run_cells_mid {P : Program} (w : World) (b o : Nat) (cells : Array Value) (ht : w.there b o cells.size) (h1 : cells.all (·.oneCell') = true) : (storeCells ⟨b, o, none⟩ cells.toList).run P w = .ok () (w.setCells b o cells.toList) := by
  have := run_storeCells_cells (P := P) b o cells.toList 0 w (fun j hj => by simpa using (ht j (by simpa using hj)).1) (fun j hj => by simpa using (ht j (by simpa using hj)).2) (fun v hv => (Array.all_eq_true_iff_forall_mem.1 h1) v (by simpa using hv))
  simpa only [Nat.add_zero] using this
section
variable {w : World} {p gs go : Nat} {S : RSt}
/-- an object's cells are there -/
theorem RefAt.thereO (h : RefM w p gs go S) {i : Nat} (hi : i < 32) : w.there go (i * 32) 32 := by
  obtain ⟨-, -, ⟨cur, h2, h3⟩⟩ := h
  obtain ⟨qv, q1, -⟩ := h3 i hi
  intro j hj
  refine ⟨?_, h2.frozen _⟩
  have hl : j < (objRow (S.ob i) qv).length := hj
  rw [h2.cell, q1 j _ (List.getElem?_eq_getElem hl)]
  rfl
/-- a field's cell is there -/
theorem RefAt.fld (h : RefM w p gs go S) {i j : Nat} (hi : i < 32) (hj : j < 32) : ∃ v, w.cell? ⟨go, i * 32 + j, none⟩ = some v ∧ w.frozen? ⟨go, i * 32 + j, none⟩ = false := by
  have q := h.thereO hi j hj
  obtain ⟨v, hv⟩ := Option.isSome_iff_exists.1 q.1
  exact ⟨v, hv, q.2⟩
/-- its head's -/
theorem RefAt.hd (h : RefM w p gs go S) : (∃ v, w.cell? ⟨p, 2, none⟩ = some v) ∧ (∃ v, w.cell? ⟨p, 3, none⟩ = some v) ∧ w.frozen? ⟨p, 2, none⟩ = false ∧ w.frozen? ⟨p, 3, none⟩ = false := by
  obtain ⟨⟨cs, co, q1⟩, -, -⟩ := h
  exact ⟨⟨_, q1.cell 2⟩, ⟨_, q1.cell 3⟩, q1.frozen 2, q1.frozen 3⟩
end
end Go.Proofs.Ytihipcbhfjpgbaa
/- What the document's Wake does (layers 15 to 22). -/
namespace Go.Proofs.Ytihipcbhfjpgbaa
open Go.RowKit
section
variable {w w' : World} {p gs go : Nat} {S : RSt}
/-- one field of an object is put, as it lies and in the state -/
theorem RefAt.setF1 (h : RefM w p gs go S) {i j : Nat} (hi : i < 32) (hj : j < 32) (v : Value) (f : RObj → RObj) (hx : ∀ (x : RObj) (qv : Value), (objRow x qv).set j v = objRow (f x) qv) (hq : ∀ x : RObj, (f x).queue = x.queue) :
    RefM (w.setCell ⟨go, i * 32 + j, none⟩ v) p gs go (S.upO (i : Int) f) ∧ Only [go] w (w.setCell ⟨go, i * 32 + j, none⟩ v) :=
  h.setField (by decide) (by decide) (by decide) hi hj v (f (S.ob (i : Int))) (fun qv => hx _ qv) (hq _)
end
end Go.Proofs.Ytihipcbhfjpgbaa
/- Delete, One of the document's state (layer 12), as mathematics. -/
namespace Go.Proofs.Ytihipcbhfjpgbaa
open Go.RowKit
def rdelN (S : RSt) (i : Int) : Int := if slotOk i = false then 2 else if S.kids i ≠ [] then 9 else 0
end Go.Proofs.Ytihipcbhfjpgbaa
/- is, Cost of the document's state (layers 13 to 21). -/
namespace Go.Proofs.Ytihipcbhfjpgbaa
open Go.RowKit
section
variable {w : World} {p gs go : Nat} {S : RSt}
/-- an object's field's cell -/
theorem RefAt.cObj (h : RefM w p gs go S) {i : Nat} (hi : i < 32) : ∃ A cp, (∀ j v, (objRow (S.ob i) (.slice A (S.ob i).queue.length cp))[j]? = some v → w.cell? ⟨go, i * 32 + j, none⟩ = some v) ∧ RowN w A ItT irow' 1 (S.ob i).queue := h.obj hi
theorem ris_any (h : RefM w p gs go S) (i k : Int) : Calls Try.prog 23 #[.pointer (some ⟨p, 0, none⟩), .int .i64 i, .int .i64 k] w fun e w' => e = .returned (.bool (isO S i k)) ∧ w = w' := by
  by_cases h0 : i < 0
  · have e : isO S i k = false := by simp [isO]; omega
    rw [e]
    clear e
    go_enter Try.func23, Try.ntmps23
    go_wp2
    go_ret
    exact ⟨rfl, rfl⟩
  by_cases h1 : 31 < i
  · have e : isO S i k = false := by simp [isO]; omega
    rw [e]
    clear e
    go_enter Try.func23, Try.ntmps23
    go_wp2
    go_ret
    exact ⟨rfl, rfl⟩
  obtain ⟨n, rfl⟩ : ∃ n : Nat, i = n := ⟨i.toNat, by omega⟩
  have hn : n < 32 := by omega
  have hn0 : (0 : Int) ≤ (n : Int) := by omega
  have hn9 : (n : Int) < 32 := by omega
  obtain ⟨co, c1⟩ := h.cObjs
  obtain ⟨A, cp, hrow, -⟩ := h.cObj hn
  have r0 := hrow 0 _ rfl
  rw [Nat.add_zero] at r0
  have e : isO S n k = ((S.ob n).kind == k) := by
    unfold isO
    by_cases hk : (S.ob n).kind = k
    · rw [hk]; simp; omega
    · simp [hk]
  rw [e]
  clear e hrow
  go_enter Try.func23, Try.ntmps23
  go_wp2
  go_ret
  exact ⟨rfl, rfl⟩
theorem ris_is (h : RefM w p gs go S) {i k : Int} {q : Bool} (e : isO S i k = q) : Calls Try.prog 23 #[.pointer (some ⟨p, 0, none⟩), .int .i64 i, .int .i64 k] w fun e w' => e = .returned (.bool q) ∧ w = w' := e ▸ ris_any h i k
end
end Go.Proofs.Ytihipcbhfjpgbaa
/- 738 words of one's own, as they are made (layers 9 and up). -/
namespace Go.Proofs.Ytihipcbhfjpgbaa
open Go.RowKit
abbrev PwT : TypeId := 27
theorem MemP.blkG {g n : Nat} {w : World} {L : List Int} (h : MemP g n UT w L) : ∃ cur, Blk w g UT cur := by
  obtain ⟨cur, hb, -⟩ := h.row
  exact ⟨cur, hb⟩
end Go.Proofs.Ytihipcbhfjpgbaa
/- What below of package lay answers (layer 9): whether a number is 0 to one less than another one. -/
namespace Go.Proofs.Ytihipcbhfjpgbaa
open Go.RowKit
theorem below_any (n m : Int) (w : World) : Calls Try.prog 27 #[.int .i64 n, .int .i64 m] w fun e w' => e = .returned (.bool (belowB n m)) ∧ w' = w := by
  go_enter Try.func27, Try.ntmps27
  go_wp2
  all_goals go_ret
  all_goals exact ⟨by simp [belowB, *] <;> omega, rfl⟩
theorem below_is {n m : Int} {q : Bool} (h : belowB n m = q) (w : World) : Calls Try.prog 27 #[.int .i64 n, .int .i64 m] w fun e w' => e = .returned (.bool q) ∧ w' = w := h ▸ below_any n m w
end Go.Proofs.Ytihipcbhfjpgbaa
