/- The store's mathematics (layer 1): cells, what each call does. No dump is read here. -/
import Derived.Test.YtbklkpbcdijgoaaMem
namespace Go.Proofs.Ytbklkpbcdijgoaa
open Go.RowKit

structure C where
  v : Int
  ver : Int
  mark : Int
structure St where
  lim : Int
  L : List C

def C.row (c : C) : List Value := [.int .u64 c.v, .int .u32 c.ver, .int .i64 c.mark]
theorem C.row_len (c : C) : c.row.length = 3 := rfl

def C.ok (lim : Int) (c : C) : Prop := 0 ≤ c.ver ∧ c.ver ≤ lim
structure St.ok (s : St) : Prop where
  lim0 : 1 ≤ s.lim
  lim1 : s.lim ≤ 4294967295
  len : s.L.length ≤ 1024
  cells : ∀ (i : Nat) (c : C), s.L[i]? = some c → c.ok s.lim

def St.get (s : St) (i : Int) : Option C := if 0 ≤ i then s.L[i.toNat]? else none
def St.put (s : St) (i : Int) (c : C) : St := { s with L := s.L.set i.toNat c }

def rsvI (s : St) (i ver mark : Int) : Int × St :=
  match s.get i with
  | none => (2, s)
  | some c => if mark < 1 then (1, s) else if c.mark ≠ 0 ∧ c.mark ≠ mark then (12, s) else if c.ver ≠ ver then (10, s) else (0, s.put i { c with mark := mark })
def relI (s : St) (i mark : Int) : Int × St :=
  match s.get i with
  | none => (2, s)
  | some c => if mark < 1 ∨ c.mark ≠ mark then (12, s) else (0, s.put i { c with mark := 0 })
def putI (s : St) (i mark v : Int) : Int × St :=
  match s.get i with
  | none => (2, s)
  | some c => if mark < 1 ∨ c.mark ≠ mark then (12, s) else if c.ver = s.lim then (11, s) else (0, s.put i ⟨v, c.ver + 1, 0⟩)
def setI (s : St) (i v : Int) : Int × St :=
  match s.get i with
  | none => (2, s)
  | some c => if c.mark ≠ 0 then (12, s) else (0, s.put i { c with v := v })

theorem St.get_nat (s : St) (k : Nat) : s.get (k : Int) = s.L[k]? := by simp [St.get]
theorem St.get_none {s : St} {i : Int} (h : i < 0 ∨ (s.L.length : Int) ≤ i) : s.get i = none := by
  unfold St.get
  split
  · rw [List.getElem?_eq_none]; omega
  · rfl
theorem St.get_some {s : St} {i : Int} (h : ¬ (i < 0 ∨ (s.L.length : Int) ≤ i)) : ∃ (k : Nat) (c : C), i = (k : Int) ∧ k < s.L.length ∧ s.L[k]? = some c := by
  refine ⟨i.toNat, s.L[i.toNat]'(by omega), by omega, by omega, List.getElem?_eq_getElem (by omega)⟩
end Go.Proofs.Ytbklkpbcdijgoaa
