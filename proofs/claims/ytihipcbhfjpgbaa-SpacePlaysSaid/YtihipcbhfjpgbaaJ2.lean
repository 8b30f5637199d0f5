/- The store's mathematics (layer 1): cells, what each call does. No dump is read here. -/
import Derived.Test.YtihipcbhfjpgbaaMem
namespace Go.Proofs.Ytihipcbhfjpgbaa
open Go.RowKit
structure C where
  v : Int
  ver : Int
  mark : Int
structure St where
  lim : Int
  L : List C
def C.row (c : C) : List Value := [.int .u64 c.v, .int .u32 c.ver, .int .i64 c.mark]
def C.ok (lim : Int) (c : C) : Prop := 0 ≤ c.ver ∧ c.ver ≤ lim
structure St.ok (s : St) : Prop where
  lim0 : 1 ≤ s.lim
  lim1 : s.lim ≤ 4294967295
  len : s.L.length ≤ 1024
  cells : ∀ (i : Nat) (c : C), s.L[i]? = some c → c.ok s.lim
def St.get (s : St) (i : Int) : Option C := if 0 ≤ i then s.L[i.toNat]? else none
def St.put (s : St) (i : Int) (c : C) : St := { s with L := s.L.set i.toNat c }
def relI (s : St) (i mark : Int) : Int × St :=
  match s.get i with
  | none => (2, s)
  | some c => if mark < 1 ∨ c.mark ≠ mark then (12, s) else (0, s.put i { c with mark := 0 })
def putI (s : St) (i mark v : Int) : Int × St :=
  match s.get i with
  | none => (2, s)
  | some c => if mark < 1 ∨ c.mark ≠ mark then (12, s) else if c.ver = s.lim then (11, s) else (0, s.put i ⟨v, c.ver + 1, 0⟩)
end Go.Proofs.Ytihipcbhfjpgbaa
/- Descriptors as mathematics (layer 7): entries, what a step does; how they lie. No dump is read here. -/
namespace Go.Proofs.Ytihipcbhfjpgbaa
open Go.RowKit
/-- an entry of a record -/
structure En where
  cell : Int
  ver : Int
  old : Int
  new : Int
  wr : Bool
def En.row (e : En) : List Value := [.int .i64 e.cell, .int .u32 e.ver, .int .u64 e.old, .int .u64 e.new, .bool e.wr]
/-- a descriptor: its mark, its entries, its status, how many were reserved, or released -/
structure De where
  mark : Int
  L : List En
  st : Int
  pos : Nat
structure De.ok (d : De) : Prop where
  mark : 1 ≤ d.mark
  st0 : 0 ≤ d.st
  st1 : d.st ≤ 3
  pos : d.pos ≤ d.L.length
  len : d.L.length ≤ 1000
/-- what an Open one does with its next entry -/
def rsvD (d : De) (e : En) (s : St) : Int × De × St :=
  match s.get e.cell with
  | none => (0, { d with st := 2, pos := 0 }, s)
  | some c =>
    if c.mark ≠ 0 ∧ c.mark ≠ d.mark then (c.mark, d, s)
    else if c.ver ≠ e.ver then (0, { d with st := 2, pos := 0 }, s)
    else if e.wr = true ∧ c.ver = s.lim then (0, { d with st := 3, pos := 0 }, s)
    else (0, { d with pos := d.pos + 1 }, s.put e.cell { c with mark := d.mark })
/-- what becomes of the store where an entry is released, or put -/
def relD (d : De) (e : En) (s : St) : St := if d.st = 1 ∧ e.wr = true then (putI s e.cell d.mark e.new).2 else (relI s e.cell d.mark).2
/-- a step: what it tells, the descriptor, the store -/
def stepD (d : De) (s : St) : Int × De × St :=
  if d.st = 0 then
    match d.L[d.pos]? with
    | none => (0, { d with st := 1, pos := 0 }, s)
    | some e => rsvD d e s
  else match d.L[d.pos]? with
    | none => (0, d, s)
    | some e => (0, { d with pos := d.pos + 1 }, relD d e s)
theorem De.ok.step {d : De} (h : d.ok) (s : St) : (stepD d s).2.1.ok := by
  obtain ⟨h1, h2, h3, h4, h5⟩ := h
  have hl : ∀ e, d.L[d.pos]? = some e → d.pos + 1 ≤ d.L.length := fun e he => (List.getElem?_eq_some_iff.1 he).1
  unfold stepD rsvD
  repeat' split
  all_goals first | exact ⟨h1, h2, h3, h4, h5⟩ | exact ⟨h1, h2, h3, hl _ (by assumption), h5⟩ | exact ⟨h1, by simp, by simp, by simp, h5⟩
/-- rows of n cells by f, wherever they lie, nil let in -/
def RowsAt {α : Type} (w : World) (A : Option Addr) (f : α → List Value) (n : Nat) (L : List α) : Prop :=
  ∀ (k : Nat) (a : α), L[k]? = some a → ∃ b off, A = some ⟨b, off, none⟩ ∧ b < w.heap.size ∧ ∀ (j : Nat) (v : Value), (f a)[j]? = some v → w.cell? ⟨b, off + k * n + j, none⟩ = some v
/-- rows of n cells by f at the head of a block of type t, nil let in -/
def RowN {α : Type} (w : World) (A : Option Addr) (t : TypeId) (f : α → List Value) (n : Nat) (L : List α) : Prop :=
  ∀ (k : Nat) (a : α), L[k]? = some a → ∃ g cur, A = some ⟨g, 0, none⟩ ∧ Blk w g t cur ∧ ∀ (j : Nat) (v : Value), (f a)[j]? = some v → cur[k * n + j]? = some v
section
variable {α : Type} {w w' : World} {A : Option Addr} {t : TypeId} {f : α → List Value} {n : Nat} {L : List α}
theorem RowsAt.only0 (h : RowsAt w A f n L) (ho : Only [] w w') : RowsAt w' A f n L := fun k a ha => by
  obtain ⟨b, off, hA, hb, hc⟩ := h k a ha
  exact ⟨b, off, hA, Nat.lt_of_lt_of_le hb ho.size, fun j v hv => (ho.cell (p := ⟨b, _, none⟩) hb (by simp)).trans (hc j v hv)⟩
theorem RowsAt.nil (w : World) (A : Option Addr) : RowsAt w A f n [] := fun k a ha => by simp at ha
theorem RowN.nil (w : World) (A : Option Addr) : RowN w A t f n [] := fun k a ha => by simp at ha
theorem RowN.only {S : List Nat} (h : RowN w A t f n L) (ho : Only S w w') (hS : ∀ g cur, Blk w g t cur → g ∉ S) : RowN w' A t f n L := fun k a ha => by
  obtain ⟨g, cur, hA, hb, hc⟩ := h k a ha
  exact ⟨g, cur, hA, ho.blk hb (hS g cur hb), hc⟩
theorem RowN.rows (h : RowN w A t f n L) : RowsAt w A f n L := fun k a ha => by
  obtain ⟨g, cur, hA, hb, hc⟩ := h k a ha
  exact ⟨g, 0, hA, hb.lt, fun j v hv => by rw [Nat.zero_add, hb.cell]; exact hc j v hv⟩
end
theorem Only.inl {a b : World} {p g : Nat} (h : Only [p] a b) : Only [p, g] a b := h.more fun k _ hk => by simp at hk; simp [hk]
theorem Only.inr {a b : World} {p g : Nat} (h : Only [g] a b) : Only [p, g] a b := h.more fun k _ hk => by simp at hk; simp [hk]
end Go.Proofs.Ytihipcbhfjpgbaa
