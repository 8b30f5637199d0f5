/- The store's mathematics (layer 1): cells, what each call does. No dump is read here. -/
import Derived.Test.YtlhcigpllkigdaaMem
namespace Go.Proofs.Ytlhcigpllkigdaa
open Go.RowKit

structure C where
  v : Int
  ver : Int
  mark : Int
structure St where
  lim : Int
  L : List C

def C.row (c : C) : List Value := [.int .u64 c.v, .int .u32 c.ver, .int .i64 c.mark]
theorem C.row_len (c : C) : c.row.length = 3 := rfl

def C.ok (lim : Int) (c : C) : Prop := 0 ≤ c.ver ∧ c.ver ≤ lim
structure St.ok (s : St) : Prop where
  lim0 : 1 ≤ s.lim
  lim1 : s.lim ≤ 4294967295
  len : s.L.length ≤ 1024
  cells : ∀ (i : Nat) (c : C), s.L[i]? = some c → c.ok s.lim

def St.get (s : St) (i : Int) : Option C := if 0 ≤ i then s.L[i.toNat]? else none
def St.put (s : St) (i : Int) (c : C) : St := { s with L := s.L.set i.toNat c }

def rsvI (s : St) (i ver mark : Int) : Int × St :=
  match s.get i with
  | none => (2, s)
  | some c => if mark < 1 then (1, s) else if c.mark ≠ 0 ∧ c.mark ≠ mark then (12, s) else if c.ver ≠ ver then (10, s) else (0, s.put i { c with mark := mark })
def relI (s : St) (i mark : Int) : Int × St :=
  match s.get i with
  | none => (2, s)
  | some c => if mark < 1 ∨ c.mark ≠ mark then (12, s) else (0, s.put i { c with mark := 0 })
def putI (s : St) (i mark v : Int) : Int × St :=
  match s.get i with
  | none => (2, s)
  | some c => if mark < 1 ∨ c.mark ≠ mark then (12, s) else if c.ver = s.lim then (11, s) else (0, s.put i ⟨v, c.ver + 1, 0⟩)
def setI (s : St) (i v : Int) : Int × St :=
  match s.get i with
  | none => (2, s)
  | some c => if c.mark ≠ 0 then (12, s) else (0, s.put i { c with v := v })

theorem St.get_nat (s : St) (k : Nat) : s.get (k : Int) = s.L[k]? := by simp [St.get]
theorem St.get_none {s : St} {i : Int} (h : i < 0 ∨ (s.L.length : Int) ≤ i) : s.get i = none := by
  unfold St.get
  split
  · rw [List.getElem?_eq_none]; omega
  · rfl
theorem St.get_some {s : St} {i : Int} (h : ¬ (i < 0 ∨ (s.L.length : Int) ≤ i)) : ∃ (k : Nat) (c : C), i = (k : Int) ∧ k < s.L.length ∧ s.L[k]? = some c := by
  refine ⟨i.toNat, s.L[i.toNat]'(by omega), by omega, by omega, List.getElem?_eq_getElem (by omega)⟩
end Go.Proofs.Ytlhcigpllkigdaa
/- Descriptors as mathematics (layer 7): entries, what a step does; how they lie. No dump is read here. -/
namespace Go.Proofs.Ytlhcigpllkigdaa
open Go.RowKit
/-- an entry of a record -/
structure En where
  cell : Int
  ver : Int
  old : Int
  new : Int
  wr : Bool
def En.row (e : En) : List Value := [.int .i64 e.cell, .int .u32 e.ver, .int .u64 e.old, .int .u64 e.new, .bool e.wr]
def En.rowR (e : En) : List Value := [.int .i64 e.cell, .int .u32 e.ver, .int .u64 e.new, .bool e.wr]
theorem En.row_len (e : En) : e.row.length = 5 := rfl
theorem En.rowR_len (e : En) : e.rowR.length = 4 := rfl
/-- a descriptor: its mark, its entries, its status, how many were reserved, or released -/
structure De where
  mark : Int
  L : List En
  st : Int
  pos : Nat
def De.over (d : De) : Bool := d.st != 0 && d.pos == d.L.length
structure De.ok (d : De) : Prop where
  mark : 1 ≤ d.mark
  st0 : 0 ≤ d.st
  st1 : d.st ≤ 3
  pos : d.pos ≤ d.L.length
  len : d.L.length ≤ 1000
/-- what an Open one does with its next entry -/
def rsvD (d : De) (e : En) (s : St) : Int × De × St :=
  match s.get e.cell with
  | none => (0, { d with st := 2, pos := 0 }, s)
  | some c =>
    if c.mark ≠ 0 ∧ c.mark ≠ d.mark then (c.mark, d, s)
    else if c.ver ≠ e.ver then (0, { d with st := 2, pos := 0 }, s)
    else if e.wr = true ∧ c.ver = s.lim then (0, { d with st := 3, pos := 0 }, s)
    else (0, { d with pos := d.pos + 1 }, s.put e.cell { c with mark := d.mark })
/-- what becomes of the store where an entry is released, or put -/
def relD (d : De) (e : En) (s : St) : St := if d.st = 1 ∧ e.wr = true then (putI s e.cell d.mark e.new).2 else (relI s e.cell d.mark).2
/-- a step: what it tells, the descriptor, the store -/
def stepD (d : De) (s : St) : Int × De × St :=
  if d.st = 0 then
    match d.L[d.pos]? with
    | none => (0, { d with st := 1, pos := 0 }, s)
    | some e => rsvD d e s
  else match d.L[d.pos]? with
    | none => (0, d, s)
    | some e => (0, { d with pos := d.pos + 1 }, relD d e s)
theorem stepD_mark (d : De) (s : St) : (stepD d s).2.1.mark = d.mark := by
  unfold stepD rsvD
  repeat' split
  all_goals rfl
theorem stepD_L (d : De) (s : St) : (stepD d s).2.1.L = d.L := by
  unfold stepD rsvD
  repeat' split
  all_goals rfl
theorem put_lim (s : St) (i : Int) (c : C) : (s.put i c).lim = s.lim := rfl
theorem put_len (s : St) (i : Int) (c : C) : (s.put i c).L.length = s.L.length := by simp [St.put]
theorem relI_len (s : St) (i m : Int) : (relI s i m).2.L.length = s.L.length := by
  unfold relI
  repeat' split
  all_goals simp [put_len]
theorem putI_len (s : St) (i m v : Int) : (putI s i m v).2.L.length = s.L.length := by
  unfold putI
  repeat' split
  all_goals simp [put_len]
theorem relI_lim (s : St) (i m : Int) : (relI s i m).2.lim = s.lim := by
  unfold relI
  repeat' split
  all_goals rfl
theorem putI_lim (s : St) (i m v : Int) : (putI s i m v).2.lim = s.lim := by
  unfold putI
  repeat' split
  all_goals rfl
theorem stepD_len (d : De) (s : St) : (stepD d s).2.2.L.length = s.L.length := by
  unfold stepD rsvD relD
  repeat' split
  all_goals simp [put_len, relI_len, putI_len]
theorem stepD_lim (d : De) (s : St) : (stepD d s).2.2.lim = s.lim := by
  unfold stepD rsvD relD
  repeat' split
  all_goals simp [put_lim, relI_lim, putI_lim]
theorem De.ok.step {d : De} (h : d.ok) (s : St) : (stepD d s).2.1.ok := by
  obtain ⟨h1, h2, h3, h4, h5⟩ := h
  have hl : ∀ e, d.L[d.pos]? = some e → d.pos + 1 ≤ d.L.length := fun e he => (List.getElem?_eq_some_iff.1 he).1
  unfold stepD rsvD
  repeat' split
  all_goals first | exact ⟨h1, h2, h3, h4, h5⟩ | exact ⟨h1, h2, h3, hl _ (by assumption), h5⟩ | exact ⟨h1, by simp, by simp, by simp, h5⟩

/-- rows of n cells by f, wherever they lie, nil let in -/
def RowsAt {α : Type} (w : World) (A : Option Addr) (f : α → List Value) (n : Nat) (L : List α) : Prop :=
  ∀ (k : Nat) (a : α), L[k]? = some a → ∃ b off, A = some ⟨b, off, none⟩ ∧ b < w.heap.size ∧ ∀ (j : Nat) (v : Value), (f a)[j]? = some v → w.cell? ⟨b, off + k * n + j, none⟩ = some v
/-- rows of n cells by f at the head of a block of type t, nil let in -/
def RowN {α : Type} (w : World) (A : Option Addr) (t : TypeId) (f : α → List Value) (n : Nat) (L : List α) : Prop :=
  ∀ (k : Nat) (a : α), L[k]? = some a → ∃ g cur, A = some ⟨g, 0, none⟩ ∧ Blk w g t cur ∧ ∀ (j : Nat) (v : Value), (f a)[j]? = some v → cur[k * n + j]? = some v
section
variable {α : Type} {w w' : World} {A : Option Addr} {t : TypeId} {f : α → List Value} {n : Nat} {L : List α}
theorem RowsAt.only0 (h : RowsAt w A f n L) (ho : Only [] w w') : RowsAt w' A f n L := fun k a ha => by
  obtain ⟨b, off, hA, hb, hc⟩ := h k a ha
  exact ⟨b, off, hA, Nat.lt_of_lt_of_le hb ho.size, fun j v hv => (ho.cell (p := ⟨b, _, none⟩) hb (by simp)).trans (hc j v hv)⟩
theorem RowsAt.nil (w : World) (A : Option Addr) : RowsAt w A f n [] := fun k a ha => by simp at ha
theorem RowN.nil (w : World) (A : Option Addr) : RowN w A t f n [] := fun k a ha => by simp at ha
theorem RowN.only {S : List Nat} (h : RowN w A t f n L) (ho : Only S w w') (hS : ∀ g cur, Blk w g t cur → g ∉ S) : RowN w' A t f n L := fun k a ha => by
  obtain ⟨g, cur, hA, hb, hc⟩ := h k a ha
  exact ⟨g, cur, hA, ho.blk hb (hS g cur hb), hc⟩
theorem RowN.rows (h : RowN w A t f n L) : RowsAt w A f n L := fun k a ha => by
  obtain ⟨g, cur, hA, hb, hc⟩ := h k a ha
  exact ⟨g, 0, hA, hb.lt, fun j v hv => by rw [Nat.zero_add, hb.cell]; exact hc j v hv⟩
theorem RowN.of_owns {base : Nat} {v : Value} (hf : ∀ a, (f a).length = n) (h : w.ownsRow base t n v L.length (L.flatMap f)) : ∃ (A : Option Addr) (cap : Nat), v = .slice A L.length cap ∧ RowN w A t f n L := by
  rcases h.2 with ⟨rfl, h0⟩ | ⟨g, cap, cur, rfl, hB, hg, _, _, _, ht⟩
  · exact ⟨none, 0, by rw [h0], fun j x hx => by have := (List.getElem?_eq_some_iff.1 hx).1; omega⟩
  · refine ⟨_, cap, rfl, fun k a ha => ⟨g, cur, rfl, hg, fun i u hu => ?_⟩⟩
    have hi : i < n := by rw [← hf a]; exact (List.getElem?_eq_some_iff.1 hu).1
    have hk := (List.getElem?_eq_some_iff.1 ha).1
    have e1 := flat_get (f := f) (L := L) hf k i hi
    rw [ha] at e1
    have e2 : (L.flatMap f)[k * n + i]? = (f a)[i]? := by simpa [flat] using e1
    have hlt : k * n + i < L.length * n := by
      have : (k + 1) * n ≤ L.length * n := Nat.mul_le_mul_right _ hk
      rw [Nat.succ_mul] at this
      omega
    rw [← ht, List.getElem?_take_of_lt hlt, Array.getElem?_toList, hu] at e2
    exact e2
end
/-- what neither a descriptor's block nor a store's cells are: a block of another type -/
theorem apart_of {w : World} {t t1 t2 : TypeId} {p g : Nat} {c1 c2 : Array Value} (h1 : Blk w p t1 c1) (h2 : Blk w g t2 c2) (n1 : t ≠ t1) (n2 : t ≠ t2) : ∀ x cur, Blk w x t cur → x ∉ [p, g] := fun x cur hx hm => by
  simp only [List.mem_cons, List.not_mem_nil, or_false] at hm
  rcases hm with rfl | rfl
  · exact n1 (hx.uniq h1).1
  · exact n2 (hx.uniq h2).1
theorem Only.inl {a b : World} {p g : Nat} (h : Only [p] a b) : Only [p, g] a b := h.more fun k _ hk => by simp at hk; simp [hk]
theorem Only.inr {a b : World} {p g : Nat} (h : Only [g] a b) : Only [p, g] a b := h.more fun k _ hk => by simp at hk; simp [hk]
theorem Only.in0 {a b : World} {S : List Nat} (h : Only [] a b) : Only S a b := h.more fun k _ hk => by simp at hk
/-- a descriptor lies at p (of type ty), its entries, rows of n cells by f, in a block of type et -/
structure DescAt (w : World) (ty et : TypeId) (f : En → List Value) (n : Nat) (p : Nat) (A : Option Addr) (cap : Nat) (d : De) : Prop where
  head : Blk w p ty #[.int .i64 d.mark, .slice A d.L.length cap, .int .i64 d.st, .int .i64 d.pos]
  ents : RowN w A et f n d.L
  ok : d.ok
section
variable {w w' : World} {ty et : TypeId} {f : En → List Value} {n p : Nat} {A : Option Addr} {cap : Nat} {d : De}
theorem DescAt.drewN (h : DescAt w ty et f n p A cap d) (k : Nat) : DescAt (w.drewN k) ty et f n p A cap d := ⟨h.head, h.ents, h.ok⟩
theorem DescAt.only {S : List Nat} (h : DescAt w ty et f n p A cap d) (ho : Only S w w') (hp : p ∉ S) (hS : ∀ g cur, Blk w g et cur → g ∉ S) : DescAt w' ty et f n p A cap d :=
  ⟨ho.blk h.head hp, h.ents.only ho hS, h.ok⟩
theorem DescAt.only0 (h : DescAt w ty et f n p A cap d) (ho : Only [] w w') : DescAt w' ty et f n p A cap d := h.only ho (by simp) (fun _ _ _ => by simp)
/-- one other block has turned, of another type -/
theorem DescAt.apart {g : Nat} {t : TypeId} {cs : Array Value} (h : DescAt w ty et f n p A cap d) (ho : Only [g] w w') (hb : Blk w g t cs) (h1 : ty ≠ t) (h2 : et ≠ t) : DescAt w' ty et f n p A cap d :=
  h.only ho (fun hm => by simp at hm; subst hm; exact h1 (h.head.uniq hb).1) (fun x cur hx hm => by simp at hm; subst hm; exact h2 (hx.uniq hb).1)
/-- two other blocks have turned -/
theorem DescAt.apart2 {g p' : Nat} {t t' : TypeId} {cs cs' : Array Value} (h : DescAt w ty et f n p A cap d) (ho : Only [p', g] w w') (hb : Blk w g t cs) (h1 : ty ≠ t) (h2 : et ≠ t) (hb' : Blk w p' t' cs') (hp : p ≠ p') (h3 : et ≠ t') : DescAt w' ty et f n p A cap d :=
  h.only ho (fun hm => by
    simp only [List.mem_cons, List.not_mem_nil, or_false] at hm
    rcases hm with e | rfl
    · exact hp e
    · exact h1 (h.head.uniq hb).1) (fun x cur hx hm => by
    simp only [List.mem_cons, List.not_mem_nil, or_false] at hm
    rcases hm with rfl | rfl
    · exact h3 (hx.uniq hb').1
    · exact h2 (hx.uniq hb).1)
theorem DescAt.c0 (h : DescAt w ty et f n p A cap d) : w.cell? ⟨p, 0, none⟩ = some (.int .i64 d.mark) := h.head.cell 0
theorem DescAt.c1 (h : DescAt w ty et f n p A cap d) : w.cell? ⟨p, 1, none⟩ = some (.slice A d.L.length cap) := h.head.cell 1
theorem DescAt.c2 (h : DescAt w ty et f n p A cap d) : w.cell? ⟨p, 2, none⟩ = some (.int .i64 d.st) := h.head.cell 2
theorem DescAt.c3 (h : DescAt w ty et f n p A cap d) : w.cell? ⟨p, 3, none⟩ = some (.int .i64 d.pos) := h.head.cell 3
/-- the status and the place, written -/
theorem DescAt.turn (h : DescAt w ty et f n p A cap d) (ho : Only [p] w w') (hne : et ≠ ty) {st : Int} {pos : Nat} (hh : Blk w' p ty #[.int .i64 d.mark, .slice A d.L.length cap, .int .i64 st, .int .i64 pos]) (hok : ({ d with st := st, pos := pos } : De).ok) :
    DescAt w' ty et f n p A cap { d with st := st, pos := pos } :=
  ⟨hh, h.ents.only ho (fun g cur hg hm => by simp at hm; subst hm; exact hne (hg.uniq h.head).1), hok⟩
end
end Go.Proofs.Ytlhcigpllkigdaa
