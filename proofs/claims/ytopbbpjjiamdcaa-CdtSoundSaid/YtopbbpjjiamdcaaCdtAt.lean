/- Plain words and the document's state side by side in memory (layer 10): what a call of the one leaves of the other. -/
import Derived.Test.YtopbbpjjiamdcaaCdtUp
import Derived.Test.YtopbbpjjiamdcaaCdtAbove
import Derived.Test.YtopbbpjjiamdcaaRefSame
namespace Go.Proofs.Ytopbbpjjiamdcaa
open Go.RowKit
section
variable {w w' w0 : World} {g p gs go n k : Nat} {L L' : List Int} {S S' : RSt} {a b c : Int}
theorem MemP.blk (h : MemP g n UT w L) : ∃ cur, Blk w g UT cur := by
  obtain ⟨cur, hb, -⟩ := h.row
  exact ⟨cur, hb⟩
theorem RefAt.blkS (h : RefM w p gs go S) : ∃ cur, Blk w gs SlT cur := by obtain ⟨-, ⟨cur, h2, -⟩, -⟩ := h; exact ⟨cur, h2⟩
theorem apart_ref (h : RefM w p gs go S) (hm : MemP g n UT w L) (ho : Only [g] w w') : RefM w' p gs go S := by
  obtain ⟨cur, hb⟩ := hm.blk
  obtain ⟨⟨cs, co, h1⟩, ⟨cs', h2, -⟩, ⟨co', h3, -⟩⟩ := id h
  refine h.only ho ?_ ?_ ?_ ?_
  · intro e; simp at e; subst e; exact absurd (hb.uniq h1).1 (by decide)
  · intro e; simp at e; subst e; exact absurd (hb.uniq h2).1 (by decide)
  · intro e; simp at e; subst e; exact absurd (hb.uniq h3).1 (by decide)
  · intro k cur' hk e; simp at e; subst e; exact absurd (hb.uniq hk).1 (by decide)
theorem apart_mem (hm : MemP g n UT w L) (h : RefM w p gs go S) (ho : Only [gs] w w') : MemP g n UT w' L := by
  obtain ⟨cur, hb⟩ := hm.blk
  obtain ⟨cur', hc⟩ := h.blkS
  exact hm.only ho (fun e => by simp at e; subst e; exact absurd (hb.uniq hc).1 (by decide))
abbrev DT : TypeId := 29
abbrev d3 (a b c : Int) : Array Value := #[.int .i64 a, .int .i64 b, .int .i64 c]
/-- what a law of layer 10 has made: words, a state, one and the same tree -/
structure Duo (w0 w : World) (p gs go g : Nat) (L : List Int) (S : RSt) : Prop where
  mem : MemP g 738 UT w L
  ref : RefM w p gs go S
  cur : Cur L S
  only : Only [] w0 w
  ng : w0.heap.size ≤ g
  ns : w0.heap.size ≤ gs
theorem Duo.only0 (h : Duo w0 w p gs go g L S) (ho : Only [] w w') : Duo w0 w' p gs go g L S := ⟨h.mem.only ho (by simp), h.ref.only0 ho, h.cur, h.only.trans ho, h.ng, h.ns⟩
theorem Duo.read (h : Duo w0 w p gs go g L S) (hm : MemP g 738 UT w' L) (ho : Only [g] w w') : Duo w0 w' p gs go g L S :=
  ⟨hm, apart_ref h.ref h.mem ho, h.cur, h.only.then ho (fun x hx => .inr (by have := h.ng; simp at hx; omega)), h.ng, h.ns⟩
theorem Duo.both {w1 w2 : World} (h : Duo w0 w p gs go g L S) (hm : MemP g 738 UT w1 L') (ho : Only [g] w w1) (hr : RefM w1 p gs go S → RefM w2 p gs go S' ∧ Only [gs] w1 w2) (hc : Cur L' S') : Duo w0 w2 p gs go g L' S' := by
  have h1 := apart_ref h.ref h.mem ho
  obtain ⟨h2, ho2⟩ := hr h1
  exact ⟨apart_mem hm h1 ho2, h2, hc, (h.only.then ho (fun x hx => .inr (by have := h.ng; simp at hx; omega))).then ho2 (fun x hx => .inr (by have := h.ns; simp at hx; omega)), h.ng, h.ns⟩
/-- a block of three cells of a deed is neither -/
theorem Duo.deed (h : Duo w0 w p gs go g L S) (hb : Blk w k DT (d3 a b c)) (ho : Only [g] w w') : Blk w' k DT (d3 a b c) := by
  obtain ⟨cur, hg⟩ := h.mem.blk
  exact ho.blk hb (fun e => by simp at e; subst e; exact absurd (hg.uniq hb).1 (by decide))
theorem Duo.deedS (h : RefM w p gs go S) (hb : Blk w k DT (d3 a b c)) (ho : Only [gs] w w') : Blk w' k DT (d3 a b c) := by
  obtain ⟨cur, hg⟩ := h.blkS
  exact ho.blk hb (fun e => by simp at e; subst e; exact absurd (hg.uniq hb).1 (by decide))
theorem d3_cells (hb : Blk w k DT (d3 a b c)) : w.cell? ⟨k, 0, none⟩ = some (.int .i64 a) ∧ w.cell? ⟨k, 1, none⟩ = some (.int .i64 b) ∧ w.cell? ⟨k, 2, none⟩ = some (.int .i64 c) := ⟨hb.cell 0, hb.cell 1, hb.cell 2⟩
/-- both are asked for -/
theorem Duo.link {w1 w2 : World} (h : Duo w0 w p gs go g L S) (x y : Int) (hm : MemP g 738 UT w1 (linkL L x y)) (ho : Only [g] w w1) (hr : RefM w2 p gs go (linkS S x y)) (ho2 : Only [gs] w1 w2) : Duo w0 w2 p gs go g (linkL L x y) (linkS S x y) :=
  h.both hm ho (fun _ => ⟨hr, ho2⟩) (h.cur.link x y).2
theorem Duo.unlink {w1 w2 : World} (h : Duo w0 w p gs go g L S) (x : Int) (hm : MemP g 738 UT w1 (unlinkL L x)) (ho : Only [g] w w1) (hr : RefM w2 p gs go (unlinkS S x)) (ho2 : Only [gs] w1 w2) : Duo w0 w2 p gs go g (unlinkL L x) (unlinkS S x) :=
  h.both hm ho (fun _ => ⟨hr, ho2⟩) (h.cur.unlink x).2
theorem Duo.replace {w1 w2 : World} (h : Duo w0 w p gs go g L S) (x y : Int) (hm : MemP g 738 UT w1 (replaceL L x y)) (ho : Only [g] w w1) (hr : RefM w2 p gs go (replaceS S x y)) (ho2 : Only [gs] w1 w2) : Duo w0 w2 p gs go g (replaceL L x y) (replaceS S x y) :=
  h.both hm ho (fun _ => ⟨hr, ho2⟩) (h.cur.replace x y).2
end
/-- a law's world: words and state, and the deed at hand -/
structure Held (w0 : World) (p gs go g : Nat) (L : List Int) (S : RSt) (n0 : Nat) (dw da db : Int) (w : World) : Prop where
  duo : Duo w0 w p gs go g L S
  deed : Blk w n0 DT (d3 dw da db)
section
variable {w0 w w' : World} {p gs go g n0 : Nat} {L : List Int} {S : RSt} {dw da db : Int}
theorem Held.only0 (h : Held w0 p gs go g L S n0 dw da db w) (ho : Only [] w w') : Held w0 p gs go g L S n0 dw da db w' := ⟨h.duo.only0 ho, ho.blk h.deed (by simp)⟩
theorem Held.drew (h : Held w0 p gs go g L S n0 dw da db w) : Held w0 p gs go g L S n0 dw da db w.drew := h.only0 ((Only.refl [] w).drewN 1)
theorem Held.read (h : Held w0 p gs go g L S n0 dw da db w) (hm : MemP g 738 UT w' L) (ho : Only [g] w w') : Held w0 p gs go g L S n0 dw da db w' := ⟨h.duo.read hm ho, h.duo.deed h.deed ho⟩
theorem Held.one (h : Held w0 p gs go g L S n0 dw da db w) : Held w0 p gs go g L S n0 dw da db w ∧ w.cell? ⟨n0, 1, none⟩ = some (.int .i64 da) := ⟨h, h.deed.cell 1⟩
end
/-- the cells that the laws read of a state and a deed: a slot's parent, another one's kids -/
structure Cells2 (p gs n0 a b cs : Nat) (A : Option Addr) (m cp : Nat) (pr : Int) (w : World) : Prop where
  c0 : w.cell? ⟨p, 0, none⟩ = some (.slice (some ⟨gs, 0, none⟩) 96 cs)
  c1 : w.cell? ⟨gs, a * 8 + 6, none⟩ = some (.int .i64 pr)
  c2 : w.cell? ⟨gs, b * 8 + 7, none⟩ = some (.slice A m cp)
  c3 : w.cell? ⟨n0, 1, none⟩ = some (.int .i64 a)
  c4 : w.cell? ⟨n0, 2, none⟩ = some (.int .i64 b)
section
variable {w0 w w' : World} {p gs go g n0 a b cs m cp : Nat} {A : Option Addr} {L : List Int} {S : RSt} {dw pr : Int}
theorem Held.cells2 (h : Held w0 p gs go g L S n0 dw a b w) (ha : a < 96) (hb : b < 96) : ∃ cs A cp, Cells2 p gs n0 a b cs A (S.kids b).length cp (S.par a) w ∧ RowN w A ItT irow' 1 (S.kids b) := by
  obtain ⟨cs, c0⟩ := h.duo.ref.cSlots
  obtain ⟨A, cp, c2, hr⟩ := h.duo.ref.cKids hb
  exact ⟨cs, A, cp, ⟨c0, h.duo.ref.cPar ha, c2, h.deed.cell 1, h.deed.cell 2⟩, hr⟩
theorem Held.apart (h : Held w0 p gs go g L S n0 dw a b w) : p ≠ g ∧ gs ≠ g ∧ n0 ≠ g := by
  obtain ⟨cur, hg⟩ := h.duo.mem.blk
  obtain ⟨⟨cs, co, h1⟩, ⟨cs', h2, -⟩, -⟩ := id h.duo.ref
  exact ⟨h1.ne_ hg (by decide), h2.ne_ hg (by decide), h.deed.ne_ hg (by decide)⟩
theorem Cells2.only (c : Cells2 p gs n0 a b cs A m cp pr w) (h : Held w0 p gs go g L S n0 dw a b w) (ho : Only [g] w w') : Cells2 p gs n0 a b cs A m cp pr w' := by
  obtain ⟨h1, h2, h3⟩ := h.apart
  have lp := h.duo.ref.ltP
  have ls := h.duo.ref.ltS
  have ln := h.deed.lt
  exact ⟨(ho.cell (p := ⟨p, 0, none⟩) lp (by simpa using h1)).trans c.c0, (ho.cell (p := ⟨gs, _, none⟩) ls (by simpa using h2)).trans c.c1, (ho.cell (p := ⟨gs, _, none⟩) ls (by simpa using h2)).trans c.c2,
    (ho.cell (p := ⟨n0, 1, none⟩) ln (by simpa using h3)).trans c.c3, (ho.cell (p := ⟨n0, 2, none⟩) ln (by simpa using h3)).trans c.c4⟩
theorem Cells2.only0 (c : Cells2 p gs n0 a b cs A m cp pr w) (h : Held w0 p gs go g L S n0 dw a b w) (ho : Only [] w w') : Cells2 p gs n0 a b cs A m cp pr w' := c.only h (ho.more (fun _ _ hx => absurd hx List.not_mem_nil))
theorem Cells2.all (c : Cells2 p gs n0 a b cs A m cp pr w) (h : Held w0 p gs go g L S n0 dw a b w) : (Held w0 p gs go g L S n0 dw a b w ∧ Cells2 p gs n0 a b cs A m cp pr w) ∧ w.cell? ⟨p, 0, none⟩ = some (.slice (some ⟨gs, 0, none⟩) 96 cs) ∧ w.cell? ⟨gs, a * 8 + 6, none⟩ = some (.int .i64 pr) ∧ w.cell? ⟨gs, b * 8 + 7, none⟩ = some (.slice A m cp) ∧ w.cell? ⟨n0, 1, none⟩ = some (.int .i64 a) ∧ w.cell? ⟨n0, 2, none⟩ = some (.int .i64 b) := ⟨⟨h, c⟩, c.c0, c.c1, c.c2, c.c3, c.c4⟩
end
/-- Same of like words -/
theorem same_yes {w : World} {A B : Option Addr} {L : List Int} (cp cq : Nat) (hl : L.length = 738) (hA : Wds w A L) (hB : Wds w B L) :
    Calls Try.prog 16 #[.slice A 738 cp, .slice B 738 cq] w fun e w' => e = .returned (.bool true) ∧ Only [] w w' := by
  have h := same_any cp cq hA hB (by omega)
  rw [hl, decide_eq_true rfl] at h
  exact h
/-- the document's words of a tree -/
theorem words_is {w : World} {p gs go : Nat} {L : List Int} {S : RSt} (h : RefM w p gs go S) (c : Cur L S) :
    Calls Try.prog 17 #[.pointer (some ⟨p, 0, none⟩)] w fun e w' => e = .returned (.slice (some ⟨w.heap.size, 0, none⟩) 738 738) ∧ MemP w.heap.size 738 UT w' L ∧ Only [] w w' :=
  (rwords_any h c.fit c.short c.bare.ob).mono fun e w' ⟨M, he, hm, hM, ho⟩ => by
    have : M = L := by rw [hM, c.words]; rfl
    subst this
    exact ⟨he, hm, ho⟩
end Go.Proofs.Ytopbbpjjiamdcaa
