/- Plain words and a sound state of the document side by side in memory (layers 12 to 21): the words are the state's. -/
import Derived.Test.YtihipcbhfjpgbaaJ7
import Derived.Test.YtihipcbhfjpgbaaRefSame
import Derived.Test.YtihipcbhfjpgbaaJ9
namespace Go.Proofs.Ytihipcbhfjpgbaa
open Go.RowKit
section
variable {w w' w0 : World} {g p gs go n : Nat} {L : List Int} {S S' : RSt}
theorem RefAt.blkG (h : RefM w p gs go S) : (∃ cur, Blk w gs SlT cur) ∧ ∃ cur, Blk w go ObT cur := by obtain ⟨-, ⟨cur, h2, -⟩, ⟨cur', h3, -⟩⟩ := h; exact ⟨⟨cur, h2⟩, cur', h3⟩
theorem apartG (h : RefM w p gs go S) (hm : MemP g n UT w L) (ho : Only [g] w w') : RefM w' p gs go S := by
  obtain ⟨cur, hb⟩ := hm.blkG
  obtain ⟨⟨cs, co, h1⟩, ⟨cs', h2, -⟩, ⟨co', h3, -⟩⟩ := id h
  refine h.only ho ?_ ?_ ?_ ?_
  · intro e; simp at e; subst e; exact absurd (hb.uniq h1).1 (by decide)
  · intro e; simp at e; subst e; exact absurd (hb.uniq h2).1 (by decide)
  · intro e; simp at e; subst e; exact absurd (hb.uniq h3).1 (by decide)
  · intro k cur' hk e; simp at e; subst e; exact absurd (hb.uniq hk).1 (by decide)
/-- what a law has made: words, a state that is sound, the words the state's -/
structure Duet (w0 w : World) (p gs go g : Nat) (S : RSt) : Prop where
  mem : MemP g 738 UT w (wordsG S)
  ref : RefM w p gs go S
  sok : Sok S
  only : Only [] w0 w
  ng : w0.heap.size ≤ g
  np : w0.heap.size ≤ p
  ns : w0.heap.size ≤ gs
  no : w0.heap.size ≤ go
theorem Duet.only0 (h : Duet w0 w p gs go g S) (ho : Only [] w w') : Duet w0 w' p gs go g S := ⟨h.mem.only ho (by simp), h.ref.only0 ho, h.sok, h.only.trans ho, h.ng, h.np, h.ns, h.no⟩
theorem Duet.read (h : Duet w0 w p gs go g S) (hm : MemP g 738 UT w' (wordsG S)) (ho : Only [g] w w') : Duet w0 w' p gs go g S :=
  ⟨hm, apartG h.ref h.mem ho, h.sok, h.only.then ho (fun x hx => .inr (by have := h.ng; simp at hx; omega)), h.ng, h.np, h.ns, h.no⟩
/-- the words are apart from the state -/
theorem Duet.away (h : Duet w0 w p gs go g S) : g ∉ [p, gs, go] := by
  obtain ⟨cur, hb⟩ := h.mem.blkG
  obtain ⟨⟨cs, co, h1⟩, ⟨cs', h2, -⟩, ⟨co', h3, -⟩⟩ := id h.ref
  have e1 := hb.ne_ h1 (by decide)
  have e2 := hb.ne_ h2 (by decide)
  have e3 := hb.ne_ h3 (by decide)
  simp
  exact ⟨e1, e2, e3⟩
/-- a call on the words, then its like on the state -/
theorem Duet.both {w1 w2 : World} {F : List Nat} (h : Duet w0 w p gs go g S) (hm : MemP g 738 UT w1 (wordsG S')) (ho : Only [g] w w1) (hr : RefM w2 p gs go S') (ho2 : Only F w1 w2) (hF : ∀ x, x ∈ F → x ∈ [p, gs, go]) (hs : Sok S') : Duet w0 w2 p gs go g S' :=
  ⟨hm.only ho2 (fun e => h.away (hF g e)), hr, hs, (h.only.then ho (fun x hx => .inr (by have := h.ng; simp at hx; omega))).then ho2 (fun x hx => .inr (by
    have e := hF x hx
    have h1 := h.np
    have h2 := h.ns
    have h3 := h.no
    simp at e
    omega)), h.ng, h.np, h.ns, h.no⟩
/-- a row of one's own that is neither the words nor the state's slots -/
theorem Duet.keep {t : TypeId} {k : Nat} {cs : Array Value} (h : Duet w0 w p gs go g S) (ht : t ≠ UT) (hb : Blk w k t cs) (ho : Only [g] w w') : Blk w' k t cs := by
  obtain ⟨cur, hg⟩ := h.mem.blkG
  exact ho.blk hb (fun e => by simp at e; exact hb.ne_ hg ht e)
/-- Same of like words -/
theorem sameG_yes {A B : Option Addr} (cp cq : Nat) (hl : L.length = 738) (hA : Wds w A L) (hB : Wds w B L) :
    Calls Try.prog 13 #[.slice A 738 cp, .slice B 738 cq] w fun e w' => e = .returned (.bool true) ∧ Only [] w w' := by
  have h := same_any cp cq hA hB (by omega)
  rw [hl, decide_eq_true rfl] at h
  exact h
end
end Go.Proofs.Ytihipcbhfjpgbaa
