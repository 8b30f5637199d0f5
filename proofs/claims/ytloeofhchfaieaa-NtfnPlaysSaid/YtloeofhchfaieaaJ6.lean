/- Capabilities made of others (layer 12): what the document's Derive, Move, Delete, One come to, as mathematics. -/
import Derived.Test.YtloeofhchfaieaaJ4
import Derived.Test.YtloeofhchfaieaaBootM
import Derived.Test.YtloeofhchfaieaaJ2
import Derived.Test.YtloeofhchfaieaaTreeM
namespace Go.Proofs.Ytloeofhchfaieaa
open Go.RowKit
/-- a capability comes below another one -/
def belowS (S : RSt) (f t : Int) (c : Cp) : RSt := if linkN S t f = 0 then (linkS S t f).putC t c else S
/-- what the program's Delete tells (the document's own answer in the statements, rdelN in RefDel, tells 0 of a slot without a capability: see REPORT) -/
def delN (S : RSt) (i : Int) : Int := if slotOk i = false ∨ (S.cap i).kind = 0 then 2 else if S.kids i ≠ [] then 9 else 0
def delS (S : RSt) (i : Int) : RSt := if delN S i = 0 then (unlinkS S i).putC i Cp.zero else S
def oneS (S : RSt) (i : Int) : RSt := if leafS S i < 0 then S else if leafS S i = i then S else delS S (leafS S i)
end Go.Proofs.Ytloeofhchfaieaa
/- What package cdt does to any view, as mathematics (layer 10): what a slot's field tells, links, kids. No dump is read here. -/
namespace Go.Proofs.Ytloeofhchfaieaa
open Go.RowKit
/-- the slot that a word tells, -1: none -/
def toldI (w : Int) : Int := if 96 < w then -1 else w - 1
end Go.Proofs.Ytloeofhchfaieaa
/- What package cdt's calls come to on plain words (layer 10), as mathematics. No dump is read here. -/
namespace Go.Proofs.Ytloeofhchfaieaa
open Go.RowKit
section
variable {L : List Int} {i j f n k p a b c x : Int}
def toldL (L : List Int) (i f : Int) : Int := if slotB i f = true then toldI (atL L (5 * i + f)) else -1
def tellL (L : List Int) (i f n : Int) : List Int := if slotB i f = true then setL L (5 * i + f) (n + 1) else L
theorem tellL_len : (tellL L i f n).length = L.length := by
  unfold tellL
  split
  · exact setL_length _ _ _
  · rfl
theorem atL_tellL (hl : L.length = 738) (h0 : 0 ≤ f) (h5 : f < 5) : atL (tellL L i f n) j = if (0 ≤ i ∧ i < 96) ∧ j = 5 * i + f then n + 1 else atL L j := by
  unfold tellL
  by_cases h : slotB i f = true
  · have hi := slotB_yes.1 h
    rw [if_pos h, atL_setL, hl]
    have hb : hasB 738 (5 * i + f) = true := hasB_yes.2 (by omega)
    by_cases e : j = 5 * i + f
    · rw [if_pos ⟨hb, e⟩, if_pos ⟨⟨hi.1, hi.2.1⟩, e⟩]
    · rw [if_neg (fun h => e h.2), if_neg (fun h => e h.2)]
  · rw [if_neg h, if_neg]
    intro hh
    exact h (slotB_yes.2 ⟨hh.1.1, hh.1.2, h0, h5⟩)
def standL (L : List Int) (i a b c : Int) : List Int := tellL (tellL (tellL L i 1 a) i 3 b) i 4 c
def placeL (L : List Int) (i : Int) : Int × Int × Int := if toldL L i 1 = -1 then (-1, -1, -1) else (toldL L i 1, toldL L i 3, toldL L i 4)
def besideL (L : List Int) (p n q nx pv : Int) : List Int := tellL (if q = -1 then tellL L p 2 nx else tellL L q 3 nx) n 4 pv
/-- the kids from one on, so many at most -/
def kidsN (L : List Int) : Nat → Int → List Int
  | 0, _ => []
  | n + 1, k => if k = -1 then [] else k :: kidsN L n (toldL L k 3)
def kidsL (L : List Int) (i : Int) : List Int := kidsN L 96 (toldL L i 2)
def downL (L : List Int) (b : Int) (l : List Int) : List Int := l.foldl (fun L k => tellL L k 1 b) L
theorem downL_len {b : Int} : ∀ (l : List Int) (L : List Int), (downL L b l).length = L.length := by
  intro l
  induction l with
  | nil => intro L; rfl
  | cons k l ih => intro L; rw [show downL L b (k :: l) = downL (tellL L k 1 b) b l from rfl, ih, tellL_len]
theorem atL_downL {b : Int} : ∀ (l : List Int) (L : List Int), L.length = 738 → (∀ x, x ∈ l → InS x) → ((∃ x, x ∈ l ∧ j = 5 * x + 1) → atL (downL L b l) j = b + 1) ∧ ((∀ x, x ∈ l → j ≠ 5 * x + 1) → atL (downL L b l) j = atL L j) := by
  intro l
  induction l with
  | nil => intro L _ _; exact ⟨fun ⟨x, hx, _⟩ => by simp at hx, fun _ => rfl⟩
  | cons k l ih =>
    intro L hl hin
    have ih' := ih (tellL L k 1 b) (by rw [tellL_len]; exact hl) (fun x hx => hin x (by simp [hx]))
    rw [show downL L b (k :: l) = downL (tellL L k 1 b) b l from rfl]
    constructor
    · rintro ⟨x, hx, e⟩
      by_cases h : ∃ y, y ∈ l ∧ j = 5 * y + 1
      · exact ih'.1 h
      · rw [ih'.2 (fun y hy e => h ⟨y, hy, e⟩), atL_tellL hl (by omega) (by omega), if_pos]
        rcases List.mem_cons.1 hx with rfl | hx
        · exact ⟨hin x (by simp), e⟩
        · exact absurd ⟨x, hx, e⟩ h
    · intro h
      rw [ih'.2 (fun y hy => h y (by simp [hy])), atL_tellL hl (by omega) (by omega), if_neg (fun hh => h k (by simp) hh.2)]
def linkA (L : List Int) (k p : Int) : Int := if slotB k 0 = false ∨ slotB p 0 = false then 2 else if k = p then 10 else if toldL L k 1 ≠ -1 then 10 else 0
def linkL (L : List Int) (k p : Int) : List Int := if linkA L k p = 0 then standL (tellL (tellL L (toldL L p 2) 4 k) p 2 k) k p (toldL L p 2) (-1) else L
def unlinkA (k : Int) : Int := if slotB k 0 = false then 2 else 0
def unlinkL (L : List Int) (k : Int) : List Int := if slotB k 0 = true ∧ (placeL L k).1 ≠ -1 then standL (besideL L (placeL L k).1 (placeL L k).2.1 (placeL L k).2.2 (placeL L k).2.1 (placeL L k).2.2) k (-1) (-1) (-1) else L
def replaceA (L : List Int) (a b : Int) : Int := if slotB a 0 = false ∨ slotB b 0 = false then 2 else if a = b then 10 else if toldL L b 1 ≠ -1 then 10 else if toldL L b 2 ≠ -1 then 10 else 0
def replaceL (L : List Int) (a b : Int) : List Int :=
  if replaceA L a b = 0 then
    tellL (standL (tellL (standL (besideL (downL L b (kidsL L a)) (placeL L a).1 (placeL L a).2.1 (placeL L a).2.2 b b) b (placeL L a).1 (placeL L a).2.1 (placeL L a).2.2) b 2 (toldL L a 2)) a (-1) (-1) (-1)) a 2 (-1)
  else L
end
end Go.Proofs.Ytloeofhchfaieaa
