/- The boot state of the document (layers 11 to 22), as mathematics: step by step, as it is made; what it is like. -/
import Derived.Test.YtihipcbhfjpgbaaRefPut
import Derived.Test.YtihipcbhfjpgbaaJ3
import Derived.Test.YtihipcbhfjpgbaaJ1
import Derived.Test.YtihipcbhfjpgbaaTreeM
namespace Go.Proofs.Ytihipcbhfjpgbaa
open Go.RowKit
def RSt.putO (S : RSt) (i : Int) (x : RObj) : RSt := { S with ob := setF S.ob i x }
def RSt.putC (S : RSt) (i : Int) (c : Cp) : RSt := { S with cap := setF S.cap i c }
/-- a field of an object -/
def RSt.upO (S : RSt) (i : Int) (f : RObj → RObj) : RSt := S.putO i (f (S.ob i))
/-- no slot is anywhere's kid, no object has a queue, numbers are small -/
structure RSt.Plainly (S : RSt) : Prop where
  cap : ∀ i, (S.cap i).Small
  par : S.par = fun _ => -1
  kids : S.kids = fun _ => []
  ob : ∀ i, (S.ob i).FitO
  bare : ∀ i, (S.ob i).queue = []
theorem zeroC_small : Cp.zero.Small := ⟨by decide, by decide, by decide, by decide, by decide, by decide, by decide, by decide, by decide, by decide, by decide, by decide⟩
theorem pg4 {x : RObj} (a b : Int) (h0 : a ≤ x.p0 ∧ x.p0 ≤ b) (h1 : a ≤ x.p1 ∧ x.p1 ≤ b) (h2 : a ≤ x.p2 ∧ x.p2 ≤ b) (h3 : a ≤ x.p3 ∧ x.p3 ≤ b) : ∀ p, p < 4 → a ≤ x.pg p ∧ x.pg p ≤ b
  | 0, _ => h0
  | 1, _ => h1
  | 2, _ => h2
  | 3, _ => h3
theorem rt4 {x : RObj} (a b : Int) (h0 : a ≤ x.r0 ∧ x.r0 ≤ b) (h1 : a ≤ x.r1 ∧ x.r1 ≤ b) (h2 : a ≤ x.r2 ∧ x.r2 ≤ b) (h3 : a ≤ x.r3 ∧ x.r3 ≤ b) : ∀ p, p < 4 → a ≤ x.rt p ∧ x.rt p ≤ b
  | 0, _ => h0
  | 1, _ => h1
  | 2, _ => h2
  | 3, _ => h3
theorem z40 : (0 : Int) ≤ 0 ∧ (0 : Int) ≤ 1099511627776 := by decide
theorem m40 : (-1 : Int) ≤ -1 ∧ (-1 : Int) ≤ 1099511627776 := by decide
theorem fresh_fit {k : Int} (hk : 0 ≤ k ∧ k ≤ 8) : (RObj.fresh k).FitO where
  kind := ⟨hk.1, by show k ≤ _; omega⟩
  size := z40
  used := z40
  first := z40
  radix := z40
  wait := z40
  word := z40
  state := z40
  owing := m40
  badge := z40
  prio := z40
  on := m40
  owes := m40
  root := zeroC_small
  pg := pg4 _ _ m40 m40 m40 m40
  rt := rt4 _ _ z40 z40 z40 z40
  inn := m40
  page := z40
  bound := m40
  mask := z40
  qin := fun t ht => by simp [RObj.fresh] at ht
  qlen := Nat.zero_le _
section
variable {S : RSt} {i : Int} {x : RObj} {c : Cp}
theorem RSt.Plainly.putO (h : S.Plainly) (hx : x.FitO) (hq : x.queue = []) : (S.putO i x).Plainly where
  cap := h.cap
  par := h.par
  kids := h.kids
  ob := fun j => by
    by_cases e : j = i
    · simpa [RSt.putO, setF, e] using hx
    · simpa [RSt.putO, setF, e] using h.ob j
  bare := fun j => by
    by_cases e : j = i
    · simpa [RSt.putO, setF, e] using hq
    · simpa [RSt.putO, setF, e] using h.bare j
theorem RSt.Plainly.putC (h : S.Plainly) (hc : c.Small) : (S.putC i c).Plainly where
  cap := fun j => by
    by_cases e : j = i
    · simpa [RSt.putC, setF, e] using hc
    · simpa [RSt.putC, setF, e] using h.cap j
  par := h.par
  kids := h.kids
  ob := h.ob
  bare := h.bare
theorem RSt.Plainly.upO (h : S.Plainly) {f : RObj → RObj} (hf : (f (S.ob i)).FitO) (hq : (f (S.ob i)).queue = (S.ob i).queue) : (S.upO i f).Plainly := h.putO hf (by rw [hq, h.bare])
theorem new_plainly : RSt.new.Plainly := ⟨fun _ => zeroC_small, rfl, rfl, fun _ => fresh_fit (by decide), fun _ => rfl⟩
variable {t : Nat}
theorem RSt.Plainly.fitG (h : S.Plainly) (hn : U64 S.ns) (ho : U64 S.no) : S.FitG where
  fit := ⟨fun i _ => h.cap i, fun i _ => by rw [h.par]; exact ⟨Int.le_refl _, show (-1 : Int) < 96 by decide⟩, fun i _ x hx => by rw [h.kids] at hx; simp at hx, hn, ho⟩
  short := fun i => by rw [h.kids]; simp
  ob := fun i _ => h.ob i
theorem RSt.Plainly.tree (h : S.Plainly) : Tree S.par S.kids := by
  rw [h.par, h.kids]
  exact ⟨fun _ _ => List.nodup_nil, fun p k hp => ⟨fun hm => by simp at hm, fun e => by have := hp.1; omega⟩, fun _ _ => .inl rfl⟩
end
end Go.Proofs.Ytihipcbhfjpgbaa
/- Capabilities made of others (layer 12): what the document's Derive, Move, Delete, One come to, as mathematics. -/
namespace Go.Proofs.Ytihipcbhfjpgbaa
open Go.RowKit
/-- a capability comes below another one -/
def belowS (S : RSt) (f t : Int) (c : Cp) : RSt := if linkN S t f = 0 then (linkS S t f).putC t c else S
/-- what the program's Delete tells (the document's own answer in the statements, rdelN in RefDel, tells 0 of a slot without a capability: see REPORT) -/
def delN (S : RSt) (i : Int) : Int := if slotOk i = false ∨ (S.cap i).kind = 0 then 2 else if S.kids i ≠ [] then 9 else 0
def delS (S : RSt) (i : Int) : RSt := if delN S i = 0 then (unlinkS S i).putC i Cp.zero else S
def oneS (S : RSt) (i : Int) : RSt := if leafS S i < 0 then S else if leafS S i = i then S else delS S (leafS S i)
end Go.Proofs.Ytihipcbhfjpgbaa
/- What package cdt does to any view, as mathematics (layer 10): what a slot's field tells, links, kids. No dump is read here. -/
namespace Go.Proofs.Ytihipcbhfjpgbaa
open Go.RowKit
/-- the slot that a word tells, -1: none -/
def toldI (w : Int) : Int := if 96 < w then -1 else w - 1
end Go.Proofs.Ytihipcbhfjpgbaa
/- What package cdt's calls come to on plain words (layer 10), as mathematics. No dump is read here. -/
namespace Go.Proofs.Ytihipcbhfjpgbaa
open Go.RowKit
section
variable {L : List Int} {i j f n k p a b c x : Int}
def toldL (L : List Int) (i f : Int) : Int := if slotB i f = true then toldI (atL L (5 * i + f)) else -1
def tellL (L : List Int) (i f n : Int) : List Int := if slotB i f = true then setL L (5 * i + f) (n + 1) else L
theorem tellL_len : (tellL L i f n).length = L.length := by
  unfold tellL
  split
  · exact setL_length _ _ _
  · rfl
theorem atL_tellL (hl : L.length = 738) (h0 : 0 ≤ f) (h5 : f < 5) : atL (tellL L i f n) j = if (0 ≤ i ∧ i < 96) ∧ j = 5 * i + f then n + 1 else atL L j := by
  unfold tellL
  by_cases h : slotB i f = true
  · have hi := slotB_yes.1 h
    rw [if_pos h, atL_setL, hl]
    have hb : hasB 738 (5 * i + f) = true := hasB_yes.2 (by omega)
    by_cases e : j = 5 * i + f
    · rw [if_pos ⟨hb, e⟩, if_pos ⟨⟨hi.1, hi.2.1⟩, e⟩]
    · rw [if_neg (fun h => e h.2), if_neg (fun h => e h.2)]
  · rw [if_neg h, if_neg]
    intro hh
    exact h (slotB_yes.2 ⟨hh.1.1, hh.1.2, h0, h5⟩)
def standL (L : List Int) (i a b c : Int) : List Int := tellL (tellL (tellL L i 1 a) i 3 b) i 4 c
def placeL (L : List Int) (i : Int) : Int × Int × Int := if toldL L i 1 = -1 then (-1, -1, -1) else (toldL L i 1, toldL L i 3, toldL L i 4)
def besideL (L : List Int) (p n q nx pv : Int) : List Int := tellL (if q = -1 then tellL L p 2 nx else tellL L q 3 nx) n 4 pv
/-- the kids from one on, so many at most -/
def kidsN (L : List Int) : Nat → Int → List Int
  | 0, _ => []
  | n + 1, k => if k = -1 then [] else k :: kidsN L n (toldL L k 3)
def kidsL (L : List Int) (i : Int) : List Int := kidsN L 96 (toldL L i 2)
def downL (L : List Int) (b : Int) (l : List Int) : List Int := l.foldl (fun L k => tellL L k 1 b) L
theorem downL_len {b : Int} : ∀ (l : List Int) (L : List Int), (downL L b l).length = L.length := by
  intro l
  induction l with
  | nil => intro L; rfl
  | cons k l ih => intro L; rw [show downL L b (k :: l) = downL (tellL L k 1 b) b l from rfl, ih, tellL_len]
theorem atL_downL {b : Int} : ∀ (l : List Int) (L : List Int), L.length = 738 → (∀ x, x ∈ l → InS x) → ((∃ x, x ∈ l ∧ j = 5 * x + 1) → atL (downL L b l) j = b + 1) ∧ ((∀ x, x ∈ l → j ≠ 5 * x + 1) → atL (downL L b l) j = atL L j) := by
  intro l
  induction l with
  | nil => intro L _ _; exact ⟨fun ⟨x, hx, _⟩ => by simp at hx, fun _ => rfl⟩
  | cons k l ih =>
    intro L hl hin
    have ih' := ih (tellL L k 1 b) (by rw [tellL_len]; exact hl) (fun x hx => hin x (by simp [hx]))
    rw [show downL L b (k :: l) = downL (tellL L k 1 b) b l from rfl]
    constructor
    · rintro ⟨x, hx, e⟩
      by_cases h : ∃ y, y ∈ l ∧ j = 5 * y + 1
      · exact ih'.1 h
      · rw [ih'.2 (fun y hy e => h ⟨y, hy, e⟩), atL_tellL hl (by omega) (by omega), if_pos]
        rcases List.mem_cons.1 hx with rfl | hx
        · exact ⟨hin x (by simp), e⟩
        · exact absurd ⟨x, hx, e⟩ h
    · intro h
      rw [ih'.2 (fun y hy => h y (by simp [hy])), atL_tellL hl (by omega) (by omega), if_neg (fun hh => h k (by simp) hh.2)]
def linkA (L : List Int) (k p : Int) : Int := if slotB k 0 = false ∨ slotB p 0 = false then 2 else if k = p then 10 else if toldL L k 1 ≠ -1 then 10 else 0
def linkL (L : List Int) (k p : Int) : List Int := if linkA L k p = 0 then standL (tellL (tellL L (toldL L p 2) 4 k) p 2 k) k p (toldL L p 2) (-1) else L
def unlinkA (k : Int) : Int := if slotB k 0 = false then 2 else 0
def unlinkL (L : List Int) (k : Int) : List Int := if slotB k 0 = true ∧ (placeL L k).1 ≠ -1 then standL (besideL L (placeL L k).1 (placeL L k).2.1 (placeL L k).2.2 (placeL L k).2.1 (placeL L k).2.2) k (-1) (-1) (-1) else L
def replaceA (L : List Int) (a b : Int) : Int := if slotB a 0 = false ∨ slotB b 0 = false then 2 else if a = b then 10 else if toldL L b 1 ≠ -1 then 10 else if toldL L b 2 ≠ -1 then 10 else 0
def replaceL (L : List Int) (a b : Int) : List Int :=
  if replaceA L a b = 0 then
    tellL (standL (tellL (standL (besideL (downL L b (kidsL L a)) (placeL L a).1 (placeL L a).2.1 (placeL L a).2.2 b b) b (placeL L a).1 (placeL L a).2.1 (placeL L a).2.2) b 2 (toldL L a 2)) a (-1) (-1) (-1)) a 2 (-1)
  else L
end
end Go.Proofs.Ytihipcbhfjpgbaa
