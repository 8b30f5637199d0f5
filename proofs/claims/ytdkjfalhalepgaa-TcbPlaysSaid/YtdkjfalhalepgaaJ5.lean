/- The boot state of the document (layers 11 to 22), as mathematics: step by step, as it is made; what it is like. -/
import Derived.Test.YtdkjfalhalepgaaJ4
import Derived.Test.YtdkjfalhalepgaaJ3
import Derived.Test.YtdkjfalhalepgaaJ1
import Derived.Test.YtdkjfalhalepgaaTreeM
namespace Go.Proofs.Ytdkjfalhalepgaa
open Go.RowKit
def RSt.putO (S : RSt) (i : Int) (x : RObj) : RSt := { S with ob := setF S.ob i x }
def RSt.putC (S : RSt) (i : Int) (c : Cp) : RSt := { S with cap := setF S.cap i c }
/-- the threads' root -/
def rootC (t : Int) : Cp := ⟨2, 7, t, 0, 0, 8⟩
def thrO (t : Int) : RObj := { RObj.fresh 5 with state := 1, root := rootC t }
/-- a capability with all rights -/
def fullC (kind obj : Int) : Cp := ⟨kind, 7, obj, 0, 0, 0⟩
/-- threads that are made -/
def bootT (t : Int) : Nat → RSt
  | 0 => RSt.new
  | k + 1 => ((bootT t k).putO (k : Int) (thrO t)).putC ((14 + k : Nat) : Int) (fullC 5 k)
def kindB : Nat → Int
  | 0 => 2
  | 1 => 2
  | 2 => 1
  | 3 => 3
  | 4 => 4
  | 5 => 8
  | 6 => 7
  | _ => 6
/-- the other objects -/
def bootK (t : Nat) : Nat → RSt
  | 0 => bootT t t
  | k + 1 => if 2 ≤ k then ((bootK t k).putO ((t + k : Nat) : Int) (RObj.fresh (kindB k))).putC ((6 + k : Nat) : Int) (fullC (kindB k) (t + k : Nat)) else (bootK t k).putO ((t + k : Nat) : Int) (RObj.fresh (kindB k))
/-- a field of an object -/
def RSt.upO (S : RSt) (i : Int) (f : RObj → RObj) : RSt := S.putO i (f (S.ob i))
def boot1 (t : Nat) : RSt := (bootK t 8).upO (t : Nat) fun x => { x with radix := 3 }
def boot2 (t : Nat) : RSt := (boot1 t).upO ((t + 1 : Nat) : Int) fun x => { x with first := 8 }
def boot3 (t : Nat) : RSt := (boot2 t).upO ((t + 1 : Nat) : Int) fun x => { x with radix := 5 }
def boot4 (t : Nat) : RSt := (boot3 t).upO ((t + 2 : Nat) : Int) fun x => { x with size := 200 }
def boot5 (t : Nat) : RSt := (boot4 t).putC 0 (fullC 2 (t + 1 : Nat))
def boot6 (t : Nat) : RSt := (boot5 t).putC 1 (rootC t)
def boot7 (t : Nat) : RSt := { boot6 t with ns := 40 }
def bootS (t : Nat) : RSt := { boot7 t with no := ((t + 8 : Nat) : Int) }
/-- no slot is anywhere's kid, no object has a queue, numbers are small -/
structure RSt.Plainly (S : RSt) : Prop where
  cap : ∀ i, (S.cap i).Small
  par : S.par = fun _ => -1
  kids : S.kids = fun _ => []
  ob : ∀ i, (S.ob i).FitO
  bare : ∀ i, (S.ob i).queue = []
theorem fullC_small {k o : Int} (hk : 0 ≤ k ∧ k ≤ 8) (ho : 0 ≤ o ∧ o ≤ 31) : (fullC k o).Small := ⟨hk.1, hk.2, by simp [fullC], by simp [fullC], ho.1, ho.2, by simp [fullC], by simp [fullC], by simp [fullC], by simp [fullC], by simp [fullC], by simp [fullC]⟩
theorem rootC_small {t : Int} (ho : 0 ≤ t ∧ t ≤ 31) : (rootC t).Small := ⟨by simp [rootC], by simp [rootC], by simp [rootC], by simp [rootC], ho.1, ho.2, by simp [rootC], by simp [rootC], by simp [rootC], by simp [rootC], by simp [rootC], by simp [rootC]⟩
theorem zeroC_small : Cp.zero.Small := ⟨by decide, by decide, by decide, by decide, by decide, by decide, by decide, by decide, by decide, by decide, by decide, by decide⟩
theorem pg4 {x : RObj} (a b : Int) (h0 : a ≤ x.p0 ∧ x.p0 ≤ b) (h1 : a ≤ x.p1 ∧ x.p1 ≤ b) (h2 : a ≤ x.p2 ∧ x.p2 ≤ b) (h3 : a ≤ x.p3 ∧ x.p3 ≤ b) : ∀ p, p < 4 → a ≤ x.pg p ∧ x.pg p ≤ b
  | 0, _ => h0
  | 1, _ => h1
  | 2, _ => h2
  | 3, _ => h3
theorem rt4 {x : RObj} (a b : Int) (h0 : a ≤ x.r0 ∧ x.r0 ≤ b) (h1 : a ≤ x.r1 ∧ x.r1 ≤ b) (h2 : a ≤ x.r2 ∧ x.r2 ≤ b) (h3 : a ≤ x.r3 ∧ x.r3 ≤ b) : ∀ p, p < 4 → a ≤ x.rt p ∧ x.rt p ≤ b
  | 0, _ => h0
  | 1, _ => h1
  | 2, _ => h2
  | 3, _ => h3
theorem z40 : (0 : Int) ≤ 0 ∧ (0 : Int) ≤ 1099511627776 := by decide
theorem m40 : (-1 : Int) ≤ -1 ∧ (-1 : Int) ≤ 1099511627776 := by decide
theorem fresh_fit {k : Int} (hk : 0 ≤ k ∧ k ≤ 8) : (RObj.fresh k).FitO where
  kind := ⟨hk.1, by show k ≤ _; omega⟩
  size := z40
  used := z40
  first := z40
  radix := z40
  wait := z40
  word := z40
  state := z40
  owing := m40
  badge := z40
  prio := z40
  on := m40
  owes := m40
  root := zeroC_small
  pg := pg4 _ _ m40 m40 m40 m40
  rt := rt4 _ _ z40 z40 z40 z40
  inn := m40
  page := z40
  bound := m40
  mask := z40
  qin := fun t ht => by simp [RObj.fresh] at ht
  qlen := Nat.zero_le _
theorem thrO_fit {t : Int} (ht : 0 ≤ t ∧ t ≤ 31) : (thrO t).FitO :=
  { fresh_fit (k := 5) (by decide) with
    state := ⟨show (0 : Int) ≤ 1 by decide, show (1 : Int) ≤ 1099511627776 by decide⟩
    root := rootC_small ht
    pg := pg4 _ _ m40 m40 m40 m40
    rt := rt4 _ _ z40 z40 z40 z40 }
section
variable {S : RSt} {i : Int} {x : RObj} {c : Cp}
theorem RSt.Plainly.putO (h : S.Plainly) (hx : x.FitO) (hq : x.queue = []) : (S.putO i x).Plainly where
  cap := h.cap
  par := h.par
  kids := h.kids
  ob := fun j => by
    by_cases e : j = i
    · simpa [RSt.putO, setF, e] using hx
    · simpa [RSt.putO, setF, e] using h.ob j
  bare := fun j => by
    by_cases e : j = i
    · simpa [RSt.putO, setF, e] using hq
    · simpa [RSt.putO, setF, e] using h.bare j
theorem RSt.Plainly.putC (h : S.Plainly) (hc : c.Small) : (S.putC i c).Plainly where
  cap := fun j => by
    by_cases e : j = i
    · simpa [RSt.putC, setF, e] using hc
    · simpa [RSt.putC, setF, e] using h.cap j
  par := h.par
  kids := h.kids
  ob := h.ob
  bare := h.bare
theorem RSt.Plainly.upO (h : S.Plainly) {f : RObj → RObj} (hf : (f (S.ob i)).FitO) (hq : (f (S.ob i)).queue = (S.ob i).queue) : (S.upO i f).Plainly := h.putO hf (by rw [hq, h.bare])
theorem new_plainly : RSt.new.Plainly := ⟨fun _ => zeroC_small, rfl, rfl, fun _ => fresh_fit (by decide), fun _ => rfl⟩
theorem kindB_rng (k : Nat) : 0 ≤ kindB k ∧ kindB k ≤ 8 := by
  unfold kindB
  split <;> decide
variable {t : Nat}
theorem bootT_plainly (ht : t ≤ 7) : ∀ k, k ≤ t → (bootT t k).Plainly := by
  intro k
  induction k with
  | zero => intro _; exact new_plainly
  | succ k ih => intro hk; exact ((ih (by omega)).putO (thrO_fit ⟨by omega, by omega⟩) rfl).putC (fullC_small (by decide) ⟨by omega, by omega⟩)
theorem bootK_plainly (ht : t ≤ 7) : ∀ k, k ≤ 8 → (bootK t k).Plainly := by
  intro k
  induction k with
  | zero => intro _; exact bootT_plainly ht t (Nat.le_refl _)
  | succ k ih =>
    intro hk
    have h1 := (ih (by omega)).putO (i := ((t + k : Nat) : Int)) (fresh_fit (kindB_rng k)) rfl
    unfold bootK
    split
    · exact h1.putC (fullC_small (kindB_rng k) ⟨by omega, by omega⟩)
    · exact h1
theorem RObj.FitO.radixed (h : x.FitO) {r : Int} (hr : 0 ≤ r ∧ r ≤ 1099511627776) : ({ x with radix := r } : RObj).FitO := { h with radix := hr, pg := h.pg, rt := h.rt }
theorem RObj.FitO.firsted (h : x.FitO) {r : Int} (hr : 0 ≤ r ∧ r ≤ 1099511627776) : ({ x with first := r } : RObj).FitO := { h with first := hr, pg := h.pg, rt := h.rt }
theorem RObj.FitO.sized (h : x.FitO) {r : Int} (hr : 0 ≤ r ∧ r ≤ 1099511627776) : ({ x with size := r } : RObj).FitO := { h with size := hr, pg := h.pg, rt := h.rt }
theorem boot_plainly (ht : t ≤ 7) : (bootS t).Plainly := by
  have h1 : (boot1 t).Plainly := (bootK_plainly ht 8 (Nat.le_refl _)).upO (((bootK_plainly ht 8 (Nat.le_refl _)).ob _).radixed (by decide)) rfl
  have h2 : (boot2 t).Plainly := h1.upO ((h1.ob _).firsted (by decide)) rfl
  have h3 : (boot3 t).Plainly := h2.upO ((h2.ob _).radixed (by decide)) rfl
  have h4 : (boot4 t).Plainly := h3.upO ((h3.ob _).sized (by decide)) rfl
  have h5 : (boot5 t).Plainly := h4.putC (fullC_small (by decide) ⟨by omega, by omega⟩)
  have h6 : (boot6 t).Plainly := h5.putC (rootC_small ⟨by omega, by omega⟩)
  exact ⟨h6.cap, h6.par, h6.kids, h6.ob, h6.bare⟩
theorem RSt.Plainly.fitG (h : S.Plainly) (hn : U64 S.ns) (ho : U64 S.no) : S.FitG where
  fit := ⟨fun i _ => h.cap i, fun i _ => by rw [h.par]; exact ⟨Int.le_refl _, show (-1 : Int) < 96 by decide⟩, fun i _ x hx => by rw [h.kids] at hx; simp at hx, hn, ho⟩
  short := fun i => by rw [h.kids]; simp
  ob := fun i _ => h.ob i
theorem RSt.Plainly.tree (h : S.Plainly) : Tree S.par S.kids := by
  rw [h.par, h.kids]
  exact ⟨fun _ _ => List.nodup_nil, fun p k hp => ⟨fun hm => by simp at hm, fun e => by have := hp.1; omega⟩, fun _ _ => .inl rfl⟩
theorem boot_fitG (ht : t ≤ 7) : (bootS t).FitG := (boot_plainly ht).fitG ⟨show (0 : Int) ≤ 40 by decide, show (40 : Int) ≤ _ by decide⟩ ⟨by show (0 : Int) ≤ ((t + 8 : Nat) : Int); omega, by show ((t + 8 : Nat) : Int) ≤ _; omega⟩
end
end Go.Proofs.Ytdkjfalhalepgaa
/- Capabilities made of others (layer 12): what the document's Derive, Move, Delete, One come to, as mathematics. -/
namespace Go.Proofs.Ytdkjfalhalepgaa
open Go.RowKit
/-- a capability comes below another one -/
def belowS (S : RSt) (f t : Int) (c : Cp) : RSt := if linkN S t f = 0 then (linkS S t f).putC t c else S
/-- what the program's Delete tells (the document's own answer in the statements, rdelN in RefDel, tells 0 of a slot without a capability: see REPORT) -/
def delN (S : RSt) (i : Int) : Int := if slotOk i = false ∨ (S.cap i).kind = 0 then 2 else if S.kids i ≠ [] then 9 else 0
def delS (S : RSt) (i : Int) : RSt := if delN S i = 0 then (unlinkS S i).putC i Cp.zero else S
def oneS (S : RSt) (i : Int) : RSt := if leafS S i < 0 then S else if leafS S i = i then S else delS S (leafS S i)
end Go.Proofs.Ytdkjfalhalepgaa
/- What package cdt does to any view, as mathematics (layer 10): what a slot's field tells, links, kids. No dump is read here. -/
namespace Go.Proofs.Ytdkjfalhalepgaa
open Go.RowKit
/-- the slot that a word tells, -1: none -/
def toldI (w : Int) : Int := if 96 < w then -1 else w - 1
end Go.Proofs.Ytdkjfalhalepgaa
/- What package cdt's calls come to on plain words (layer 10), as mathematics. No dump is read here. -/
namespace Go.Proofs.Ytdkjfalhalepgaa
open Go.RowKit
section
variable {L : List Int} {i j f n k p a b c x : Int}
def toldL (L : List Int) (i f : Int) : Int := if slotB i f = true then toldI (atL L (5 * i + f)) else -1
def tellL (L : List Int) (i f n : Int) : List Int := if slotB i f = true then setL L (5 * i + f) (n + 1) else L
theorem tellL_len : (tellL L i f n).length = L.length := by
  unfold tellL
  split
  · exact setL_length _ _ _
  · rfl
theorem atL_tellL (hl : L.length = 738) (h0 : 0 ≤ f) (h5 : f < 5) : atL (tellL L i f n) j = if (0 ≤ i ∧ i < 96) ∧ j = 5 * i + f then n + 1 else atL L j := by
  unfold tellL
  by_cases h : slotB i f = true
  · have hi := slotB_yes.1 h
    rw [if_pos h, atL_setL, hl]
    have hb : hasB 738 (5 * i + f) = true := hasB_yes.2 (by omega)
    by_cases e : j = 5 * i + f
    · rw [if_pos ⟨hb, e⟩, if_pos ⟨⟨hi.1, hi.2.1⟩, e⟩]
    · rw [if_neg (fun h => e h.2), if_neg (fun h => e h.2)]
  · rw [if_neg h, if_neg]
    intro hh
    exact h (slotB_yes.2 ⟨hh.1.1, hh.1.2, h0, h5⟩)
def standL (L : List Int) (i a b c : Int) : List Int := tellL (tellL (tellL L i 1 a) i 3 b) i 4 c
def placeL (L : List Int) (i : Int) : Int × Int × Int := if toldL L i 1 = -1 then (-1, -1, -1) else (toldL L i 1, toldL L i 3, toldL L i 4)
def besideL (L : List Int) (p n q nx pv : Int) : List Int := tellL (if q = -1 then tellL L p 2 nx else tellL L q 3 nx) n 4 pv
/-- the kids from one on, so many at most -/
def kidsN (L : List Int) : Nat → Int → List Int
  | 0, _ => []
  | n + 1, k => if k = -1 then [] else k :: kidsN L n (toldL L k 3)
def kidsL (L : List Int) (i : Int) : List Int := kidsN L 96 (toldL L i 2)
def downL (L : List Int) (b : Int) (l : List Int) : List Int := l.foldl (fun L k => tellL L k 1 b) L
theorem downL_len {b : Int} : ∀ (l : List Int) (L : List Int), (downL L b l).length = L.length := by
  intro l
  induction l with
  | nil => intro L; rfl
  | cons k l ih => intro L; rw [show downL L b (k :: l) = downL (tellL L k 1 b) b l from rfl, ih, tellL_len]
theorem atL_downL {b : Int} : ∀ (l : List Int) (L : List Int), L.length = 738 → (∀ x, x ∈ l → InS x) → ((∃ x, x ∈ l ∧ j = 5 * x + 1) → atL (downL L b l) j = b + 1) ∧ ((∀ x, x ∈ l → j ≠ 5 * x + 1) → atL (downL L b l) j = atL L j) := by
  intro l
  induction l with
  | nil => intro L _ _; exact ⟨fun ⟨x, hx, _⟩ => by simp at hx, fun _ => rfl⟩
  | cons k l ih =>
    intro L hl hin
    have ih' := ih (tellL L k 1 b) (by rw [tellL_len]; exact hl) (fun x hx => hin x (by simp [hx]))
    rw [show downL L b (k :: l) = downL (tellL L k 1 b) b l from rfl]
    constructor
    · rintro ⟨x, hx, e⟩
      by_cases h : ∃ y, y ∈ l ∧ j = 5 * y + 1
      · exact ih'.1 h
      · rw [ih'.2 (fun y hy e => h ⟨y, hy, e⟩), atL_tellL hl (by omega) (by omega), if_pos]
        rcases List.mem_cons.1 hx with rfl | hx
        · exact ⟨hin x (by simp), e⟩
        · exact absurd ⟨x, hx, e⟩ h
    · intro h
      rw [ih'.2 (fun y hy => h y (by simp [hy])), atL_tellL hl (by omega) (by omega), if_neg (fun hh => h k (by simp) hh.2)]
def linkA (L : List Int) (k p : Int) : Int := if slotB k 0 = false ∨ slotB p 0 = false then 2 else if k = p then 10 else if toldL L k 1 ≠ -1 then 10 else 0
def linkL (L : List Int) (k p : Int) : List Int := if linkA L k p = 0 then standL (tellL (tellL L (toldL L p 2) 4 k) p 2 k) k p (toldL L p 2) (-1) else L
def unlinkA (k : Int) : Int := if slotB k 0 = false then 2 else 0
def unlinkL (L : List Int) (k : Int) : List Int := if slotB k 0 = true ∧ (placeL L k).1 ≠ -1 then standL (besideL L (placeL L k).1 (placeL L k).2.1 (placeL L k).2.2 (placeL L k).2.1 (placeL L k).2.2) k (-1) (-1) (-1) else L
def replaceA (L : List Int) (a b : Int) : Int := if slotB a 0 = false ∨ slotB b 0 = false then 2 else if a = b then 10 else if toldL L b 1 ≠ -1 then 10 else if toldL L b 2 ≠ -1 then 10 else 0
def replaceL (L : List Int) (a b : Int) : List Int :=
  if replaceA L a b = 0 then
    tellL (standL (tellL (standL (besideL (downL L b (kidsL L a)) (placeL L a).1 (placeL L a).2.1 (placeL L a).2.2 b b) b (placeL L a).1 (placeL L a).2.1 (placeL L a).2.2) b 2 (toldL L a 2)) a (-1) (-1) (-1)) a 2 (-1)
  else L
end
end Go.Proofs.Ytdkjfalhalepgaa
/- What package cdt's calls come to on words that tell a tree (layer 10), as mathematics: the same tree linked, unlinked, replaced. No dump is read here. -/
namespace Go.Proofs.Ytdkjfalhalepgaa
open Go.RowKit
/-- numbers without doubles, all below n: not more than n -/
theorem nodup_short : ∀ (n : Nat) (l : List Int), l.Nodup → (∀ x, x ∈ l → 0 ≤ x ∧ x < n) → l.length ≤ n := by
  intro n
  induction n with
  | zero =>
    intro l _ h
    cases l with
    | nil => simp
    | cons x l => have := h x (by simp); omega
  | succ n ih =>
    intro l hn h
    have h1 := ih (l.erase (n : Int)) (hn.erase _) (fun x hx => by
      have hm := (hn.mem_erase_iff).1 hx
      have := h x hm.2
      have := hm.1
      omega)
    rw [List.length_erase] at h1
    split at h1 <;> omega
section
variable {L L' : List Int} {P P' : Int → Int} {K K' : Int → List Int} {i j k p a b x : Int}
theorem Tree.short (t : Tree P K) (hi : InS i) : (K i).length ≤ 96 := nodup_short 96 _ (t.nodup i hi) (fun x hx => by have := t.kids hi x hx; exact ⟨this.1, this.2⟩)
theorem headK_rng {l : List Int} (h : ∀ x, x ∈ l → InS x) : 0 ≤ headK l ∧ headK l ≤ 96 := by
  cases l with
  | nil => rw [headK_nil]; omega
  | cons x l => have := h x (by simp); unfold InS at this; rw [headK_cons]; omega
theorem after_rng {l : List Int} (h : ∀ x, x ∈ l → InS x) : 0 ≤ after k l ∧ after k l ≤ 96 := by
  induction l with
  | nil => simp [after]
  | cons x l ih =>
    rw [after_cons]
    split
    · exact headK_rng (fun y hy => h y (by simp [hy]))
    · exact ih (fun y hy => h y (by simp [hy]))
theorem before_rng {l : List Int} (hk : 0 ≤ k) (h : ∀ x, x ∈ l → InS x) : 0 ≤ before k l ∧ before k l ≤ 96 := by
  induction l with
  | nil => simp [before]
  | cons x l ih =>
    rw [before_cons hk]
    have := h x (by simp)
    unfold InS at this
    split
    · omega
    · exact ih (fun y hy => h y (by simp [hy]))
theorem Tree.nxt_rng (t : Tree P K) (hi : InS i) : 0 ≤ nxt P K i ∧ nxt P K i ≤ 96 := by
  unfold nxt
  split
  · omega
  · next h => exact after_rng (t.kids (t.mem hi h).1)
theorem Tree.prv_rng (t : Tree P K) (hi : InS i) : 0 ≤ prv P K i ∧ prv P K i ≤ 96 := by
  unfold prv
  split
  · omega
  · next h => exact before_rng hi.1 (t.kids (t.mem hi h).1)
theorem Tree.par_rng (t : Tree P K) (hi : InS i) : -1 ≤ P i ∧ P i ≤ 95 := by
  rcases t.par i hi with h | ⟨⟨h1, h2⟩, -⟩ <;> omega
theorem told_of {f v : Int} (hi : InS i) (h0 : 0 ≤ f) (h5 : f < 5) (h : atL L (5 * i + f) = v) (hv : 0 ≤ v) (hv2 : v ≤ 96) : toldL L i f = v - 1 := by
  unfold toldL
  rw [if_pos (slotB_yes.2 ⟨hi.1, hi.2, h0, h5⟩), h, toldI, if_neg (by omega)]
theorem Rep.told1 (h : Rep L P K) (t : Tree P K) (hi : InS i) : toldL L i 1 = P i := by
  have := t.par_rng hi
  rw [told_of hi (by omega) (by omega) (h.p i hi) (by omega) (by omega)]
  omega
theorem Rep.told2 (h : Rep L P K) (t : Tree P K) (hi : InS i) : toldL L i 2 = headK (K i) - 1 := by
  have := headK_rng (t.kids hi)
  exact told_of hi (by omega) (by omega) (h.f i hi) (by omega) (by omega)
theorem Rep.told3 (h : Rep L P K) (t : Tree P K) (hi : InS i) : toldL L i 3 = nxt P K i - 1 := by
  have := t.nxt_rng hi
  exact told_of hi (by omega) (by omega) (h.n i hi) (by omega) (by omega)
theorem Rep.told4 (h : Rep L P K) (t : Tree P K) (hi : InS i) : toldL L i 4 = prv P K i - 1 := by
  have := t.prv_rng hi
  exact told_of hi (by omega) (by omega) (h.v i hi) (by omega) (by omega)
theorem Rep.place (h : Rep L P K) (t : Tree P K) (hi : InS i) : placeL L i = (P i, nxt P K i - 1, prv P K i - 1) := by
  unfold placeL
  rw [h.told1 t hi, h.told3 t hi, h.told4 t hi]
  split
  · next e => rw [e, nxt, if_pos e, prv, if_pos e]; rfl
  · rfl
theorem after_split {pre l : List Int} (hn : (pre ++ x :: l).Nodup) : after x (pre ++ x :: l) = headK l := by
  induction pre with
  | nil => rw [List.nil_append, after_cons, if_pos rfl]
  | cons y pre ih =>
    rw [List.cons_append] at hn ⊢
    obtain ⟨h1, h2⟩ := List.nodup_cons.1 hn
    rw [after_cons, if_neg (fun e => h1 (by simp [e])), ih h2]
/-- the kids are what the words' list tells -/
theorem Rep.kids_from (h : Rep L P K) (t : Tree P K) (hi : InS i) : ∀ (n : Nat) (l pre : List Int), K i = pre ++ l → l.length ≤ n → kidsN L n (headK l - 1) = l := by
  intro n
  induction n with
  | zero =>
    intro l pre _ hl
    cases l with
    | nil => rfl
    | cons x l => simp at hl
  | succ n ih =>
    intro l pre e hl
    rw [show kidsN L (n + 1) (headK l - 1) = if headK l - 1 = -1 then [] else (headK l - 1) :: kidsN L n (toldL L (headK l - 1) 3) from rfl]
    cases l with
    | nil => rw [headK_nil, if_pos (by omega)]
    | cons x l =>
      have hm : x ∈ K i := by rw [e]; simp
      have hx := (t.kid i x hi).1 hm
      have hx0 := hx.1.1
      have hi0 := hi.1
      have en : nxt P K x = headK l := by
        rw [nxt, hx.2, if_neg (by omega), e, after_split (by rw [← e]; exact t.nodup i hi)]
      rw [headK_cons, show x + 1 - 1 = x by omega, if_neg (by omega), h.told3 t hx.1, en, ih l (pre ++ [x]) (by rw [e]; simp) (by simpa using hl)]
theorem Rep.kids (h : Rep L P K) (t : Tree P K) (hi : InS i) : kidsL L i = K i := by
  unfold kidsL
  rw [h.told2 t hi]
  exact h.kids_from t hi 96 (K i) [] rfl (t.short hi)
theorem kids_out (hi : ¬ InS i) : kidsL L i = [] := by
  have e : slotB i 2 = false := slotB_no.2 (by unfold InS at hi; omega)
  unfold kidsL toldL
  rw [if_neg (by simp [e])]
  rfl
/-- words alike where the links are, and elsewhere: the same words -/
theorem Rep.same (h : Rep L P K) (h' : Rep L' P' K') (t : Tree P K) (hp : ∀ i, InS i → P i = P' i) (hk : ∀ i, InS i → K i = K' i) (he : ∀ j, (∀ i f, InS i → 1 ≤ f → f ≤ 4 → j ≠ 5 * i + f) → atL L j = atL L' j) : L = L' := by
  have hw : ∀ j, atL L j = atL L' j := fun j => by
    by_cases hj : ∃ i f, InS i ∧ 1 ≤ f ∧ f ≤ 4 ∧ j = 5 * i + f
    · obtain ⟨i, f, hi, h1, h4, rfl⟩ := hj
      have hkp : P i ≠ -1 → K (P i) = K' (P i) := fun hh => hk _ (t.mem hi hh).1
      obtain rfl | rfl | rfl | rfl : f = 1 ∨ f = 2 ∨ f = 3 ∨ f = 4 := by omega
      · rw [h.p i hi, h'.p i hi, hp i hi]
      · rw [h.f i hi, h'.f i hi, hk i hi]
      · rw [h.n i hi, h'.n i hi, nxt, nxt, ← hp i hi]
        split
        · rfl
        · next e => rw [hkp e]
      · rw [h.v i hi, h'.v i hi, prv, prv, ← hp i hi]
        split
        · rfl
        · next e => rw [hkp e]
    · exact he j (fun i f hi h1 h4 e => hj ⟨i, f, hi, h1, h4, e⟩)
  apply List.ext_getElem (by rw [h.len, h'.len])
  intro n h1 h2
  have := hw n
  rwa [atL_in (List.getElem?_eq_getElem h1), atL_in (List.getElem?_eq_getElem h2)] at this
/-- none of the links' words -/
def Far (j : Int) : Prop := ∀ i f, InS i → 1 ≤ f → f ≤ 4 → j ≠ 5 * i + f
theorem Rep.link_to (h : Rep L P K) (t : Tree P K) (hk : InS k) (hp : InS p) (hne : k ≠ p) (h0 : P k = -1) :
    linkA L k p = 0 ∧ Rep (linkL L k p) (setF P k p) (setF K p (k :: K p)) ∧ ∀ j, Far j → atL (linkL L k p) j = atL L j := by
  have e0 : linkA L k p = 0 := by
    have s1 : slotB k 0 = true := slotB_yes.2 ⟨hk.1, hk.2, by omega, by omega⟩
    have s2 : slotB p 0 = true := slotB_yes.2 ⟨hp.1, hp.2, by omega, by omega⟩
    rw [linkA, if_neg (by simp [s1, s2]), if_neg hne, if_neg (by rw [h.told1 t hk]; simp [h0])]
  have hl := h.len
  have hh := headK_rng (t.kids hp)
  have hkp := t.out h0 hp
  have hnk : headK (K p) ≠ k + 1 := fun e => hkp (headK_mem e hk.1)
  have hkr := hk
  have hpr := hp
  unfold InS at hkr hpr
  have ea : ∀ j, atL (linkL L k p) j = if (0 ≤ k ∧ k < 96) ∧ j = 5 * k + 4 then 0 else if (0 ≤ k ∧ k < 96) ∧ j = 5 * k + 3 then headK (K p) else if (0 ≤ k ∧ k < 96) ∧ j = 5 * k + 1 then p + 1 else if (0 ≤ p ∧ p < 96) ∧ j = 5 * p + 2 then k + 1 else if (0 ≤ headK (K p) - 1 ∧ headK (K p) - 1 < 96) ∧ j = 5 * (headK (K p) - 1) + 4 then k + 1 else atL L j := fun j => by
    unfold linkL standL
    rw [if_pos e0, h.told2 t hp]
    rw [atL_tellL (by simp only [tellL_len]; exact hl) (by omega) (by omega), atL_tellL (by simp only [tellL_len]; exact hl) (by omega) (by omega), atL_tellL (by simp only [tellL_len]; exact hl) (by omega) (by omega), atL_tellL (by simp only [tellL_len]; exact hl) (by omega) (by omega), atL_tellL hl (by omega) (by omega)]
    rw [show headK (K p) - 1 + 1 = headK (K p) by omega, show (-1 : Int) + 1 = 0 from rfl]
  have hlen : (linkL L k p).length = 738 := by
    unfold linkL standL
    rw [if_pos e0]
    simp only [tellL_len]
    exact hl
  generalize linkL L k p = M at ea hlen ⊢
  generalize hH : headK (K p) = H at *
  refine ⟨e0, Rep.link h t hk hp hne h0 hlen ?_ ?_ ?_ ?_ ?_ ?_, ?_⟩
  · rw [ea]; repeat' split
    all_goals omega
  · rw [ea]; repeat' split
    all_goals omega
  · rw [ea, hH]; repeat' split
    all_goals omega
  · rw [ea]; repeat' split
    all_goals omega
  · intro x hx hxs
    rw [hH] at hx
    unfold InS at hxs
    rw [ea]; repeat' split
    all_goals omega
  · intro j j1 j2 j3 j4 j5
    rw [hH] at j5
    have j6 : (0 ≤ H - 1 ∧ H - 1 < 96) → j ≠ 5 * (H - 1) + 4 := fun hx => j5 (H - 1) hx (by omega)
    rw [ea]; repeat' split
    all_goals omega
  · intro j hj
    have j1 := hj k 1 hk (by omega) (by omega)
    have j2 := hj p 2 hp (by omega) (by omega)
    have j3 := hj k 3 hk (by omega) (by omega)
    have j4 := hj k 4 hk (by omega) (by omega)
    have j6 : (0 ≤ H - 1 ∧ H - 1 < 96) → j ≠ 5 * (H - 1) + 4 := fun hx => hj (H - 1) 4 hx (by omega) (by omega)
    rw [ea]; repeat' split
    all_goals omega
end
end Go.Proofs.Ytdkjfalhalepgaa
