/- Threads that wait, and are owed replies (layers 15 to 22): what is sound of a state; what blocks, unblocks, links keep; as mathematics. No dump is read here. -/
import Derived.Test.YtihipcbhfjpgbaaWok
import Derived.Test.YtihipcbhfjpgbaaJ6
namespace Go.Proofs.Ytihipcbhfjpgbaa
open Go.RowKit
/-- a state of one that is in a queue -/
def blk (s : Int) : Prop := s = 2 ∨ s = 3 ∨ s = 5 ∨ s = 6
instance (s : Int) : Decidable (blk s) := by unfold blk; infer_instance
end Go.Proofs.Ytihipcbhfjpgbaa
/- What the document's calls of Endpoints, notifications, threads make of its state (layers 15 to 22): the parts that they are made of, field by field; as mathematics. No dump is read here. -/
namespace Go.Proofs.Ytihipcbhfjpgbaa
open Go.RowKit
theorem upO_at (S : RSt) (o i : Int) (f : RObj → RObj) : (S.upO o f).ob i = if i = o then f (S.ob o) else S.ob i := rfl
theorem up_same {α : Type} {S : RSt} {o i : Int} {f : RObj → RObj} (g : RObj → α) (h : ∀ x, g (f x) = g x) : g ((S.upO o f).ob i) = g (S.ob i) := by
  rw [upO_at]
  split
  · next e => rw [e, h]
  · rfl
theorem up_set {α : Type} {S : RSt} {o i : Int} {f : RObj → RObj} (g : RObj → α) (v : α) (h : g (f (S.ob o)) = v) : g ((S.upO o f).ob i) = if i = o then v else g (S.ob i) := by
  rw [upO_at]
  split
  · exact h
  · rfl
def waitS (S : RSt) (o n : Int) : RSt := S.upO o fun x => { x with wait := n }
section
variable {S : RSt} {o : Int} {f : RObj → RObj} {x : RObj}
theorem Sok.upO (h : Sok S) (hf : 0 ≤ o ∧ o < 32 → (S.ob o).FitO → (f (S.ob o)).FitO) : Sok (S.upO o f) := ⟨h.tree, h.out, h.may, fun i hi => by
  rw [upO_at]
  split
  · next e => exact hf ⟨by omega, by omega⟩ (by rw [← e]; exact h.obs i hi)
  · exact h.obs i hi, h.ns, h.no⟩
def b40 (n : Int) : Prop := 0 ≤ n ∧ n ≤ 1099511627776
def m40' (n : Int) : Prop := -1 ≤ n ∧ n ≤ 1099511627776
theorem Sok.waitS {o n : Int} (h : Sok S) (hwait : b40 n) : Sok (Go.Proofs.Ytihipcbhfjpgbaa.waitS S o n) := h.upO fun _ hx => { hx with wait := hwait, pg := hx.pg, rt := hx.rt }
end
end Go.Proofs.Ytihipcbhfjpgbaa
/- The document's Send, Recv, Answer on its state (layers 15 to 22), and that a sound state stays sound; as mathematics. No dump is read here. -/
namespace Go.Proofs.Ytihipcbhfjpgbaa
open Go.RowKit
def restS (S : RSt) (ep : Int) : RSt := if (S.ob ep).queue = [] then waitS S ep 0 else S
section
variable {S S' : RSt} {ep t r b w c s n : Int} {l : List Int} {call : Bool}
theorem Sok.rest (h : Sok S) : Sok (restS S ep) := by
  unfold restS
  split
  · exact h.waitS ⟨by decide, by decide⟩
  · exact h
theorem RSt.ext' {S S' : RSt} (h1 : S.cap = S'.cap) (h2 : S.par = S'.par) (h3 : S.kids = S'.kids) (h4 : ∀ i, S.ob i = S'.ob i) (h5 : S.ns = S'.ns) (h6 : S.no = S'.no) : S = S' := by
  cases S; cases S'
  simp only at h1 h2 h3 h4 h5 h6
  rw [h1, h2, h3, h5, h6, funext h4]
end
end Go.Proofs.Ytihipcbhfjpgbaa
/- Fields that are read and put, queues that are popped and pushed, on words and on the document's state alike (layers 15 to 22), as mathematics. No dump is read here. -/
namespace Go.Proofs.Ytihipcbhfjpgbaa
open Go.RowKit
section
variable {x : RObj} {g : Nat}
theorem fldW_kind (x : RObj) : fldW x 0 = x.kind := rfl
theorem gcase (hg : g < 8) : g = 0 ∨ g = 1 ∨ g = 2 ∨ g = 3 ∨ g = 4 ∨ g = 5 ∨ g = 6 ∨ g = 7 := by omega
end
section
variable {L L' : List Int} {S : RSt} {t n o c : Int} {l b : List Int}
theorem objB_in {f : Int} (ho : 0 ≤ o ∧ o < 32) (hf : 0 ≤ f ∧ f < 8) : objB o f = true := objB_yes.2 ⟨ho.1, ho.2, hf.1, hf.2⟩
theorem numI_small {v : Int} (h : v ≤ 4611686018427387904) : numI v = v := if_neg (by omega)
theorem Wok.field (h : Wok L S) {a f : Nat} (ha : a < 32) (hf : f < 8) (h1 : (S.ob a).kind = 5 → f ≠ 2) (h2 : (S.ob a).isQ → f ≠ 2 ∧ f ≠ 3) (hv : fldW (S.ob a) f ≤ 4611686018427387904) : fieldL L (a : Int) (f : Int) = fldW (S.ob a) f := by
  unfold fieldL
  rw [if_pos (objB_in ⟨by omega, by omega⟩ ⟨by omega, by omega⟩), show (480 : Int) + 8 * (a : Int) + (f : Int) = ow a f by unfold ow; omega, h.fld a f ha hf h1 h2, numI_small hv]
theorem Wok.kind (h : Wok L S) (ho : 0 ≤ o ∧ o < 32) : fieldL L o 0 = (S.ob o).kind := by
  obtain ⟨a, rfl, ha⟩ := nat_of ho
  have hk := (h.sok.obs a ha).kind
  exact h.field ha (f := 0) (by omega) (fun _ => by omega) (fun _ => by omega) (by rw [fldW_kind]; omega)
theorem Wok.isL (h : Wok L S) (ho : 0 ≤ o ∧ o < 32) (k : Int) (hk : 0 ≤ k) : Go.Proofs.Ytihipcbhfjpgbaa.isL L o k = decide ((S.ob o).kind = k) := by
  obtain ⟨a, rfl, ha⟩ := nat_of ho
  unfold Go.Proofs.Ytihipcbhfjpgbaa.isL
  have e := h.fld a 0 ha (by omega) (fun _ => by omega) (fun _ => by omega)
  rw [show ow a 0 = (480 : Int) + 8 * (a : Int) by unfold ow; omega, fldW_kind] at e
  rw [e, objB_in ⟨by omega, by omega⟩ ⟨by omega, by omega⟩, decide_eq_true hk]
  by_cases e2 : (S.ob (a : Int)).kind = k <;> simp [e2]
theorem refL_of {f : Int} (h : fieldL L o f = c + 1) (hc : -1 ≤ c ∧ c < 32) : refL L o f = if 0 ≤ c then (c, true) else (0, false) := by
  unfold refL
  rw [h, show c + 1 - 1 = c by omega]
  by_cases e : 0 ≤ c
  · rw [if_pos (belowB_yes.2 ⟨e, hc.2⟩), if_pos e]
  · rw [if_neg (fun z => e (belowB_yes.1 z).1), if_neg e]
end
end Go.Proofs.Ytihipcbhfjpgbaa
/- Untyped memory made into objects (layer 13): what the document's Cost, Retype come to, as mathematics. -/
namespace Go.Proofs.Ytihipcbhfjpgbaa
open Go.RowKit
/-- is it an object of that kind -/
def isO (S : RSt) (i k : Int) : Bool := decide (0 ≤ i ∧ i ≤ 31 ∧ (S.ob i).kind = k)
end Go.Proofs.Ytihipcbhfjpgbaa
/- Frames in spaces (layer 18): mapped, unmapped, on the document's state, and on words; as mathematics. No dump is read here. -/
namespace Go.Proofs.Ytihipcbhfjpgbaa
open Go.RowKit
/-- what is mapped at a page, with which rights -/
def RObj.setPg (x : RObj) (p f r : Int) : RObj :=
  if p = 0 then { x with p0 := f, r0 := r } else if p = 1 then { x with p1 := f, r1 := r } else if p = 2 then { x with p2 := f, r2 := r } else { x with p3 := f, r3 := r }
def RObj.at (x : RObj) (p : Int) : Int := x.pg p.toNat
def RObj.with (x : RObj) (p : Int) : Int := x.rt p.toNat
def pgS (S : RSt) (s p f r : Int) : RSt := S.upO s fun x => x.setPg p f r
def innS (S : RSt) (f s p : Int) : RSt := S.upO f fun x => { x with inn := s, page := p }
def mapN (S : RSt) (f s p r : Int) : Int :=
  if isO S f 6 = true ∧ isO S s 7 = true then (if p < 0 ∨ 3 < p ∨ r < 0 ∨ 7 < r then 1 else if 0 ≤ (S.ob f).inn then 10 else if 0 ≤ (S.ob s).at p then 8 else 0) else 2
def mapS (S : RSt) (f s p r : Int) : RSt := if mapN S f s p r = 0 then innS (pgS S s p f r) f s p else S
def unmN (S : RSt) (f : Int) : Int := if isO S f 6 = true then (if (S.ob f).inn < 0 then 10 else 0) else 2
def unmS (S : RSt) (f : Int) : RSt := if unmN S f = 0 then innS (pgS S (S.ob f).inn (S.ob f).page (-1) 0) f (-1) 0 else S
/-- objects 0 to 3 are frames, 4 and 5 spaces -/
def begS : Nat → RSt
  | 0 => RSt.new
  | n + 1 => (begS n).putO (n : Int) (RObj.fresh (if n < 4 then 6 else 7))
section
variable {x : RObj} {p q f r : Int}
theorem p4 (hp : 0 ≤ p ∧ p < 4) : p = 0 ∨ p = 1 ∨ p = 2 ∨ p = 3 := by omega
theorem setPg_at (hp : 0 ≤ p ∧ p < 4) (hq : 0 ≤ q ∧ q < 4) : (x.setPg p f r).at q = if q = p then f else x.at q := by
  rcases p4 hp with rfl | rfl | rfl | rfl <;> rcases p4 hq with rfl | rfl | rfl | rfl <;> rfl
theorem setPg_with (hp : 0 ≤ p ∧ p < 4) (hq : 0 ≤ q ∧ q < 4) : (x.setPg p f r).with q = if q = p then r else x.with q := by
  rcases p4 hp with rfl | rfl | rfl | rfl <;> rcases p4 hq with rfl | rfl | rfl | rfl <;> rfl
theorem setPg_same : (x.setPg p f r).kind = x.kind ∧ (x.setPg p f r).queue = x.queue ∧ (x.setPg p f r).owing = x.owing ∧ (x.setPg p f r).inn = x.inn ∧ (x.setPg p f r).page = x.page := by
  unfold RObj.setPg
  refine ⟨?_, ?_, ?_, ?_, ?_⟩ <;> split <;> (try split) <;> (try split) <;> rfl
theorem setPg_fit (h : x.FitO) (hp : 0 ≤ p ∧ p < 4) (hf : -1 ≤ f ∧ f ≤ 1099511627776) (hr : 0 ≤ r ∧ r ≤ 1099511627776) : (x.setPg p f r).FitO := by
  have h0 := h.pg 0 (by decide)
  have h1 := h.pg 1 (by decide)
  have h2 := h.pg 2 (by decide)
  have h3 := h.pg 3 (by decide)
  have g0 := h.rt 0 (by decide)
  have g1 := h.rt 1 (by decide)
  have g2 := h.rt 2 (by decide)
  have g3 := h.rt 3 (by decide)
  have k4 : ∀ q : Nat, q < 4 → q = 0 ∨ q = 1 ∨ q = 2 ∨ q = 3 := fun q hq => by omega
  rcases p4 hp with rfl | rfl | rfl | rfl
  · exact { h with pg := fun q hq => by rcases k4 q hq with rfl | rfl | rfl | rfl <;> assumption, rt := fun q hq => by rcases k4 q hq with rfl | rfl | rfl | rfl <;> assumption }
  · exact { h with pg := fun q hq => by rcases k4 q hq with rfl | rfl | rfl | rfl <;> assumption, rt := fun q hq => by rcases k4 q hq with rfl | rfl | rfl | rfl <;> assumption }
  · exact { h with pg := fun q hq => by rcases k4 q hq with rfl | rfl | rfl | rfl <;> assumption, rt := fun q hq => by rcases k4 q hq with rfl | rfl | rfl | rfl <;> assumption }
  · exact { h with pg := fun q hq => by rcases k4 q hq with rfl | rfl | rfl | rfl <;> assumption, rt := fun q hq => by rcases k4 q hq with rfl | rfl | rfl | rfl <;> assumption }
/-- a page's word -/
def pgW (f r : Int) : Int := if 0 ≤ f then 8 * (f + 1) + r else 0
theorem fldW_pg (hk : x.kind = 7) (hp : 0 ≤ p ∧ p < 4) : fldW x (1 + p.toNat) = pgW (x.at p) (x.with p) := by
  rcases p4 hp with rfl | rfl | rfl | rfl <;> simp [fldW, kindF, spaceF, pageF, putF, ow, hk, pgW, RObj.at, RObj.with, RObj.pg, RObj.rt]
theorem fldW_fr (hk : x.kind = 6) : fldW x 1 = x.inn + 1 ∧ fldW x 2 = x.page := by
  refine ⟨?_, ?_⟩ <;> simp [fldW, kindF, putF, ow, hk]
theorem fldW_setPg (hk : x.kind = 7) (hp : 0 ≤ p ∧ p < 4) {g : Nat} (hg : g < 8) (hne : g ≠ 1 + p.toNat) : fldW (x.setPg p f r) g = fldW x g := by
  rcases p4 hp with rfl | rfl | rfl | rfl <;> rcases gcase hg with rfl | rfl | rfl | rfl | rfl | rfl | rfl | rfl <;> first | (exact absurd rfl hne) | (simp [fldW, kindF, spaceF, pageF, putF, ow, hk, RObj.setPg, RObj.pg, RObj.rt])
end
end Go.Proofs.Ytihipcbhfjpgbaa
