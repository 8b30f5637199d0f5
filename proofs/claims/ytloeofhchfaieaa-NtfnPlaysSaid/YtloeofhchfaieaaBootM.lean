/- The boot state of the document (layers 11 to 22), as mathematics: step by step, as it is made; what it is like. -/
import Derived.Test.YtloeofhchfaieaaRefPut
namespace Go.Proofs.Ytloeofhchfaieaa
open Go.RowKit
def RSt.putO (S : RSt) (i : Int) (x : RObj) : RSt := { S with ob := setF S.ob i x }
def RSt.putC (S : RSt) (i : Int) (c : Cp) : RSt := { S with cap := setF S.cap i c }
/-- the threads' root -/
def rootC (t : Int) : Cp := ⟨2, 7, t, 0, 0, 8⟩
def thrO (t : Int) : RObj := { RObj.fresh 5 with state := 1, root := rootC t }
/-- a capability with all rights -/
def fullC (kind obj : Int) : Cp := ⟨kind, 7, obj, 0, 0, 0⟩
/-- threads that are made -/
def bootT (t : Int) : Nat → RSt
  | 0 => RSt.new
  | k + 1 => ((bootT t k).putO (k : Int) (thrO t)).putC ((14 + k : Nat) : Int) (fullC 5 k)
def kindB : Nat → Int
  | 0 => 2
  | 1 => 2
  | 2 => 1
  | 3 => 3
  | 4 => 4
  | 5 => 8
  | 6 => 7
  | _ => 6
/-- the other objects -/
def bootK (t : Nat) : Nat → RSt
  | 0 => bootT t t
  | k + 1 => if 2 ≤ k then ((bootK t k).putO ((t + k : Nat) : Int) (RObj.fresh (kindB k))).putC ((6 + k : Nat) : Int) (fullC (kindB k) (t + k : Nat)) else (bootK t k).putO ((t + k : Nat) : Int) (RObj.fresh (kindB k))
/-- a field of an object -/
def RSt.upO (S : RSt) (i : Int) (f : RObj → RObj) : RSt := S.putO i (f (S.ob i))
def boot1 (t : Nat) : RSt := (bootK t 8).upO (t : Nat) fun x => { x with radix := 3 }
def boot2 (t : Nat) : RSt := (boot1 t).upO ((t + 1 : Nat) : Int) fun x => { x with first := 8 }
def boot3 (t : Nat) : RSt := (boot2 t).upO ((t + 1 : Nat) : Int) fun x => { x with radix := 5 }
def boot4 (t : Nat) : RSt := (boot3 t).upO ((t + 2 : Nat) : Int) fun x => { x with size := 200 }
def boot5 (t : Nat) : RSt := (boot4 t).putC 0 (fullC 2 (t + 1 : Nat))
def boot6 (t : Nat) : RSt := (boot5 t).putC 1 (rootC t)
def boot7 (t : Nat) : RSt := { boot6 t with ns := 40 }
def bootS (t : Nat) : RSt := { boot7 t with no := ((t + 8 : Nat) : Int) }
/-- no slot is anywhere's kid, no object has a queue, numbers are small -/
structure RSt.Plainly (S : RSt) : Prop where
  cap : ∀ i, (S.cap i).Small
  par : S.par = fun _ => -1
  kids : S.kids = fun _ => []
  ob : ∀ i, (S.ob i).FitO
  bare : ∀ i, (S.ob i).queue = []
theorem fullC_small {k o : Int} (hk : 0 ≤ k ∧ k ≤ 8) (ho : 0 ≤ o ∧ o ≤ 31) : (fullC k o).Small := ⟨hk.1, hk.2, by simp [fullC], by simp [fullC], ho.1, ho.2, by simp [fullC], by simp [fullC], by simp [fullC], by simp [fullC], by simp [fullC], by simp [fullC]⟩
theorem rootC_small {t : Int} (ho : 0 ≤ t ∧ t ≤ 31) : (rootC t).Small := ⟨by simp [rootC], by simp [rootC], by simp [rootC], by simp [rootC], ho.1, ho.2, by simp [rootC], by simp [rootC], by simp [rootC], by simp [rootC], by simp [rootC], by simp [rootC]⟩
theorem zeroC_small : Cp.zero.Small := ⟨by decide, by decide, by decide, by decide, by decide, by decide, by decide, by decide, by decide, by decide, by decide, by decide⟩
theorem pg4 {x : RObj} (a b : Int) (h0 : a ≤ x.p0 ∧ x.p0 ≤ b) (h1 : a ≤ x.p1 ∧ x.p1 ≤ b) (h2 : a ≤ x.p2 ∧ x.p2 ≤ b) (h3 : a ≤ x.p3 ∧ x.p3 ≤ b) : ∀ p, p < 4 → a ≤ x.pg p ∧ x.pg p ≤ b
  | 0, _ => h0
  | 1, _ => h1
  | 2, _ => h2
  | 3, _ => h3
theorem rt4 {x : RObj} (a b : Int) (h0 : a ≤ x.r0 ∧ x.r0 ≤ b) (h1 : a ≤ x.r1 ∧ x.r1 ≤ b) (h2 : a ≤ x.r2 ∧ x.r2 ≤ b) (h3 : a ≤ x.r3 ∧ x.r3 ≤ b) : ∀ p, p < 4 → a ≤ x.rt p ∧ x.rt p ≤ b
  | 0, _ => h0
  | 1, _ => h1
  | 2, _ => h2
  | 3, _ => h3
theorem z40 : (0 : Int) ≤ 0 ∧ (0 : Int) ≤ 1099511627776 := by decide
theorem m40 : (-1 : Int) ≤ -1 ∧ (-1 : Int) ≤ 1099511627776 := by decide
theorem fresh_fit {k : Int} (hk : 0 ≤ k ∧ k ≤ 8) : (RObj.fresh k).FitO where
  kind := ⟨hk.1, by show k ≤ _; omega⟩
  size := z40
  used := z40
  first := z40
  radix := z40
  wait := z40
  word := z40
  state := z40
  owing := m40
  badge := z40
  prio := z40
  on := m40
  owes := m40
  root := zeroC_small
  pg := pg4 _ _ m40 m40 m40 m40
  rt := rt4 _ _ z40 z40 z40 z40
  inn := m40
  page := z40
  bound := m40
  mask := z40
  qin := fun t ht => by simp [RObj.fresh] at ht
  qlen := Nat.zero_le _
theorem thrO_fit {t : Int} (ht : 0 ≤ t ∧ t ≤ 31) : (thrO t).FitO :=
  { fresh_fit (k := 5) (by decide) with
    state := ⟨show (0 : Int) ≤ 1 by decide, show (1 : Int) ≤ 1099511627776 by decide⟩
    root := rootC_small ht
    pg := pg4 _ _ m40 m40 m40 m40
    rt := rt4 _ _ z40 z40 z40 z40 }
section
variable {S : RSt} {i : Int} {x : RObj} {c : Cp}
theorem RSt.Plainly.putO (h : S.Plainly) (hx : x.FitO) (hq : x.queue = []) : (S.putO i x).Plainly where
  cap := h.cap
  par := h.par
  kids := h.kids
  ob := fun j => by
    by_cases e : j = i
    · simpa [RSt.putO, setF, e] using hx
    · simpa [RSt.putO, setF, e] using h.ob j
  bare := fun j => by
    by_cases e : j = i
    · simpa [RSt.putO, setF, e] using hq
    · simpa [RSt.putO, setF, e] using h.bare j
theorem RSt.Plainly.putC (h : S.Plainly) (hc : c.Small) : (S.putC i c).Plainly where
  cap := fun j => by
    by_cases e : j = i
    · simpa [RSt.putC, setF, e] using hc
    · simpa [RSt.putC, setF, e] using h.cap j
  par := h.par
  kids := h.kids
  ob := h.ob
  bare := h.bare
theorem RSt.Plainly.upO (h : S.Plainly) {f : RObj → RObj} (hf : (f (S.ob i)).FitO) (hq : (f (S.ob i)).queue = (S.ob i).queue) : (S.upO i f).Plainly := h.putO hf (by rw [hq, h.bare])
theorem new_plainly : RSt.new.Plainly := ⟨fun _ => zeroC_small, rfl, rfl, fun _ => fresh_fit (by decide), fun _ => rfl⟩
theorem kindB_rng (k : Nat) : 0 ≤ kindB k ∧ kindB k ≤ 8 := by
  unfold kindB
  split <;> decide
variable {t : Nat}
theorem bootT_plainly (ht : t ≤ 7) : ∀ k, k ≤ t → (bootT t k).Plainly := by
  intro k
  induction k with
  | zero => intro _; exact new_plainly
  | succ k ih => intro hk; exact ((ih (by omega)).putO (thrO_fit ⟨by omega, by omega⟩) rfl).putC (fullC_small (by decide) ⟨by omega, by omega⟩)
theorem bootK_plainly (ht : t ≤ 7) : ∀ k, k ≤ 8 → (bootK t k).Plainly := by
  intro k
  induction k with
  | zero => intro _; exact bootT_plainly ht t (Nat.le_refl _)
  | succ k ih =>
    intro hk
    have h1 := (ih (by omega)).putO (i := ((t + k : Nat) : Int)) (fresh_fit (kindB_rng k)) rfl
    unfold bootK
    split
    · exact h1.putC (fullC_small (kindB_rng k) ⟨by omega, by omega⟩)
    · exact h1
theorem RObj.FitO.radixed (h : x.FitO) {r : Int} (hr : 0 ≤ r ∧ r ≤ 1099511627776) : ({ x with radix := r } : RObj).FitO := { h with radix := hr, pg := h.pg, rt := h.rt }
theorem RObj.FitO.firsted (h : x.FitO) {r : Int} (hr : 0 ≤ r ∧ r ≤ 1099511627776) : ({ x with first := r } : RObj).FitO := { h with first := hr, pg := h.pg, rt := h.rt }
theorem RObj.FitO.sized (h : x.FitO) {r : Int} (hr : 0 ≤ r ∧ r ≤ 1099511627776) : ({ x with size := r } : RObj).FitO := { h with size := hr, pg := h.pg, rt := h.rt }
theorem boot_plainly (ht : t ≤ 7) : (bootS t).Plainly := by
  have h1 : (boot1 t).Plainly := (bootK_plainly ht 8 (Nat.le_refl _)).upO (((bootK_plainly ht 8 (Nat.le_refl _)).ob _).radixed (by decide)) rfl
  have h2 : (boot2 t).Plainly := h1.upO ((h1.ob _).firsted (by decide)) rfl
  have h3 : (boot3 t).Plainly := h2.upO ((h2.ob _).radixed (by decide)) rfl
  have h4 : (boot4 t).Plainly := h3.upO ((h3.ob _).sized (by decide)) rfl
  have h5 : (boot5 t).Plainly := h4.putC (fullC_small (by decide) ⟨by omega, by omega⟩)
  have h6 : (boot6 t).Plainly := h5.putC (rootC_small ⟨by omega, by omega⟩)
  exact ⟨h6.cap, h6.par, h6.kids, h6.ob, h6.bare⟩
theorem RSt.Plainly.fitG (h : S.Plainly) (hn : U64 S.ns) (ho : U64 S.no) : S.FitG where
  fit := ⟨fun i _ => h.cap i, fun i _ => by rw [h.par]; exact ⟨Int.le_refl _, show (-1 : Int) < 96 by decide⟩, fun i _ x hx => by rw [h.kids] at hx; simp at hx, hn, ho⟩
  short := fun i => by rw [h.kids]; simp
  ob := fun i _ => h.ob i
theorem RSt.Plainly.tree (h : S.Plainly) : Tree S.par S.kids := by
  rw [h.par, h.kids]
  exact ⟨fun _ _ => List.nodup_nil, fun p k hp => ⟨fun hm => by simp at hm, fun e => by have := hp.1; omega⟩, fun _ _ => .inl rfl⟩
theorem boot_fitG (ht : t ≤ 7) : (bootS t).FitG := (boot_plainly ht).fitG ⟨show (0 : Int) ≤ 40 by decide, show (40 : Int) ≤ _ by decide⟩ ⟨by show (0 : Int) ≤ ((t + 8 : Nat) : Int); omega, by show ((t + 8 : Nat) : Int) ≤ _; omega⟩
end
end Go.Proofs.Ytloeofhchfaieaa
