/- Records as mathematics (layer 6): a map with numbers as keys as it lies, what a run of a record has written and lacks. No dump is read here. -/
import Derived.Test.YtleomgmhkoglmaaMem
import Derived.Maps.OwnSet
import Derived.Maps.Views
import Derived.WalkArith
namespace Go.Proofs.Ytleomgmhkoglmaa
open Go.RowKit Go.Maps Go.WideShapes
/-- a cell that was learnt -/
structure Cl where
  v : Int
  ver : Int
  mark : Int
def Cl.val (c : Cl) : Value := .agg #[.int .u64 c.v, .int .u32 c.ver, .int .i64 c.mark]
def Cl.d (c : Cl) : DataW Unit := .agg [.lit (.int .u64 c.v), .lit (.int .u32 c.ver), .lit (.int .i64 c.mark)]
/-- how a cell reads -/
def cellR : Value → Option (DataW Unit × List MemPlace)
  | .agg cs => match cs.toList with
    | [.int .u64 v, .int .u32 r, .int .i64 m] => some (.agg [.lit (.int .u64 v), .lit (.int .u32 r), .lit (.int .i64 m)], [])
    | _ => none
  | _ => none
/-- how a word reads -/
def wordR : Value → Option (DataW Unit × List MemPlace)
  | .int .u64 v => some (.lit (.int .u64 v), [])
  | _ => none
/-- how a bool reads -/
def boolR : Value → Option (DataW Unit × List MemPlace)
  | .bool v => some (.lit (.bool v), [])
  | _ => none
def wordD (v : Int) : DataW Unit := .lit (.int .u64 v)
def boolD (v : Bool) : DataW Unit := .lit (.bool v)
theorem cellR_mk (c : Cl) : cellR c.val = some (c.d, []) := rfl
theorem wordR_mk (v : Int) : wordR (.int .u64 v) = some (wordD v, []) := rfl
theorem boolR_mk (v : Bool) : boolR (.bool v) = some (boolD v, []) := rfl
theorem cellR_inv {v : Value} {z : DataW Unit × List MemPlace} (h : cellR v = some z) : ∃ c : Cl, v = c.val ∧ z.1 = c.d := by
  unfold cellR at h
  split at h
  · next cs =>
    split at h
    · next v r m e =>
      cases h
      refine ⟨⟨v, r, m⟩, ?_, rfl⟩
      rw [Cl.val, ← e]
    · cases h
  · cases h
theorem wordR_inv {v : Value} {z : DataW Unit × List MemPlace} (h : wordR v = some z) : ∃ c : Int, v = .int .u64 c ∧ z.1 = wordD c := by
  unfold wordR at h
  split at h
  · cases h; exact ⟨_, rfl, rfl⟩
  · cases h
theorem boolR_inv {v : Value} {z : DataW Unit × List MemPlace} (h : boolR v = some z) : ∃ c : Bool, v = .bool c ∧ z.1 = boolD c := by
  unfold boolR at h
  split at h
  · cases h; exact ⟨_, rfl, rfl⟩
  · cases h
theorem Cl.d_inj {a b : Cl} (h : a.d = b.d) : a = b := by
  cases a; cases b
  simp [Cl.d] at h
  obtain ⟨rfl, rfl, rfl⟩ := h
  rfl
theorem wordD_inj {a b : Int} (h : wordD a = wordD b) : a = b := by simpa [wordD] using h
theorem boolD_inj {a b : Bool} (h : boolD a = boolD b) : a = b := by simpa [boolD] using h

/-- what makes the elements of a map: their values, what they read as -/
structure Elm (α : Type) where
  R : Value → Option (DataW Unit × List MemPlace)
  val : α → Value
  d : α → DataW Unit
  zero : α
  reads : ∀ a, R (val a) = some (d a, [])
  inv : ∀ {v z}, R v = some z → ∃ a, v = val a ∧ z.1 = d a
  inj : ∀ {a b}, d a = d b → a = b
def cellE : Elm Cl := ⟨cellR, Cl.val, Cl.d, ⟨0, 0, 0⟩, cellR_mk, cellR_inv, Cl.d_inj⟩
def wordE : Elm Int := ⟨wordR, .int .u64, wordD, 0, wordR_mk, wordR_inv, wordD_inj⟩
def boolE : Elm Bool := ⟨boolR, .bool, boolD, false, boolR_mk, boolR_inv, boolD_inj⟩

/-- block b is a map, of at most n entries, of sz, that has what F says -/
def MapIn {α : Type} (E : Elm α) (P : Program) (k : TypeId) (w : World) (b n : Nat) (F : Int → Option α) (sz : Nat) : Prop :=
  ∃ D : DataW Unit, w.ownsMap P k E.R b n D ∧ Maps.size D = sz ∧ ∀ x, Maps.has D (.int .i64 x) = (F x).isSome ∧ ∀ c, F x = some c → ∀ z, D.atKey (.int .i64 x) z = E.d c
/-- a function, turned at one place -/
def upd {α : Type} (F : Int → Option α) (x : Int) (c : α) : Int → Option α := fun y => if y = x then some c else F y
section
variable {α : Type} {E : Elm α} {P : Program} {k : TypeId} {w w' : World} {b n sz : Nat} {F : Int → Option α}
theorem upd_same (F : Int → Option α) (x : Int) (c : α) : upd F x c x = some c := if_pos rfl
theorem upd_other {x y : Int} (c : α) (h : y ≠ x) : upd F x c y = F y := if_neg h
theorem MapIn.lt (h : MapIn E P k w b n F sz) : b < w.heap.size := by obtain ⟨D, h, -⟩ := h; exact h.lt
theorem MapIn.same (h : MapIn E P k w b n F sz) (hb : w'.heap[b]? = w.heap[b]?) : MapIn E P k w' b n F sz := by
  obtain ⟨D, ⟨es, clock, hh, r⟩, hr⟩ := h
  exact ⟨D, ⟨es, clock, hb.trans hh, r⟩, hr⟩
theorem MapIn.only {S : List Nat} (h : MapIn E P k w b n F sz) (ho : Only S w w') (hb : b ∉ S) : MapIn E P k w' b n F sz := h.same (ho.block b h.lt hb)
theorem MapIn.drewN (h : MapIn E P k w b n F sz) (m : Nat) : MapIn E P k (w.drewN m) b n F sz := h.same rfl
theorem MapIn.mono (h : MapIn E P k w b n F sz) {n' : Nat} (hn : n ≤ n') : MapIn E P k w b n' F sz := by
  obtain ⟨D, h, hr⟩ := h
  exact ⟨D, h.mono hn, hr⟩
theorem MapIn.le (h : MapIn E P k w b n F sz) : sz ≤ n := by
  obtain ⟨D, h, rfl, -⟩ := h
  exact h.size_le
theorem MapIn.made (E : Elm α) (P : Program) (k : TypeId) (w : World) : MapIn E P k (w.alloc (.map #[] 0)) w.heap.size 0 (fun _ => none) 0 :=
  ⟨_, World.ownsMap_made w P k E.R, rfl, fun x => ⟨rfl, fun c hc => by cases hc⟩⟩
theorem MapIn.ne_blk (h : MapIn E P k w b n F sz) {g : Nat} {t : TypeId} {cs : Array Value} (hg : Blk w g t cs) : g ≠ b := by
  rintro rfl
  obtain ⟨D, ⟨es, clock, hh, -⟩, -⟩ := h
  rw [hg] at hh
  cases hh
theorem mapTurned_only (h : w.mapTurned w' b) : Only [b] w w' := by
  have hg := h.grown
  exact ⟨hg.os, hg.tape, hg.output, hg.size, fun i hi hn => hg.block i hi (fun e => hn (by simp at e; simp [e]))⟩
/-- a store, as the walk's law leaves it -/
theorem MapIn.put_of {D : DataW Unit} (hown : w.ownsMap P k E.R b n D) (K : Keyed P k) (hsz : Maps.size D = sz) (hF : ∀ x, Maps.has D (.int .i64 x) = (F x).isSome ∧ ∀ c, F x = some c → ∀ z, D.atKey (.int .i64 x) z = E.d c)
    (x : Int) (c : α) (h' : w'.ownsMap P k E.R b (n + 1) (D.put (.int .i64 x) (E.d c))) : MapIn E P k w' b (n + 1) (upd F x c) (if (F x).isSome then sz else sz + 1) := by
  have hT := hown.tidy K
  refine ⟨_, h', ?_, fun y => ?_⟩
  · rw [Maps.size_put hT, (hF x).1, hsz]
  · by_cases e : y = x
    · subst e
      rw [upd_same]
      refine ⟨Maps.has_put_same hT.isMap (by trivial) _, fun c' hc' z => ?_⟩
      cases hc'
      exact Maps.atKey_put_same hT.isMap (by trivial) _ _
    · have hne : Lit.int .i64 y ≠ Lit.int .i64 x := fun h => e (by simpa using h)
      rw [upd_other c e]
      exact ⟨(Maps.has_put_other hne _).trans (hF y).1, fun c' hc' z => (Maps.atKey_put_other hne _ _).trans ((hF y).2 c' hc' z)⟩
theorem MapIn.update (h : MapIn E P k w b n F sz) {t e : TypeId} (K : Keyed P k) (ht : P.underlying t = some (.map k e)) (hk : P.underlying k = some (.int .i64)) (hn : n < maxLen) {x : Int} (hx : (Lit.int .i64 x).wf = true) (c : α) :
    ∃ w', (Instr.mapUpdate t (.map (some b)) (.int .i64 x) (E.val c)).run P w = .ok () w' ∧ MapIn E P k w' b (n + 1) (upd F x c) (if (F x).isSome then sz else sz + 1) ∧ Only [b] w w' := by
  obtain ⟨D, hown, hsz, hF⟩ := h
  obtain ⟨w', hrun, h', hT⟩ := hown.store K ht hn (keyOf_int_mk hk hx) (E.reads c)
  exact ⟨w', hrun, MapIn.put_of hown K hsz hF x c h', mapTurned_only hT⟩
theorem MapIn.look_ok (h : MapIn E P k w b n F sz) {t e : TypeId} (K : Keyed P k) (ht : P.underlying t = some (.map k e)) (hk : P.underlying k = some (.int .i64)) (hz : (zeroValue e).run P w = .ok (E.val E.zero) w) {x : Int} (hx : (Lit.int .i64 x).wf = true) :
    (Instr.lookup t (.map (some b)) (.int .i64 x) true).run P w = .ok (.tuple #[E.val ((F x).getD E.zero), .bool (F x).isSome]) w := by
  obtain ⟨D, hown, -, hF⟩ := h
  obtain ⟨v, ps, hrun, hv⟩ := hown.look_ok K ht hz (E.reads E.zero) (keyOf_int_mk hk hx)
  obtain ⟨a, rfl, ha⟩ := E.inv hv
  rw [hrun, (hF x).1]
  cases hc : F x with
  | none =>
    have hn : Maps.has D (.int .i64 x) = false := by rw [(hF x).1, hc]; rfl
    have : E.d E.zero = E.d a := by rw [← ha]; exact (Maps.atKey_of_not_has hn _).symm
    rw [E.inj this]
    rfl
  | some c =>
    have : E.d c = E.d a := by rw [← ha]; exact ((hF x).2 c hc _).symm
    rw [E.inj this]
    rfl
theorem MapIn.look (h : MapIn E P k w b n F sz) {t e : TypeId} (K : Keyed P k) (ht : P.underlying t = some (.map k e)) (hk : P.underlying k = some (.int .i64)) (hz : (zeroValue e).run P w = .ok (E.val E.zero) w) {x : Int} (hx : (Lit.int .i64 x).wf = true) :
    (Instr.lookup t (.map (some b)) (.int .i64 x) false).run P w = .ok (E.val ((F x).getD E.zero)) w := by
  obtain ⟨D, hown, -, hF⟩ := h
  obtain ⟨v, ps, hrun, hv⟩ := hown.lookup K ht hz (E.reads E.zero) (keyOf_int_mk hk hx)
  obtain ⟨a, rfl, ha⟩ := E.inv hv
  rw [hrun]
  cases hc : F x with
  | none =>
    have hn : Maps.has D (.int .i64 x) = false := by rw [(hF x).1, hc]; rfl
    have : E.d E.zero = E.d a := by rw [← ha]; exact (Maps.atKey_of_not_has hn _).symm
    rw [E.inj this]
    rfl
  | some c =>
    have : E.d c = E.d a := by rw [← ha]; exact ((hF x).2 c hc _).symm
    rw [E.inj this]
    rfl
theorem MapIn.len (h : MapIn E P k w b n F sz) {t e : TypeId} (ht : P.underlying t = some (.map k e)) (ty : TypeId) : (Builtin.len_ #[t] ty #[.map (some b)]).run P w = .ok (.int .i64 sz) w := by
  obtain ⟨D, hown, rfl, -⟩ := h
  exact hown.len ht ty
end

/-- is there a cell i -/
def inB (cells i : Int) : Bool := decide (0 ≤ i ∧ i < cells)
theorem inB_yes {cells i : Int} : inB cells i = true ↔ 0 ≤ i ∧ i < cells := by simp [inB]
theorem inB_no {cells i : Int} : inB cells i = false ↔ i < 0 ∨ cells ≤ i := by simp [inB]; omega
/-- a run of a record: what it has written, which cell it lacks -/
structure Dt where
  wr : Int → Option Int
  lk : Option Int
def Dt.new : Dt := ⟨fun _ => none, none⟩
/-- cell i is wanted -/
def needD (R : Int → Option Cl) (s : Dt) (i : Int) : Dt := if (R i).isNone && s.lk.isNone then { s with lk := some i } else s
def valD' (R : Int → Option Cl) (s : Dt) (i : Int) : Int := (s.wr i).getD ((R i).getD ⟨0, 0, 0⟩).v
def rdD (n : Int) (R : Int → Option Cl) (s : Dt) (i : Int) : Int × Dt := if inB n i = true then (valD' R s i, needD R s i) else (0, s)
def wrD (n : Int) (R : Int → Option Cl) (s : Dt) (i v : Int) : Dt := if inB n i = true then { needD R s i with wr := upd s.wr i v } else s
theorem needD_wr (R : Int → Option Cl) (s : Dt) (i : Int) : (needD R s i).wr = s.wr := by unfold needD; split <;> rfl
end Go.Proofs.Ytleomgmhkoglmaa
