/- The document's state of layers 9 to 21, as mathematics and as it lies: slots, objects; rows of a block. No dump is read here. -/
import Derived.Test.YtihipcbhfjpgbaaTreeM
import Derived.Test.YtihipcbhfjpgbaaJ2
namespace Go.Proofs.Ytihipcbhfjpgbaa
open Go.RowKit
/-- an object of the document's state -/
structure RObj where
  kind : Int
  size : Int
  used : Int
  first : Int
  radix : Int
  wait : Int
  queue : List Int
  word : Int
  state : Int
  owing : Int
  badge : Int
  prio : Int
  on : Int
  owes : Int
  root : Cp
  p0 : Int
  p1 : Int
  p2 : Int
  p3 : Int
  r0 : Int
  r1 : Int
  r2 : Int
  r3 : Int
  inn : Int
  page : Int
  bound : Int
  mask : Int
/-- without anything -/
def RObj.fresh (kind : Int) : RObj := ⟨kind, 0, 0, 0, 0, 0, [], 0, 0, -1, 0, 0, -1, -1, Cp.zero, -1, -1, -1, -1, 0, 0, 0, 0, -1, 0, -1, 0⟩
/-- the document's state: of each slot its capability, its parent, its kids; of each object what it is; how many are used -/
structure RSt where
  cap : Int → Cp
  par : Int → Int
  kids : Int → List Int
  ob : Int → RObj
  ns : Int
  no : Int
def RSt.new : RSt := ⟨fun _ => Cp.zero, fun _ => -1, fun _ => [], fun _ => RObj.fresh 0, 0, 0⟩
def irow' (x : Int) : List Value := [.int .i64 x]
/-- the eight cells of a slot, its kids' slice as it lies -/
def slotRow (c : Cp) (par : Int) (kv : Value) : List Value := [.int .i64 c.kind, .int .i64 c.rights, .int .i64 c.obj, .int .i64 c.badge, .int .i64 c.guard, .int .i64 c.bits, .int .i64 par, kv]
/-- the 32 cells of an object, its queue's slice as it lies -/
def objRow (x : RObj) (qv : Value) : List Value :=
  [.int .i64 x.kind, .int .i64 x.size, .int .i64 x.used, .int .i64 x.first, .int .i64 x.radix, .int .i64 x.wait, qv, .int .i64 x.word, .int .i64 x.state, .int .i64 x.owing, .int .i64 x.badge, .int .i64 x.prio, .int .i64 x.on, .int .i64 x.owes,
   .int .i64 x.root.kind, .int .i64 x.root.rights, .int .i64 x.root.obj, .int .i64 x.root.badge, .int .i64 x.root.guard, .int .i64 x.root.bits,
   .int .i64 x.p0, .int .i64 x.p1, .int .i64 x.p2, .int .i64 x.p3, .int .i64 x.r0, .int .i64 x.r1, .int .i64 x.r2, .int .i64 x.r3, .int .i64 x.inn, .int .i64 x.page, .int .i64 x.bound, .int .i64 x.mask]
/-- row i of a block of rows of n cells -/
def RowOf (cur : Array Value) (n i : Nat) (row : List Value) : Prop := ∀ (j : Nat) (v : Value), row[j]? = some v → cur[i * n + j]? = some v
section
variable {cur : Array Value} {n i k : Nat} {row : List Value}
theorem RowOf.far (h : RowOf cur n i row) (hl : row.length ≤ n) {j : Nat} (hj : j < n) (hne : i ≠ k) (v : Value) : RowOf (cur.setIfInBounds (k * n + j) v) n i row := fun m u hu => by
  have hm : m < row.length := (List.getElem?_eq_some_iff.1 hu).1
  have hmn : m < n := by omega
  have e : k * n + j ≠ i * n + m := fun e => by
    have h1 : (k * n + j) / n = (i * n + m) / n := by rw [e]
    have hn : 0 < n := by omega
    rw [Nat.mul_comm k, Nat.mul_comm i, Nat.mul_add_div hn, Nat.mul_add_div hn, Nat.div_eq_of_lt hj, Nat.div_eq_of_lt hmn] at h1
    omega
  rw [Array.getElem?_setIfInBounds_ne e]
  exact h m u hu
theorem RowOf.set_ (h : RowOf cur n i row) {j : Nat} (hj : j < row.length) (v : Value) : RowOf (cur.setIfInBounds (i * n + j) v) n i (row.set j v) := fun m u hu => by
  rw [List.getElem?_set] at hu
  split at hu
  · next e =>
    subst e
    cases hu
    have hlt : i * n + j < cur.size := by
      have := h j _ (List.getElem?_eq_getElem hj)
      exact (Array.getElem?_eq_some_iff.1 this).1
    rw [Array.getElem?_setIfInBounds_self_of_lt hlt]
  · next e =>
    rw [Array.getElem?_setIfInBounds_ne (by omega)]
    exact h m u hu
end
/-- a list of numbers, as a slice's value: in a block of their own, nil let in -/
def NumsV (w : World) (ti : TypeId) (v : Value) (L : List Int) : Prop := ∃ A cp, v = .slice A L.length cp ∧ RowN w A ti irow' 1 L
theorem NumsV.only {w w' : World} {ti : TypeId} {v : Value} {L : List Int} {S : List Nat} (h : NumsV w ti v L) (ho : Only S w w') (hS : ∀ g cur, Blk w g ti cur → g ∉ S) : NumsV w' ti v L := by
  obtain ⟨A, cp, e, hr⟩ := h
  exact ⟨A, cp, e, hr.only ho hS⟩
/-- the same, its room known -/
def NumsC (w : World) (ti : TypeId) (v : Value) (L : List Int) : Prop := ∃ A cp, v = .slice A L.length cp ∧ RowN w A ti irow' 1 L ∧ L.length ≤ cp
theorem NumsC.only {w w' : World} {ti : TypeId} {v : Value} {L : List Int} {S : List Nat} (h : NumsC w ti v L) (ho : Only S w w') (hS : ∀ g cur, Blk w g ti cur → g ∉ S) : NumsC w' ti v L := by
  obtain ⟨A, cp, e, hr, hc⟩ := h
  exact ⟨A, cp, e, hr.only ho hS, hc⟩
theorem NumsC.nil (w : World) (ti : TypeId) : NumsC w ti (.slice none 0 0) [] := ⟨none, 0, rfl, RowN.nil w none, Nat.le_refl _⟩
theorem NumsV.nil (w : World) (ti : TypeId) : NumsV w ti (.slice none 0 0) [] := ⟨none, 0, rfl, RowN.nil w none⟩
/-- the document's state lies at p (of type ts), its slots in block gs (of type tl), its objects in block go (of type to), lists of numbers in blocks of type ti -/
structure RefAt (w : World) (ts tl to ti : TypeId) (p gs go : Nat) (S : RSt) : Prop where
  head : ∃ cs co : Nat, Blk w p ts #[.slice (some ⟨gs, 0, none⟩) 96 cs, .slice (some ⟨go, 0, none⟩) 32 co, .int .i64 S.ns, .int .i64 S.no]
  slots : ∃ cur, Blk w gs tl cur ∧ ∀ i : Nat, i < 96 → ∃ kv, RowOf cur 8 i (slotRow (S.cap i) (S.par i) kv) ∧ NumsV w ti kv (S.kids i)
  objs : ∃ cur, Blk w go to cur ∧ ∀ i : Nat, i < 32 → ∃ qv, RowOf cur 32 i (objRow (S.ob i) qv) ∧ NumsC w ti qv (S.ob i).queue
section
variable {w w' : World} {ts tl to ti : TypeId} {p gs go : Nat} {S : RSt}
theorem RefAt.only {F : List Nat} (h : RefAt w ts tl to ti p gs go S) (ho : Only F w w') (hp : p ∉ F) (hgs : gs ∉ F) (hgo : go ∉ F) (hF : ∀ g cur, Blk w g ti cur → g ∉ F) : RefAt w' ts tl to ti p gs go S := by
  obtain ⟨⟨cs, co, h1⟩, ⟨cur, h2, h3⟩, ⟨cur', h4, h5⟩⟩ := h
  refine ⟨⟨cs, co, ho.blk h1 hp⟩, ⟨cur, ho.blk h2 hgs, fun i hi => ?_⟩, ⟨cur', ho.blk h4 hgo, fun i hi => ?_⟩⟩
  · obtain ⟨kv, q1, q2⟩ := h3 i hi
    exact ⟨kv, q1, q2.only ho hF⟩
  · obtain ⟨qv, q1, q2⟩ := h5 i hi
    exact ⟨qv, q1, q2.only ho hF⟩
theorem RefAt.only0 (h : RefAt w ts tl to ti p gs go S) (ho : Only [] w w') : RefAt w' ts tl to ti p gs go S := h.only ho (by simp) (by simp) (by simp) (fun _ _ _ => by simp)
theorem RefAt.drewN (h : RefAt w ts tl to ti p gs go S) (n : Nat) : RefAt (w.drewN n) ts tl to ti p gs go S := h.only0 ((Only.refl [] w).drewN n)
theorem RefAt.cSlots (h : RefAt w ts tl to ti p gs go S) : ∃ cs, w.cell? ⟨p, 0, none⟩ = some (.slice (some ⟨gs, 0, none⟩) 96 cs) := by
  obtain ⟨⟨cs, co, h1⟩, -, -⟩ := h
  exact ⟨cs, h1.cell 0⟩
theorem RefAt.cObjs (h : RefAt w ts tl to ti p gs go S) : ∃ co, w.cell? ⟨p, 1, none⟩ = some (.slice (some ⟨go, 0, none⟩) 32 co) := by
  obtain ⟨⟨cs, co, h1⟩, -, -⟩ := h
  exact ⟨co, h1.cell 1⟩
theorem RefAt.ltP (h : RefAt w ts tl to ti p gs go S) : p < w.heap.size := by obtain ⟨⟨cs, co, h1⟩, -, -⟩ := h; exact h1.lt
theorem RefAt.ltS (h : RefAt w ts tl to ti p gs go S) : gs < w.heap.size := by obtain ⟨-, ⟨cur, h2, -⟩, -⟩ := h; exact h2.lt
theorem RefAt.ltO (h : RefAt w ts tl to ti p gs go S) : go < w.heap.size := by obtain ⟨-, -, ⟨cur, h2, -⟩⟩ := h; exact h2.lt
end
end Go.Proofs.Ytihipcbhfjpgbaa
