/- What Words of the document's state puts for objects (layers 11 to 21), as mathematics; an object of the state as it lies beside the words. -/
import Derived.Test.YtihipcbhfjpgbaaJ5
namespace Go.Proofs.Ytihipcbhfjpgbaa
open Go.RowKit
/-- a sum of words -/
def addU (a b : Int) : Int := (a + b) % 18446744073709551616
theorem addU_rng (a b : Int) : U64 (addU a b) := by unfold addU; constructor <;> omega
def RObj.pg (x : RObj) : Nat → Int
  | 0 => x.p0
  | 1 => x.p1
  | 2 => x.p2
  | _ => x.p3
def RObj.rt (x : RObj) : Nat → Int
  | 0 => x.r0
  | 1 => x.r1
  | 2 => x.r2
  | _ => x.r3
/-- the word of field f of object i -/
abbrev ow (i f : Nat) : Int := ((480 + 8 * i + f : Nat) : Int)
def threadL (i : Nat) (x : RObj) (L : List Int) : List Int :=
  setL (setL (setL (setL (setL (setL (setL L (ow i 1) x.state) (ow i 2) (addU (atL (setL L (ow i 1) x.state) (ow i 2)) (x.owing + 1))) (ow i 3) x.word) (ow i 4) x.badge) (ow i 5) (x.prio + 256 * (x.on + 1))) (ow i 6) (x.owes + 1)) (ow i 7) x.root.word
def pageL (i : Nat) (x : RObj) (L : List Int) (p : Nat) : List Int := if 0 ≤ x.pg p then setL L (ow i (1 + p)) (8 * (x.pg p + 1) + x.rt p) else L
def spaceL (i : Nat) (x : RObj) (L : List Int) : Nat → List Int
  | 0 => L
  | n + 1 => pageL i x (spaceL i x L n) n
/-- what an object's kind puts -/
def kindL (i : Nat) (x : RObj) (L : List Int) : List Int :=
  if x.kind = 1 then setL (setL L (ow i 1) x.size) (ow i 2) x.used
  else if x.kind = 2 then setL (setL L (ow i 1) x.first) (ow i 2) x.radix
  else if x.kind = 3 then setL L (ow i 1) x.wait
  else if x.kind = 4 then setL L (ow i 1) x.word
  else if x.kind = 5 then threadL i x L
  else if x.kind = 6 then setL (setL L (ow i 1) (x.inn + 1)) (ow i 2) x.page
  else if x.kind = 7 then spaceL i x L 4
  else if x.kind = 8 then setL (setL (setL L (ow i 1) (x.bound + 1)) (ow i 2) x.badge) (ow i 3) x.mask
  else L
/-- what its queue puts, at place m -/
def queueW (i : Nat) (l : List Int) (m : Nat) : List (Int × Int) :=
  (if m = 0 then [(ow i 2, l.getD m 0 + 1)] else []) ++ (if m + 1 < l.length then [(480 + 8 * l.getD m 0 + 2, l.getD (m + 1) 0 + 1)] else [(ow i 3, l.getD m 0 + 1)])
def queueL (i : Nat) (l : List Int) (L : List Int) (n : Nat) : List Int := applyW ((List.range n).flatMap (queueW i l)) L
theorem queueL_succ (i : Nat) (l L : List Int) (n : Nat) : queueL i l L (n + 1) = applyW (queueW i l n) (queueL i l L n) := applyW_step _ _ _
/-- what object i puts -/
def objL (S : RSt) (L : List Int) (i : Nat) : List Int := queueL i (S.ob i).queue (kindL i (S.ob i) (setL L (ow i 0) (S.ob i).kind)) (S.ob i).queue.length
def objsL (S : RSt) (L : List Int) : Nat → List Int
  | 0 => L
  | n + 1 => objL S (objsL S L n) n
/-- all words of a state -/
def wordsG (S : RSt) : List Int := setL (setL (objsL S (applyW ((List.range 96).flatMap (slotW S)) zeros) 32) 736 S.ns) 737 S.no
/-- an object's numbers are not great -/
structure RObj.FitO (x : RObj) : Prop where
  kind : 0 ≤ x.kind ∧ x.kind ≤ 1099511627776
  size : 0 ≤ x.size ∧ x.size ≤ 1099511627776
  used : 0 ≤ x.used ∧ x.used ≤ 1099511627776
  first : 0 ≤ x.first ∧ x.first ≤ 1099511627776
  radix : 0 ≤ x.radix ∧ x.radix ≤ 1099511627776
  wait : 0 ≤ x.wait ∧ x.wait ≤ 1099511627776
  word : 0 ≤ x.word ∧ x.word ≤ 1099511627776
  state : 0 ≤ x.state ∧ x.state ≤ 1099511627776
  owing : -1 ≤ x.owing ∧ x.owing ≤ 1099511627776
  badge : 0 ≤ x.badge ∧ x.badge ≤ 1099511627776
  prio : 0 ≤ x.prio ∧ x.prio ≤ 1099511627776
  on : -1 ≤ x.on ∧ x.on ≤ 1099511627776
  owes : -1 ≤ x.owes ∧ x.owes ≤ 1099511627776
  root : x.root.Small
  pg : ∀ p, p < 4 → -1 ≤ x.pg p ∧ x.pg p ≤ 1099511627776
  rt : ∀ p, p < 4 → 0 ≤ x.rt p ∧ x.rt p ≤ 1099511627776
  inn : -1 ≤ x.inn ∧ x.inn ≤ 1099511627776
  page : 0 ≤ x.page ∧ x.page ≤ 1099511627776
  bound : -1 ≤ x.bound ∧ x.bound ≤ 1099511627776
  mask : 0 ≤ x.mask ∧ x.mask ≤ 1099511627776
  qin : ∀ t, t ∈ x.queue → 0 ≤ t ∧ t < 32
  qlen : x.queue.length ≤ 500
structure RSt.FitG (S : RSt) : Prop where
  fit : S.Fit
  short : S.Short
  ob : ∀ i : Nat, i < 32 → (S.ob i).FitO
theorem RefAt.obj {w : World} {p gs go : Nat} {S : RSt} (h : RefM w p gs go S) {i : Nat} (hi : i < 32) : ∃ A cp, w.rangeAt go (i * 32) (objRow (S.ob i) (.slice A (S.ob i).queue.length cp)) ∧ RowN w A ItT irow' 1 (S.ob i).queue := by
  obtain ⟨-, -, ⟨cur, h2, h3⟩⟩ := h
  obtain ⟨qv, q1, A, cp, rfl, q2, -⟩ := h3 i hi
  exact ⟨A, cp, fun j v hv => by rw [h2.cell]; exact q1 j v hv, q2⟩
theorem kinds (kd : Int) : kd = 1 ∨ kd = 2 ∨ kd = 3 ∨ kd = 4 ∨ kd = 5 ∨ kd = 6 ∨ kd = 7 ∨ kd = 8 ∨ (kd ≠ 1 ∧ kd ≠ 2 ∧ kd ≠ 3 ∧ kd ≠ 4 ∧ kd ≠ 5 ∧ kd ≠ 6 ∧ kd ≠ 7 ∧ kd ≠ 8) := by omega
theorem ix0 {k : Nat} (h : k < 32) : ((480 : Int) + 8 * (k : Int)).toNat = 480 + 8 * k ∧ (480 : Int) + 8 * (k : Int) < 738 ∧ 480 + 8 * k < 738 ∧ (0 : Int) ≤ 480 + 8 * (k : Int) := by omega
theorem ix1 {k : Nat} (h : k < 32) : ((480 : Int) + 8 * (k : Int) + 1).toNat = 480 + 8 * k + 1 ∧ (480 : Int) + 8 * (k : Int) + 1 < 738 ∧ 480 + 8 * k + 1 < 738 ∧ (0 : Int) ≤ 480 + 8 * (k : Int) + 1 := by omega
theorem ix2 {k : Nat} (h : k < 32) : ((480 : Int) + 8 * (k : Int) + 2).toNat = 480 + 8 * k + 2 ∧ (480 : Int) + 8 * (k : Int) + 2 < 738 ∧ 480 + 8 * k + 2 < 738 ∧ (0 : Int) ≤ 480 + 8 * (k : Int) + 2 := by omega
theorem ix3 {k : Nat} (h : k < 32) : ((480 : Int) + 8 * (k : Int) + 3).toNat = 480 + 8 * k + 3 ∧ (480 : Int) + 8 * (k : Int) + 3 < 738 ∧ 480 + 8 * k + 3 < 738 ∧ (0 : Int) ≤ 480 + 8 * (k : Int) + 3 := by omega
theorem ix4 {k : Nat} (h : k < 32) : ((480 : Int) + 8 * (k : Int) + 4).toNat = 480 + 8 * k + 4 ∧ (480 : Int) + 8 * (k : Int) + 4 < 738 ∧ 480 + 8 * k + 4 < 738 ∧ (0 : Int) ≤ 480 + 8 * (k : Int) + 4 := by omega
theorem ix5 {k : Nat} (h : k < 32) : ((480 : Int) + 8 * (k : Int) + 5).toNat = 480 + 8 * k + 5 ∧ (480 : Int) + 8 * (k : Int) + 5 < 738 ∧ 480 + 8 * k + 5 < 738 ∧ (0 : Int) ≤ 480 + 8 * (k : Int) + 5 := by omega
theorem ix6 {k : Nat} (h : k < 32) : ((480 : Int) + 8 * (k : Int) + 6).toNat = 480 + 8 * k + 6 ∧ (480 : Int) + 8 * (k : Int) + 6 < 738 ∧ 480 + 8 * k + 6 < 738 ∧ (0 : Int) ≤ 480 + 8 * (k : Int) + 6 := by omega
theorem ix7 {k : Nat} (h : k < 32) : ((480 : Int) + 8 * (k : Int) + 7).toNat = 480 + 8 * k + 7 ∧ (480 : Int) + 8 * (k : Int) + 7 < 738 ∧ 480 + 8 * k + 7 < 738 ∧ (0 : Int) ≤ 480 + 8 * (k : Int) + 7 := by omega
theorem ixp {k p : Nat} (h : k < 32) (hp : p < 4) : ((480 : Int) + 8 * (k : Int) + 1 + (p : Int)).toNat = 480 + 8 * k + (1 + p) ∧ (480 : Int) + 8 * (k : Int) + 1 + (p : Int) < 738 ∧ 480 + 8 * k + (1 + p) < 738 ∧ (0 : Int) ≤ 480 + 8 * (k : Int) + 1 + (p : Int) ∧ IntKind.i64.wrap ((480 : Int) + 8 * (k : Int) + 1 + (p : Int)) = 480 + 8 * (k : Int) + 1 + (p : Int) ∧ IntKind.i64.wrap ((480 : Int) + 8 * (k : Int) + 1) = 480 + 8 * (k : Int) + 1 ∧ (0 : Int) ≤ (p : Int) ∧ (p : Int) < 4 ∧ ((p : Int)).toNat = p := by
  simp only [IntKind.wrap_i64]
  omega
theorem wrS {a b : Int} (h : 0 ≤ a ∧ a ≤ 1099511627776) (h' : 0 ≤ b ∧ b ≤ 1099511627776) : IntKind.i64.wrap (b + 1) = b + 1 ∧ IntKind.i64.wrap (8 * (b + 1)) = 8 * (b + 1) ∧ IntKind.i64.wrap (8 * (b + 1) + a) = 8 * (b + 1) + a ∧ IntKind.u64.wrap (8 * (b + 1) + a) = 8 * (b + 1) + a := by
  simp only [IntKind.wrap_i64, IntKind.wrap_u64]
  omega
theorem ixt {y : Nat} (h : y < 32) : ((480 : Int) + 8 * (y : Int) + 2).toNat = 480 + 8 * y + 2 ∧ (480 : Int) + 8 * (y : Int) + 2 < 738 ∧ 480 + 8 * y + 2 < 738 ∧ (0 : Int) ≤ 480 + 8 * (y : Int) + 2 ∧ U64 ((y : Int) + 1) := by
  unfold U64
  omega
theorem ixm {m n : Nat} (h : m + 1 < n) (_hn : n ≤ 500) : ((m : Int) + 1).toNat = m + 1 ∧ (m : Int) + 1 < (n : Int) ∧ (0 : Int) ≤ (m : Int) + 1 := by omega
theorem nat_of {t : Int} (h : 0 ≤ t ∧ t < 32) : ∃ y : Nat, t = (y : Int) ∧ y < 32 := ⟨t.toNat, by omega, by omega⟩
theorem get_d {l : List Int} {m : Nat} {t : Int} (h : l[m]? = some t) : l.getD m 0 = t := by rw [List.getD_eq_getElem?_getD, h]; rfl
/-- the queue's first word, and the next ones -/
def qw1 (i : Nat) (l : List Int) (m : Nat) (L : List Int) : List Int := if m = 0 then setL L (ow i 2) (l.getD m 0 + 1) else L
def qw2 (i : Nat) (l : List Int) (m : Nat) (L : List Int) : List Int := if m + 1 < l.length then setL L (480 + 8 * l.getD m 0 + 2) (l.getD (m + 1) 0 + 1) else setL L (ow i 3) (l.getD m 0 + 1)
theorem queueL_two (i : Nat) (l L : List Int) (m : Nat) : queueL i l L (m + 1) = qw2 i l m (qw1 i l m (queueL i l L m)) := by
  rw [queueL_succ]
  unfold queueW qw1 qw2
  split <;> split <;> rfl
theorem cast_y (y : Nat) : (480 : Int) + 8 * (y : Int) + 2 = ((480 + 8 * y + 2 : Nat) : Int) := by omega
theorem eq_no {m : Nat} (h : m ≠ 0) : ((m : Int) == 0) = false := by simp; omega
theorem next_no {m n : Nat} (h : ¬ m + 1 < n) : ¬ (m : Int) + 1 < (n : Int) := by omega
theorem wr2 {k : Nat} (h : k < 32) : IntKind.i64.wrap ((480 : Int) + 8 * (k : Int) + 2) = 480 + 8 * (k : Int) + 2 := by rw [IntKind.wrap_i64]; omega
theorem wrI {a : Int} (h0 : -9223372036854775808 ≤ a) (h1 : a ≤ 9223372036854775807) : IntKind.i64.wrap a = a := by rw [IntKind.wrap_i64]; omega
theorem wrU {a : Int} (h : U64 a) : IntKind.u64.wrap a = a := by obtain ⟨h0, h1⟩ := h; rw [IntKind.wrap_u64]; omega
theorem wrA (a b : Int) : IntKind.u64.wrap (a + b) = addU a b := by rw [IntKind.wrap_u64]; rfl
theorem wrP {a : Int} (h : -1 ≤ a ∧ a ≤ 1099511627776) : IntKind.i64.wrap (a + 1) = a + 1 ∧ IntKind.u64.wrap (a + 1) = a + 1 ∧ U64 (a + 1) ∧ 0 ≤ a + 1 := ⟨wrI (by omega) (by omega), wrU ⟨by omega, by omega⟩, ⟨by omega, by omega⟩, by omega⟩
theorem big40 {a : Int} (h : 0 ≤ a ∧ a ≤ 1099511627776) : U64 a := ⟨by omega, by omega⟩
theorem big41 {a : Int} (h : -1 ≤ a ∧ a ≤ 1099511627776) : U64 (a + 1) := ⟨by omega, by omega⟩
theorem big256 {a b : Int} (h : 0 ≤ a ∧ a ≤ 1099511627776) (h' : -1 ≤ b ∧ b ≤ 1099511627776) : U64 (a + 256 * (b + 1)) ∧ 0 ≤ a + 256 * (b + 1) ∧ a + 256 * (b + 1) ≤ 9223372036854775807 ∧ 0 ≤ 256 * (b + 1) ∧ 256 * (b + 1) ≤ 9223372036854775807 := by unfold U64; omega
theorem big8 {a b : Int} (h : 0 ≤ a ∧ a ≤ 1099511627776) (h' : -1 ≤ b ∧ b ≤ 1099511627776) : U64 (8 * (b + 1) + a) := ⟨by omega, by omega⟩
/-- words being made, an object beside them -/
structure OAt (w0 : World) (g B : Nat) (A : Option Addr) (cp : Nat) (x : RObj) (L : List Int) (W : World) : Prop where
  mem : MemP g 738 UT W L
  only : Only [] w0 W
  blk : Blk W B ObT (objRow x (.slice A x.queue.length cp)).toArray
  row : RowN W A ItT irow' 1 x.queue
  gw : w0.heap.size ≤ g
  ne : B ≠ g
section
variable {w0 W W' : World} {g B cp m : Nat} {A : Option Addr} {x : RObj} {L : List Int} {v : Int}
theorem OAt.only0 (h : OAt w0 g B A cp x L W) (ho : Only [] W W') : OAt w0 g B A cp x L W' :=
  ⟨h.mem.only ho (by simp), h.only.trans ho, ho.blk h.blk (by simp), h.row.only ho (fun _ _ _ => by simp), h.gw, h.ne⟩
theorem OAt.put (h : OAt w0 g B A cp x L W) (hm : m < 738) (hv : U64 v) : OAt w0 g B A cp x (setL L (m : Int) v) (W.setCell ⟨g, m, none⟩ (.int .u64 v)) := by
  have ho : Only [g] W (W.setCell ⟨g, m, none⟩ (.int .u64 v)) := (Only.refl _ _).setCell (.inl (by simp)) _
  refine ⟨h.mem.put hm hv, h.only.setCell (.inr h.gw) _, ho.blk h.blk (by simpa using h.ne), h.row.only ho (fun y cur hy he => ?_), h.gw, h.ne⟩
  simp at he
  subst he
  obtain ⟨cur', hb, -⟩ := h.mem.row
  exact absurd (hy.uniq hb).1 (by decide)
theorem OAt.pg (h : OAt w0 g B A cp x L W) {p : Nat} (hp : p < 4) : W.cell? ⟨B, 20 + p, none⟩ = some (.int .i64 (x.pg p)) ∧ W.cell? ⟨B, 24 + p, none⟩ = some (.int .i64 (x.rt p)) := by
  rw [h.blk.cell, h.blk.cell]
  match p, hp with
  | 0, _ => exact ⟨rfl, rfl⟩
  | 1, _ => exact ⟨rfl, rfl⟩
  | 2, _ => exact ⟨rfl, rfl⟩
  | 3, _ => exact ⟨rfl, rfl⟩
theorem OAt.cell (h : OAt w0 g B A cp x L W) {j : Nat} {u : Value} (hj : (objRow x (.slice A x.queue.length cp))[j]? = some u) : W.cell? ⟨B, j, none⟩ = some u := by
  rw [h.blk.cell]
  simpa using hj
end
end Go.Proofs.Ytihipcbhfjpgbaa
