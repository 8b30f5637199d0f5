/- A function of a view as mathematics: what it reads and writes, one behind the other (layers 9 and up). No dump is read here. -/
import Derived.Test.YtihipcbhfjpgbaaViewM
import Derived.Test.YtihipcbhfjpgbaaMem
import Derived.Laws.Bits64
import Derived.IntWalk
import Derived.Laws.Bits64b
namespace Go.Proofs.Ytihipcbhfjpgbaa
open Go.RowKit
/-- what is read and written of a view, as mathematics -/
structure Mach (σ : Type) where
  rd : σ → Int → Int × σ
  wr : σ → Int → Int → σ
/-- plain words -/
def machP : Mach (List Int) := ⟨fun L i => (atL L i, L), setL⟩
/-- a function that reads, writes, and tells something -/
inductive Vp (α : Type) : Type where
  | ret (a : α)
  | rd (i : Int) (k : Int → Vp α)
  | wr (i v : Int) (k : Vp α)
namespace Vp
variable {σ α β : Type}
def run (M : Mach σ) : Vp α → σ → α × σ
  | ret a, s => (a, s)
  | rd i k, s => (k (M.rd s i).1).run M (M.rd s i).2
  | wr i v k, s => k.run M (M.wr s i v)
def bind : Vp α → (α → Vp β) → Vp β
  | ret a, f => f a
  | rd i k, f => rd i fun x => (k x).bind f
  | wr i v k, f => wr i v (k.bind f)
section
variable {M : Mach σ} {s : σ}
theorem run_ret (a : α) : (ret a).run M s = (a, s) := rfl
theorem run_rd (i : Int) (k : Int → Vp α) : (rd i k).run M s = (k (M.rd s i).1).run M (M.rd s i).2 := rfl
theorem run_wr (i v : Int) (k : Vp α) : (wr i v k).run M s = k.run M (M.wr s i v) := rfl
theorem run_bind (p : Vp α) (f : α → Vp β) : (p.bind f).run M s = (f (p.run M s).1).run M (p.run M s).2 := by
  induction p generalizing s with
  | ret a => rfl
  | rd i k ih => exact ih _
  | wr i v k ih => exact ih
theorem run_bind_is {p : Vp α} {f : α → Vp β} {a : α} {s1 : σ} (h : p.run M s = (a, s1)) : (p.bind f).run M s = (f a).run M s1 := by rw [run_bind, h]
theorem run_yes {c : Prop} [Decidable c] {p q : Vp α} (h : c) : (if c then p else q).run M s = p.run M s := by rw [if_pos h]
theorem run_no {c : Prop} [Decidable c] {p q : Vp α} (h : ¬ c) : (if c then p else q).run M s = q.run M s := by rw [if_neg h]
end
theorem run_rdP {L : List Int} (i : Int) (k : Int → Vp α) : (rd i k).run machP L = (k (atL L i)).run machP L := rfl
theorem run_wrP {L : List Int} (i v : Int) (k : Vp α) : (wr i v k).run machP L = k.run machP (setL L i v) := rfl
end Vp
/-- is it a word -/
def U64 (x : Int) : Prop := 0 ≤ x ∧ x ≤ 18446744073709551615
/-- are they words -/
def Us (L : List Int) : Prop := ∀ x, x ∈ L → U64 x
theorem Us.atL {L : List Int} (h : Us L) (i : Int) : U64 (atL L i) := by
  rcases atL_cases L i with ⟨k, x, rfl, hx, hv, -⟩ | ⟨-, hv, -⟩
  · rw [hv]; exact h x (List.mem_of_getElem? hx)
  · rw [hv]; exact ⟨by omega, by omega⟩
theorem Us.set {L : List Int} (h : Us L) (i : Int) {v : Int} (hv : U64 v) : Us (setL L i v) := fun x hx => by
  unfold setL at hx
  split at hx
  · rcases List.mem_or_eq_of_mem_set hx with h1 | h1
    · exact h x h1
    · subst h1; exact hv
  · exact h x hx
end Go.Proofs.Ytihipcbhfjpgbaa
/- Where all lies in the words, as mathematics (layer 9): a slot's word, an object's; what is used, a field, what is taken. No dump is read here. -/
namespace Go.Proofs.Ytihipcbhfjpgbaa
open Go.RowKit
def belowB (n m : Int) : Bool := decide (0 ≤ n ∧ n < m)
def slotB (i f : Int) : Bool := decide (0 ≤ i ∧ i < 96 ∧ 0 ≤ f ∧ f < 5)
def objB (i f : Int) : Bool := decide (0 ≤ i ∧ i < 32 ∧ 0 ≤ f ∧ f < 8)
theorem belowB_yes {n m : Int} : belowB n m = true ↔ 0 ≤ n ∧ n < m := by simp [belowB]
theorem belowB_no {n m : Int} : belowB n m = false ↔ n < 0 ∨ m ≤ n := by simp [belowB]; omega
theorem slotB_yes {i f : Int} : slotB i f = true ↔ 0 ≤ i ∧ i < 96 ∧ 0 ≤ f ∧ f < 5 := by simp [slotB]
theorem slotB_no {i f : Int} : slotB i f = false ↔ (i < 0 ∨ 96 ≤ i) ∨ (f < 0 ∨ 5 ≤ f) := by simp [slotB]; omega
theorem objB_yes {i f : Int} : objB i f = true ↔ 0 ≤ i ∧ i < 32 ∧ 0 ≤ f ∧ f < 8 := by simp [objB]
theorem objB_no {i f : Int} : objB i f = false ↔ (i < 0 ∨ 32 ≤ i) ∨ (f < 0 ∨ 8 ≤ f) := by simp [objB]; omega
/-- an object's -/
def objI (i f : Int) : Int := if objB i f = true then 480 + 8 * i + f else 0
theorem objI_yes {i f : Int} (h : objB i f = true) : objI i f = 480 + 8 * i + f := by simp [objI, h]
theorem objI_no {i f : Int} (h : objB i f = false) : objI i f = 0 := by simp [objI, h]
/-- a word as a field's number -/
def numI (w : Int) : Int := if 4611686018427387904 < w then 0 else w
theorem numI_rng {w : Int} (h : U64 w) : 0 ≤ numI w ∧ numI w ≤ 4611686018427387904 := by
  have := h.1
  unfold numI
  split <;> omega
def fieldP (o f : Int) : Vp Int := if objB o f = true then .rd (objI o f) fun w => .ret (numI w) else .ret 0
def refP (o f : Int) : Vp (Int × Bool) := (fieldP o f).bind fun n => .ret (if belowB (n - 1) 32 = true then (n - 1, true) else (0, false))
def putP (o f n : Int) : Vp Unit := if objB o f = true ∧ 0 ≤ n then .wr (objI o f) n (.ret ()) else .ret ()
def isP (o k : Int) : Vp Bool := if objB o 0 = true ∧ 0 ≤ k then .rd (objI o 0) fun w => .ret (w == k) else .ret false
section
variable {L : List Int} {o f n k : Int}
/-- a field's number, of plain words -/
def fieldL (L : List Int) (o f : Int) : Int := if objB o f = true then numI (atL L (480 + 8 * o + f)) else 0
def refL (L : List Int) (o f : Int) : Int × Bool := if belowB (fieldL L o f - 1) 32 = true then (fieldL L o f - 1, true) else (0, false)
def putL (L : List Int) (o f n : Int) : List Int := if objB o f = true ∧ 0 ≤ n then setL L (480 + 8 * o + f) n else L
def isL (L : List Int) (o k : Int) : Bool := objB o 0 && decide (0 ≤ k) && (atL L (480 + 8 * o) == k)
theorem fieldP_plain : (fieldP o f).run machP L = (fieldL L o f, L) := by
  unfold fieldP fieldL
  split
  · next h => rw [Vp.run_rdP, Vp.run_ret, objI_yes h]
  · rfl
theorem refP_plain : (refP o f).run machP L = (refL L o f, L) := by
  unfold refP refL
  rw [Vp.run_bind_is fieldP_plain, Vp.run_ret]
theorem putP_plain : (putP o f n).run machP L = ((), putL L o f n) := by
  unfold putP putL
  split
  · next h => rw [Vp.run_wrP, Vp.run_ret, objI_yes h.1]
  · rfl
theorem isP_plain : (isP o k).run machP L = (isL L o k, L) := by
  unfold isP isL
  by_cases h : objB o 0 = true ∧ 0 ≤ k
  · rw [if_pos h, Vp.run_rdP, Vp.run_ret, objI_yes h.1]
    simp [h]
  · rw [if_neg h, Vp.run_ret]
    congr 1
    cases h1 : objB o 0 <;> simp [h1] at h ⊢
    omega
end
end Go.Proofs.Ytihipcbhfjpgbaa
/- A capability's mathematics (layer 2): whether it may be, its word. No dump is read here. -/
namespace Go.Proofs.Ytihipcbhfjpgbaa
open Go.RowKit
/-- a capability, as its six fields lie: Kind, Rights, Obj, Badge, Guard, Bits -/
structure Cp where
  kind : Int
  rights : Int
  obj : Int
  badge : Int
  guard : Int
  bits : Int
abbrev Cp.arr (c : Cp) : Array Value := #[.int .i64 c.kind, .int .i64 c.rights, .int .i64 c.obj, .int .i64 c.badge, .int .i64 c.guard, .int .i64 c.bits]
abbrev Cp.v (c : Cp) : Value := .agg c.arr
def Cp.zero : Cp := ⟨0, 0, 0, 0, 0, 0⟩
def mayBadge (k b : Int) : Prop := if k = 3 ∨ k = 4 then 0 ≤ b ∧ b ≤ 65535 else b = 0
def mayGuard (k g n : Int) : Prop := if k = 2 then (0 ≤ n ∧ n ≤ 8) ∧ 0 ≤ g ∧ g ≤ 2 ^ n.toNat - 1 else n = 0 ∧ g = 0
instance (k b : Int) : Decidable (mayBadge k b) := by unfold mayBadge; infer_instance
instance (k g n : Int) : Decidable (mayGuard k g n) := by unfold mayGuard; infer_instance
def Cp.may (c : Cp) : Prop :=
  if c.kind = 0 then c.rights = 0 ∧ c.obj = 0 ∧ c.badge = 0 ∧ c.guard = 0 ∧ c.bits = 0
  else (0 ≤ c.kind ∧ c.kind ≤ 8) ∧ (0 ≤ c.rights ∧ c.rights ≤ 7) ∧ (0 ≤ c.obj ∧ c.obj ≤ 31) ∧ mayBadge c.kind c.badge ∧ mayGuard c.kind c.guard c.bits
instance (c : Cp) : Decidable c.may := by unfold Cp.may; infer_instance
/-- its word -/
def Cp.word (c : Cp) : Int := c.kind + 16 * c.rights + 128 * c.obj + 4096 * c.badge + 268435456 * c.bits + 4294967296 * c.guard
/-- a word's parts -/
def Cp.of (w : Int) : Cp := ⟨w % 16, w / 16 % 8, w / 128 % 32, w / 4096 % 65536, w / 4294967296 % 4294967296, w / 268435456 % 16⟩
theorem pow_le (n : Int) (h0 : 0 ≤ n) (h8 : n ≤ 8) : 1 ≤ (2 : Int) ^ n.toNat ∧ (2 : Int) ^ n.toNat ≤ 256 := by
  obtain ⟨k, rfl⟩ : ∃ k : Nat, n = k := ⟨n.toNat, by omega⟩
  have hk : k ≤ 8 := by omega
  rw [Int.toNat_natCast]
  match k, hk with
  | 0, _ => decide
  | 1, _ => decide
  | 2, _ => decide
  | 3, _ => decide
  | 4, _ => decide
  | 5, _ => decide
  | 6, _ => decide
  | 7, _ => decide
  | 8, _ => decide
structure Cp.Small (c : Cp) : Prop where
  k0 : 0 ≤ c.kind
  k1 : c.kind ≤ 8
  r0 : 0 ≤ c.rights
  r1 : c.rights ≤ 7
  o0 : 0 ≤ c.obj
  o1 : c.obj ≤ 31
  b0 : 0 ≤ c.badge
  b1 : c.badge ≤ 65535
  g0 : 0 ≤ c.guard
  g1 : c.guard ≤ 255
  n0 : 0 ≤ c.bits
  n1 : c.bits ≤ 8
theorem Cp.may.small {c : Cp} (h : c.may) : c.Small := by
  obtain ⟨k, r, o, b, g, n⟩ := c
  unfold Cp.may at h
  simp only at h
  by_cases hk : k = 0
  · rw [if_pos hk] at h
    obtain ⟨rfl, rfl, rfl, rfl, rfl⟩ := h
    constructor <;> simp <;> omega
  · rw [if_neg hk] at h
    obtain ⟨⟨_, _⟩, ⟨_, _⟩, ⟨_, _⟩, hb, hg⟩ := h
    have hb' : 0 ≤ b ∧ b ≤ 65535 := by
      unfold mayBadge at hb
      split at hb <;> omega
    have hg' : (0 ≤ n ∧ n ≤ 8) ∧ 0 ≤ g ∧ g ≤ 255 := by
      unfold mayGuard at hg
      split at hg
      · obtain ⟨⟨h0, h8⟩, hg0, hg1⟩ := hg
        have := pow_le n h0 h8
        omega
      · omega
    constructor <;> simp <;> omega
theorem Cp.word_lt {c : Cp} (h : c.Small) : 0 ≤ c.word ∧ c.word < 18446744073709551616 := by
  obtain ⟨h1, h2, h3, h4, h5, h6, h7, h8, h9, h10, h11, h12⟩ := h
  unfold Cp.word
  omega
section
variable {w : World} {g : Nat} {t : TypeId} {c : Cp}
theorem Blk.six (h : Blk w g t c.arr) : w.cell? ⟨g, 0, none⟩ = some (.int .i64 c.kind) ∧ w.cell? ⟨g, 1, none⟩ = some (.int .i64 c.rights) ∧ w.cell? ⟨g, 2, none⟩ = some (.int .i64 c.obj) ∧
    w.cell? ⟨g, 3, none⟩ = some (.int .i64 c.badge) ∧ w.cell? ⟨g, 4, none⟩ = some (.int .i64 c.guard) ∧ w.cell? ⟨g, 5, none⟩ = some (.int .i64 c.bits) :=
  ⟨h.cell 0, h.cell 1, h.cell 2, h.cell 3, h.cell 4, h.cell 5⟩
end
theorem Blk.cap {w : World} {B : Nat} {t : TypeId} {k r o b g n : Int} (h : Blk w B t #[.int .i64 k, .int .i64 r, .int .i64 o, .int .i64 b, .int .i64 g, .int .i64 n]) : w.cell? ⟨B, 0, none⟩ = some (.int .i64 k) ∧ w.cell? ⟨B, 1, none⟩ = some (.int .i64 r) ∧ w.cell? ⟨B, 2, none⟩ = some (.int .i64 o) ∧
    w.cell? ⟨B, 3, none⟩ = some (.int .i64 b) ∧ w.cell? ⟨B, 4, none⟩ = some (.int .i64 g) ∧ w.cell? ⟨B, 5, none⟩ = some (.int .i64 n) :=
  ⟨h.cell 0, h.cell 1, h.cell 2, h.cell 3, h.cell 4, h.cell 5⟩
end Go.Proofs.Ytihipcbhfjpgbaa
