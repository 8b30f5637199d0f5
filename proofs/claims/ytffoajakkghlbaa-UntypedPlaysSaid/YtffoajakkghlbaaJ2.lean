/- A capability's mathematics (layer 2): whether it may be, its word. No dump is read here. -/
import Derived.Test.YtffoajakkghlbaaMem
import Derived.Laws.Bits64
import Derived.IntWalk
import Derived.Laws.Bits64b
import Derived.Test.YtffoajakkghlbaaJ1
import Derived.Laws.BitsLemmas
namespace Go.Proofs.Ytffoajakkghlbaa
open Go.RowKit
/-- a capability, as its six fields lie: Kind, Rights, Obj, Badge, Guard, Bits -/
structure Cp where
  kind : Int
  rights : Int
  obj : Int
  badge : Int
  guard : Int
  bits : Int
abbrev Cp.arr (c : Cp) : Array Value := #[.int .i64 c.kind, .int .i64 c.rights, .int .i64 c.obj, .int .i64 c.badge, .int .i64 c.guard, .int .i64 c.bits]
abbrev Cp.v (c : Cp) : Value := .agg c.arr
def Cp.zero : Cp := ⟨0, 0, 0, 0, 0, 0⟩
def upToB (n m : Int) : Bool := decide (0 ≤ n) && decide (n ≤ m)
theorem upToB_iff (n m : Int) : upToB n m = true ↔ 0 ≤ n ∧ n ≤ m := by unfold upToB; rw [Bool.and_eq_true, decide_eq_true_eq, decide_eq_true_eq]
theorem upToB_yes {n m : Int} (h0 : 0 ≤ n) (h1 : n ≤ m) : upToB n m = true := (upToB_iff n m).2 ⟨h0, h1⟩
theorem upToB_no {n m : Int} (h : n < 0 ∨ m < n) : upToB n m = false := by rw [Bool.eq_false_iff, Ne, upToB_iff]; omega
def mayBadge (k b : Int) : Prop := if k = 3 ∨ k = 4 then 0 ≤ b ∧ b ≤ 65535 else b = 0
def mayGuard (k g n : Int) : Prop := if k = 2 then (0 ≤ n ∧ n ≤ 8) ∧ 0 ≤ g ∧ g ≤ 2 ^ n.toNat - 1 else n = 0 ∧ g = 0
instance (k b : Int) : Decidable (mayBadge k b) := by unfold mayBadge; infer_instance
instance (k g n : Int) : Decidable (mayGuard k g n) := by unfold mayGuard; infer_instance
def Cp.may (c : Cp) : Prop :=
  if c.kind = 0 then c.rights = 0 ∧ c.obj = 0 ∧ c.badge = 0 ∧ c.guard = 0 ∧ c.bits = 0
  else (0 ≤ c.kind ∧ c.kind ≤ 8) ∧ (0 ≤ c.rights ∧ c.rights ≤ 7) ∧ (0 ≤ c.obj ∧ c.obj ≤ 31) ∧ mayBadge c.kind c.badge ∧ mayGuard c.kind c.guard c.bits
instance (c : Cp) : Decidable c.may := by unfold Cp.may; infer_instance
def mayBadgeB (k b : Int) : Bool := decide (mayBadge k b)
def mayGuardB (k g n : Int) : Bool := decide (mayGuard k g n)
def Cp.mayB (c : Cp) : Bool := decide c.may
/-- its word -/
def Cp.word (c : Cp) : Int := c.kind + 16 * c.rights + 128 * c.obj + 4096 * c.badge + 268435456 * c.bits + 4294967296 * c.guard
/-- a word's parts -/
def Cp.of (w : Int) : Cp := ⟨w % 16, w / 16 % 8, w / 128 % 32, w / 4096 % 65536, w / 4294967296 % 4294967296, w / 268435456 % 16⟩
theorem pow_le (n : Int) (h0 : 0 ≤ n) (h8 : n ≤ 8) : 1 ≤ (2 : Int) ^ n.toNat ∧ (2 : Int) ^ n.toNat ≤ 256 := by
  obtain ⟨k, rfl⟩ : ∃ k : Nat, n = k := ⟨n.toNat, by omega⟩
  have hk : k ≤ 8 := by omega
  rw [Int.toNat_natCast]
  match k, hk with
  | 0, _ => decide
  | 1, _ => decide
  | 2, _ => decide
  | 3, _ => decide
  | 4, _ => decide
  | 5, _ => decide
  | 6, _ => decide
  | 7, _ => decide
  | 8, _ => decide
structure Cp.Small (c : Cp) : Prop where
  k0 : 0 ≤ c.kind
  k1 : c.kind ≤ 8
  r0 : 0 ≤ c.rights
  r1 : c.rights ≤ 7
  o0 : 0 ≤ c.obj
  o1 : c.obj ≤ 31
  b0 : 0 ≤ c.badge
  b1 : c.badge ≤ 65535
  g0 : 0 ≤ c.guard
  g1 : c.guard ≤ 255
  n0 : 0 ≤ c.bits
  n1 : c.bits ≤ 8
theorem Cp.may.small {c : Cp} (h : c.may) : c.Small := by
  obtain ⟨k, r, o, b, g, n⟩ := c
  unfold Cp.may at h
  simp only at h
  by_cases hk : k = 0
  · rw [if_pos hk] at h
    obtain ⟨rfl, rfl, rfl, rfl, rfl⟩ := h
    constructor <;> simp <;> omega
  · rw [if_neg hk] at h
    obtain ⟨⟨_, _⟩, ⟨_, _⟩, ⟨_, _⟩, hb, hg⟩ := h
    have hb' : 0 ≤ b ∧ b ≤ 65535 := by
      unfold mayBadge at hb
      split at hb <;> omega
    have hg' : (0 ≤ n ∧ n ≤ 8) ∧ 0 ≤ g ∧ g ≤ 255 := by
      unfold mayGuard at hg
      split at hg
      · obtain ⟨⟨h0, h8⟩, hg0, hg1⟩ := hg
        have := pow_le n h0 h8
        omega
      · omega
    constructor <;> simp <;> omega
theorem Cp.word_lt {c : Cp} (h : c.Small) : 0 ≤ c.word ∧ c.word < 18446744073709551616 := by
  obtain ⟨h1, h2, h3, h4, h5, h6, h7, h8, h9, h10, h11, h12⟩ := h
  unfold Cp.word
  omega
theorem Cp.of_word {c : Cp} (h : c.Small) : Cp.of c.word = c := by
  obtain ⟨k, r, o, b, g, n⟩ := c
  obtain ⟨h1, h2, h3, h4, h5, h6, h7, h8, h9, h10, h11, h12⟩ := h
  simp only at *
  unfold Cp.of Cp.word
  simp only [Cp.mk.injEq]
  omega
theorem part_nat (x a b : Nat) (hab : a ≤ b) (hb : b ≤ 64) : x * 2 ^ (64 - b) % 18446744073709551616 / 2 ^ (64 - b + a) = x / 2 ^ a % 2 ^ (b - a) := by
  have e : (18446744073709551616 : Nat) = 2 ^ b * 2 ^ (64 - b) := by
    rw [← Nat.pow_add, show b + (64 - b) = 64 by omega]
  rw [e, Nat.mul_mod_mul_right, Nat.pow_add, ← Nat.div_div_eq_div_mul, Nat.mul_div_cancel _ (Nat.two_pow_pos _)]
  have e2 : (2 : Nat) ^ b = 2 ^ a * 2 ^ (b - a) := by rw [← Nat.pow_add, show a + (b - a) = b by omega]
  rw [e2, Nat.mod_mul_right_div_self]
theorem part_int (x a b : Int) (h0 : 0 ≤ x) (ha : 0 ≤ a) (hab : a ≤ b) (hb : b ≤ 64) (h63 : b - a ≤ 62) :
    wrap64 (IntKind.u64.wrap (x * 2 ^ (64 - b).toNat) / 2 ^ (64 - b + a).toNat) = x / 2 ^ a.toNat % 2 ^ (b - a).toNat := by
  obtain ⟨x, rfl⟩ := Int.eq_ofNat_of_zero_le h0
  obtain ⟨a, rfl⟩ := Int.eq_ofNat_of_zero_le ha
  obtain ⟨b, rfl⟩ := Int.eq_ofNat_of_zero_le (show 0 ≤ b by omega)
  have q := part_nat x a b (by omega) (by omega)
  have e1 : (64 - (b : Int)).toNat = 64 - b := by omega
  have e2 : (64 - (b : Int) + a).toNat = 64 - b + a := by omega
  have e3 : ((b : Int) - a).toNat = b - a := by omega
  rw [IntKind.wrap_u64, e1, e2, e3, Int.toNat_natCast]
  have e : ((x : Int) * 2 ^ (64 - b) % 18446744073709551616 / 2 ^ (64 - b + a)) = ((x * 2 ^ (64 - b) % 18446744073709551616 / 2 ^ (64 - b + a) : Nat) : Int) := by simp
  rw [e, q]
  have hlt : x / 2 ^ a % 2 ^ (b - a) < 2 ^ (b - a) := Nat.mod_lt _ (Nat.two_pow_pos _)
  have hle : (2 : Nat) ^ (b - a) ≤ 2 ^ 62 := Nat.pow_le_pow_right (by omega) (by omega)
  have h62 : (2 : Nat) ^ 62 = 4611686018427387904 := by decide
  rw [IntWalk.wrap64_in _ (by omega)]
  simp
theorem mayBadgeB_yes {k b : Int} (h : k = 3 ∨ k = 4) : mayBadgeB k b = upToB b 65535 := by
  rw [Bool.eq_iff_iff, upToB_iff]; simp [mayBadgeB, mayBadge, h]
theorem mayBadgeB_no {k b : Int} (h3 : ¬ k = 3) (h4 : ¬ k = 4) : mayBadgeB k b = (b == 0) := by
  rw [Bool.eq_iff_iff]; simp [mayBadgeB, mayBadge, h3, h4]
theorem mayGuardB_no {k g n : Int} (h : ¬ k = 2) : mayGuardB k g n = ((n == 0) && (g == 0)) := by
  rw [Bool.eq_iff_iff]; simp [mayGuardB, mayGuard, h]
theorem mayGuardB_in {k g n : Int} (h : k = 2) (h0 : 0 ≤ n) (h8 : n ≤ 8) : mayGuardB k g n = upToB g (2 ^ n.toNat - 1) := by
  rw [Bool.eq_iff_iff, upToB_iff]; simp [mayGuardB, mayGuard, h, h0, h8]
theorem mayGuardB_out {k g n : Int} (h : k = 2) (hn : n < 0 ∨ 8 < n) : mayGuardB k g n = false := by
  rw [Bool.eq_false_iff]; simp [mayGuardB, mayGuard, h]; omega
theorem Cp.mayB_null {c : Cp} (h : c.kind = 0) : c.mayB = ((c.rights == 0) && (c.obj == 0) && (c.badge == 0) && (c.guard == 0) && (c.bits == 0)) := by
  rw [Bool.eq_iff_iff]; simp [Cp.mayB, Cp.may, h, and_assoc]
theorem Cp.mayB_real {c : Cp} (h : ¬ c.kind = 0) : c.mayB = (upToB c.kind 8 && upToB c.rights 7 && upToB c.obj 31 && mayBadgeB c.kind c.badge && mayGuardB c.kind c.guard c.bits) := by
  rw [Bool.eq_iff_iff]
  simp only [Cp.mayB, Cp.may, h, if_false, Bool.and_eq_true, upToB_iff, mayBadgeB, mayGuardB, decide_eq_true_eq, and_assoc]
theorem or_add (a b : Int) (i : Nat) (m : Int) (hm : m = 2 ^ i) (h0 : 0 ≤ a) (ha : a < m) (hb0 : 0 ≤ b) (hb : b * m < 18446744073709551616) (hi : i ≤ 63) : bits .or .u64 a (b * m) = a + b * m := by
  subst hm
  obtain ⟨a, rfl⟩ := Int.eq_ofNat_of_zero_le h0
  obtain ⟨b, rfl⟩ := Int.eq_ofNat_of_zero_le hb0
  have e : ((2 : Int) ^ i) = ((2 ^ i : Nat) : Int) := by simp
  rw [e] at ha hb ⊢
  have ha' : a < 2 ^ i := by omega
  have hb' : b * 2 ^ i < 18446744073709551616 := by
    have q : ((b * 2 ^ i : Nat) : Int) < 18446744073709551616 := by rw [Int.natCast_mul]; exact hb
    omega
  have h63 : (2 : Nat) ^ i ≤ 2 ^ 63 := Nat.pow_le_pow_right (by omega) hi
  have e63 : (2 : Nat) ^ 63 = 9223372036854775808 := by decide
  rw [← Int.natCast_mul, bits_or_u64_nat _ _ (by omega) hb', Nat.or_comm, Nat.mul_comm b, ← Nat.two_pow_add_eq_or_of_lt ha', ← Int.natCast_add, Nat.add_comm]
theorem word_or {c : Cp} (h : c.Small) : bits .or .u64 (bits .or .u64 (bits .or .u64 (bits .or .u64 (bits .or .u64 c.kind (c.rights * 16)) (c.obj * 128)) (c.badge * 4096)) (c.bits * 268435456)) (c.guard * 4294967296) = c.word := by
  obtain ⟨h1, h2, h3, h4, h5, h6, h7, h8, h9, h10, h11, h12⟩ := h
  rw [or_add c.kind c.rights 4 16 (by decide) (by omega) (by omega) (by omega) (by omega) (by omega),
    or_add _ c.obj 7 128 (by decide) (by omega) (by omega) (by omega) (by omega) (by omega),
    or_add _ c.badge 12 4096 (by decide) (by omega) (by omega) (by omega) (by omega) (by omega),
    or_add _ c.bits 28 268435456 (by decide) (by omega) (by omega) (by omega) (by omega) (by omega),
    or_add _ c.guard 32 4294967296 (by decide) (by omega) (by omega) (by omega) (by omega) (by omega)]
  unfold Cp.word
  omega
section
variable {w : World} {g : Nat} {t : TypeId} {c : Cp}
theorem Blk.six (h : Blk w g t c.arr) : w.cell? ⟨g, 0, none⟩ = some (.int .i64 c.kind) ∧ w.cell? ⟨g, 1, none⟩ = some (.int .i64 c.rights) ∧ w.cell? ⟨g, 2, none⟩ = some (.int .i64 c.obj) ∧
    w.cell? ⟨g, 3, none⟩ = some (.int .i64 c.badge) ∧ w.cell? ⟨g, 4, none⟩ = some (.int .i64 c.guard) ∧ w.cell? ⟨g, 5, none⟩ = some (.int .i64 c.bits) :=
  ⟨h.cell 0, h.cell 1, h.cell 2, h.cell 3, h.cell 4, h.cell 5⟩
end
theorem Blk.cap {w : World} {B : Nat} {t : TypeId} {k r o b g n : Int} (h : Blk w B t #[.int .i64 k, .int .i64 r, .int .i64 o, .int .i64 b, .int .i64 g, .int .i64 n]) : w.cell? ⟨B, 0, none⟩ = some (.int .i64 k) ∧ w.cell? ⟨B, 1, none⟩ = some (.int .i64 r) ∧ w.cell? ⟨B, 2, none⟩ = some (.int .i64 o) ∧
    w.cell? ⟨B, 3, none⟩ = some (.int .i64 b) ∧ w.cell? ⟨B, 4, none⟩ = some (.int .i64 g) ∧ w.cell? ⟨B, 5, none⟩ = some (.int .i64 n) :=
  ⟨h.cell 0, h.cell 1, h.cell 2, h.cell 3, h.cell 4, h.cell 5⟩
theorem tup_u64 {a b : Int} (h : a = b) : Ending.returned (.tuple #[.int .u64 a, .nilIface]) = .returned (.tuple #[.int .u64 b, .nilIface]) := by rw [h]
end Go.Proofs.Ytffoajakkghlbaa
/- Capabilities by addresses, as mathematics (layer 11): a slot's capability, a CNode, what is looked up; on plain words. No dump is read here. -/
namespace Go.Proofs.Ytffoajakkghlbaa
open Go.RowKit
/-- a word as a capability: Null if it is none -/
def getC (w : Int) : Cp := if (Cp.of w).may then Cp.of w else Cp.zero
def capP (i : Int) : Vp Cp := if slotB i 0 = true then .rd (slotI i 0) fun w => .ret (getC w) else .ret Cp.zero
/-- a capability is put: an error's number -/
def csetP (i : Int) (c : Cp) : Vp Int := if slotB i 0 = true then (if c.may then .wr (slotI i 0) c.word (.ret 0) else .ret 1) else .ret 2
theorem word_u64 {c : Cp} (h : c.may) : U64 c.word := by
  have hw := Cp.word_lt h.small
  obtain ⟨h1, h2, h3, h4, h5, h6, h7, h8, h9, h10, h11, h12⟩ := h.small
  unfold Cp.word at hw ⊢
  exact ⟨by omega, by omega⟩
/- on plain words -/
section
variable {L : List Int} {i addr l : Int} {c : Cp} {n : Nat}
def capL (L : List Int) (i : Int) : Cp := if slotB i 0 = true then getC (atL L (5 * i)) else Cp.zero
theorem capP_plain : (capP i).run machP L = (capL L i, L) := by
  unfold capP capL
  split
  · next h => rw [Vp.run_rdP, Vp.run_ret, slotI_yes h, Int.add_zero]
  · rfl
end
end Go.Proofs.Ytffoajakkghlbaa
