/- A capability's mathematics (layer 2): whether it may be, its word. No dump is read here. -/
import Derived.Test.YtlcefgfcihgocaaMem
import Derived.Laws.Bits64
import Derived.IntWalk
import Derived.Laws.Bits64b
namespace Go.Proofs.Ytlcefgfcihgocaa
open Go.RowKit
/-- a capability, as its six fields lie: Kind, Rights, Obj, Badge, Guard, Bits -/
structure Cp where
  kind : Int
  rights : Int
  obj : Int
  badge : Int
  guard : Int
  bits : Int
abbrev Cp.arr (c : Cp) : Array Value := #[.int .i64 c.kind, .int .i64 c.rights, .int .i64 c.obj, .int .i64 c.badge, .int .i64 c.guard, .int .i64 c.bits]
abbrev Cp.v (c : Cp) : Value := .agg c.arr
def Cp.zero : Cp := ⟨0, 0, 0, 0, 0, 0⟩
def mayBadge (k b : Int) : Prop := if k = 3 ∨ k = 4 then 0 ≤ b ∧ b ≤ 65535 else b = 0
def mayGuard (k g n : Int) : Prop := if k = 2 then (0 ≤ n ∧ n ≤ 8) ∧ 0 ≤ g ∧ g ≤ 2 ^ n.toNat - 1 else n = 0 ∧ g = 0
instance (k b : Int) : Decidable (mayBadge k b) := by unfold mayBadge; infer_instance
instance (k g n : Int) : Decidable (mayGuard k g n) := by unfold mayGuard; infer_instance
def Cp.may (c : Cp) : Prop :=
  if c.kind = 0 then c.rights = 0 ∧ c.obj = 0 ∧ c.badge = 0 ∧ c.guard = 0 ∧ c.bits = 0
  else (0 ≤ c.kind ∧ c.kind ≤ 8) ∧ (0 ≤ c.rights ∧ c.rights ≤ 7) ∧ (0 ≤ c.obj ∧ c.obj ≤ 31) ∧ mayBadge c.kind c.badge ∧ mayGuard c.kind c.guard c.bits
instance (c : Cp) : Decidable c.may := by unfold Cp.may; infer_instance
/-- its word -/
def Cp.word (c : Cp) : Int := c.kind + 16 * c.rights + 128 * c.obj + 4096 * c.badge + 268435456 * c.bits + 4294967296 * c.guard
/-- a word's parts -/
def Cp.of (w : Int) : Cp := ⟨w % 16, w / 16 % 8, w / 128 % 32, w / 4096 % 65536, w / 4294967296 % 4294967296, w / 268435456 % 16⟩
section
variable {w : World} {g : Nat} {t : TypeId} {c : Cp}
theorem Blk.six (h : Blk w g t c.arr) : w.cell? ⟨g, 0, none⟩ = some (.int .i64 c.kind) ∧ w.cell? ⟨g, 1, none⟩ = some (.int .i64 c.rights) ∧ w.cell? ⟨g, 2, none⟩ = some (.int .i64 c.obj) ∧
    w.cell? ⟨g, 3, none⟩ = some (.int .i64 c.badge) ∧ w.cell? ⟨g, 4, none⟩ = some (.int .i64 c.guard) ∧ w.cell? ⟨g, 5, none⟩ = some (.int .i64 c.bits) :=
  ⟨h.cell 0, h.cell 1, h.cell 2, h.cell 3, h.cell 4, h.cell 5⟩
end
theorem Blk.cap {w : World} {B : Nat} {t : TypeId} {k r o b g n : Int} (h : Blk w B t #[.int .i64 k, .int .i64 r, .int .i64 o, .int .i64 b, .int .i64 g, .int .i64 n]) : w.cell? ⟨B, 0, none⟩ = some (.int .i64 k) ∧ w.cell? ⟨B, 1, none⟩ = some (.int .i64 r) ∧ w.cell? ⟨B, 2, none⟩ = some (.int .i64 o) ∧
    w.cell? ⟨B, 3, none⟩ = some (.int .i64 b) ∧ w.cell? ⟨B, 4, none⟩ = some (.int .i64 g) ∧ w.cell? ⟨B, 5, none⟩ = some (.int .i64 n) :=
  ⟨h.cell 0, h.cell 1, h.cell 2, h.cell 3, h.cell 4, h.cell 5⟩
end Go.Proofs.Ytlcefgfcihgocaa
