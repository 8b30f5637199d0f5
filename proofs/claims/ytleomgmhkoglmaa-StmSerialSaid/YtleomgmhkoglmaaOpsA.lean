/- A slice of deeds of layer 6's functions, as it lies. No dump is read here. -/
import Derived.Test.YtleomgmhkoglmaaMem
namespace Go.Proofs.Ytleomgmhkoglmaa
open Go.RowKit
/-- a deed, as it lies in a row of five cells -/
structure O where
  look : Bool
  jump : Bool
  src : Int
  to : Int
  n : Int
def O.row (o : O) : List Value := [.bool o.look, .bool o.jump, .int .i64 o.src, .int .i64 o.to, .int .u64 o.n]
structure O.ok (o : O) : Prop where
  src : (Lit.int .i64 o.src).wf = true
  to : (Lit.int .i64 o.to).wf = true
  n : (Lit.int .u64 o.n).wf = true
/-- a slice of deeds, nil let in: each cell of each -/
structure Ops (w : World) (A : Option Addr) (L : List O) : Prop where
  at_ : ∀ (k : Nat) (o : O), L[k]? = some o → ∃ b off, A = some ⟨b, off, none⟩ ∧ b < w.heap.size ∧ ∀ (j : Nat) (v : Value), o.row[j]? = some v → w.cell? ⟨b, off + k * 5 + j, none⟩ = some v
  ok : ∀ (k : Nat) (o : O), L[k]? = some o → o.ok
/-- the block in which the deeds lie, if there are any -/
def blkO (A : Option Addr) (L : List O) : List Nat := if L = [] then [] else A.toList.map Addr.block
theorem blkO_mem {A : Option Addr} {L : List O} {b off : Nat} {k : Nat} {o : O} (hA : A = some ⟨b, off, none⟩) (ho : L[k]? = some o) : b ∈ blkO A L := by
  have hL : L ≠ [] := by rintro rfl; simp at ho
  subst hA
  simp [blkO, hL]
theorem Ops.lt {w : World} {A : Option Addr} {L : List O} (h : Ops w A L) : ∀ k, k ∈ blkO A L → k < w.heap.size := fun k hk => by
  cases L with
  | nil => simp [blkO] at hk
  | cons x L =>
    obtain ⟨b, off, rfl, hb, -⟩ := h.at_ 0 x rfl
    simp [blkO] at hk
    omega
theorem Ops.only {w w' : World} {A : Option Addr} {L : List O} {S : List Nat} (h : Ops w A L) (ho : Only S w w') (hS : ∀ k, k ∈ blkO A L → k ∉ S) : Ops w' A L :=
  ⟨fun k d hd => by
    obtain ⟨b, off, hA, hb, hc⟩ := h.at_ k d hd
    exact ⟨b, off, hA, Nat.lt_of_lt_of_le hb ho.size, fun j v hv => (ho.cell (p := ⟨b, _, none⟩) hb (hS b (blkO_mem hA hd))).trans (hc j v hv)⟩, h.ok⟩
end Go.Proofs.Ytleomgmhkoglmaa
