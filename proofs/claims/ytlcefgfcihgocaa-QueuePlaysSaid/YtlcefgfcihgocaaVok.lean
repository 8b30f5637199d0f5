/- Any view: how its two calls are reached, what they do to what it stands for, what of the memory it is made of (layers 9 and up: each function of a view is walked over this, once, for plain words and a record's view alike). -/
import Derived.Test.YtlcefgfcihgocaaRows
import Derived.Test.YtlcefgfcihgocaaVm
import Derived.WalkKit
import Derived.WalkSpells
import Derived.WalkLawsBesides
import Derived.Handy
import Derived.BigQuiet
import Derived.Deep.QuietTactic
import Derived.RegionTactic
import Derived.Lib.Hide
import Derived.Deep.Light
namespace Go.Proofs.Ytlcefgfcihgocaa
open Go.RowKit
/-- a view: Ok holds of what it stands for (what is read is a word), S are the blocks that its calls turn, R those that it is made of -/
structure VOk {σ : Type} (M : Mach σ) (T : TypeId) (v : Value) (fR fW : FuncId) (Mem : World → σ → Prop) (Ok : σ → Prop) (S R : List Nat) : Prop where
  mR : ∀ (n : Nat) (w : World), Sem.run Try.prog (method (n + 1) T v "Read") w = .ok (fR, v) w
  mW : ∀ (n : Nat) (w : World), Sem.run Try.prog (method (n + 1) T v "Write") w = .ok (fW, v) w
  nR : ∀ (n : Nat) (w : World), Sem.run Try.prog (nilAhead (n + 1) T v "Read") w = .ok (some false) w
  nW : ∀ (n : Nat) (w : World), Sem.run Try.prog (nilAhead (n + 1) T v "Write") w = .ok (some false) w
  eR : ∀ (args : Array Value) (w : World), (callFunc fR args).run Try.prog w = .ok (.enter fR args) w
  eW : ∀ (args : Array Value) (w : World), (callFunc fW args).run Try.prog w = .ok (.enter fW args) w
  rd : ∀ (w : World) (s : σ) (i : Int), Mem w s → Calls Try.prog fR #[v, .int .i64 i] w fun e w' => e = .returned (.int .u64 (M.rd s i).1) ∧ Mem w' (M.rd s i).2 ∧ Only S w w'
  wr : ∀ (w : World) (s : σ) (i x : Int), Mem w s → U64 x → Calls Try.prog fW #[v, .int .i64 i, .int .u64 x] w fun e w' => e = .returned (.tuple #[]) ∧ Mem w' (M.wr s i x) ∧ Only S w w'
  ok : ∀ (w : World) (s : σ), Mem w s → Ok s
  rng : ∀ (s : σ) (i : Int), Ok s → U64 (M.rd s i).1
  okR : ∀ (s : σ) (i : Int), Ok s → Ok (M.rd s i).2
  okW : ∀ (s : σ) (i x : Int), Ok s → U64 x → Ok (M.wr s i x)
  lt : ∀ (w : World) (s : σ) (k : Nat), Mem w s → k ∈ R → k < w.heap.size
  keep : ∀ (w w' : World) (s : σ) (S' : List Nat), Mem w s → Only S' w w' → (∀ k, k ∈ S' → k ∉ R) → Mem w' s
  sub : ∀ k, k ∈ S → k ∈ R
section
variable {σ : Type} {M : Mach σ} {T : TypeId} {v : Value} {fR fW : FuncId} {Mem : World → σ → Prop} {Ok : σ → Prop} {S R : List Nat} {w w' : World} {s : σ}
theorem VOk.drewN (V : VOk M T v fR fW Mem Ok S R) (h : Mem w s) (n : Nat) : Mem (w.drewN n) s := V.keep w _ s [] h ((Only.refl [] w).drewN n) (by simp)
theorem VOk.only0 (V : VOk M T v fR fW Mem Ok S R) (h : Mem w s) (ho : Only [] w w') : Mem w' s := V.keep w _ s [] h ho (by simp)
/-- what is new is no part of it -/
theorem VOk.fresh (V : VOk M T v fR fW Mem Ok S R) (h : Mem w s) {k : Nat} (hk : w.heap.size ≤ k) : k ∉ R := fun hm => by have := V.lt w s k h hm; omega
/-- what is no part of it is put -/
theorem VOk.put (V : VOk M T v fR fW Mem Ok S R) (h : Mem w s) {k : Nat} (hk : k ∉ R) (i : Nat) (u : Value) : Mem (w.setCell ⟨k, i, none⟩ u) s :=
  V.keep w _ s [k] h ((Only.refl _ _).setCell (.inl (by simp)) _) (fun j hj => by simp at hj; subst hj; exact hk)
end
end Go.Proofs.Ytlcefgfcihgocaa
