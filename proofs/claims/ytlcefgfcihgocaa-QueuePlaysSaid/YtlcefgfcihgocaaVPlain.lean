/- Plain words of one's own as a view (layers 9 and up). -/
import Derived.Test.YtlcefgfcihgocaaVok
import Derived.Test.YtlcefgfcihgocaaPlain
namespace Go.Proofs.Ytlcefgfcihgocaa
open Go.RowKit
theorem meth_pread (n : Nat) (v : Value) (w : World) : Sem.run Try.prog (method (n + 1) 25 v "Read") w = .ok (38, v) w := by kernel_rfl
theorem meth_pwrite (n : Nat) (v : Value) (w : World) : Sem.run Try.prog (method (n + 1) 25 v "Write") w = .ok (39, v) w := by kernel_rfl
theorem nil_pread (n : Nat) (v : Value) (w : World) : Sem.run Try.prog (nilAhead (n + 1) 25 v "Read") w = .ok (some false) w := by kernel_rfl
theorem nil_pwrite (n : Nat) (v : Value) (w : World) : Sem.run Try.prog (nilAhead (n + 1) 25 v "Write") w = .ok (some false) w := by kernel_rfl
theorem enterPR (args : Array Value) (w : World) : (callFunc 38 args).run Try.prog w = .ok (.enter 38 args) w := by kernel_rfl
theorem enterPW (args : Array Value) (w : World) : (callFunc 39 args).run Try.prog w = .ok (.enter 39 args) w := by kernel_rfl
/-- plain words of one's own, in block g -/
structure MemP (g nn : Nat) (t : TypeId) (w : World) (L : List Int) : Prop where
  len : L.length = nn
  row : RowU w g t L
  us : Us L
theorem viewP (g nn cap : Nat) (t : TypeId) :
    VOk machP 25 (.slice (some ⟨g, 0, none⟩) nn cap) 38 39 (MemP g nn t) Us [g] [g] where
  mR := fun n w => meth_pread n _ w
  mW := fun n w => meth_pwrite n _ w
  nR := fun n w => nil_pread n _ w
  nW := fun n w => nil_pwrite n _ w
  eR := enterPR
  eW := enterPW
  rd := fun w L i ⟨hl, hr, hu⟩ => by
    subst hl
    exact (pread_any cap w hr.wds i).mono fun e w' ⟨he, hw⟩ => by subst hw; exact ⟨he, ⟨rfl, hr, hu⟩, Only.refl _ _⟩
  wr := fun w L i x ⟨hl, hr, hu⟩ hx => by
    subst hl
    exact (pwrite_any cap w hr i x).mono fun e w' ⟨he, hw⟩ => by subst hw; exact ⟨he, ⟨setL_length L i x, hr.wr i x, hu.set i hx⟩, wrW_only _ _ _ _ _⟩
  ok := fun _ _ h => h.us
  rng := fun _ i h => h.atL i
  okR := fun _ _ h => h
  okW := fun _ i _ h hx => h.set i hx
  lt := fun w L k h hk => by
    obtain rfl : k = g := by simpa using hk
    exact h.row.lt
  keep := fun w w' L S' h ho hS => ⟨h.len, h.row.only ho (fun hm => hS g hm (by simp)), h.us⟩
  sub := fun k hk => hk
end Go.Proofs.Ytlcefgfcihgocaa
