/- An error by its number, and the number that the statements read of it. -/
import Derived.Test.YtopbbpjjiamdcaaCode
namespace Go.Proofs.Ytopbbpjjiamdcaa
open Go.RowKit
/-- an error of that number; 0: none -/
def errV (n : Int) : Value := if n = 0 then .nilIface else .iface 53 (.int .i64 n)
theorem errV_nil : errV 0 = .nilIface := rfl
theorem errV_some {n : Int} (h : n ≠ 0) : errV n = .iface 53 (.int .i64 n) := if_neg h
theorem code_any {n : Int} (h : n = 0 ∨ (1 ≤ n ∧ n ≤ 14)) (w : World) : Calls Try.prog 15 #[errV n] w fun e w' => e = .returned (.int .i64 n) ∧ w = w' := by
  rcases h with rfl | ⟨h1, h2⟩
  · exact code_nil w
  · unfold errV
    rw [if_neg (by omega)]
    exact code_some n w h1 h2
end Go.Proofs.Ytopbbpjjiamdcaa
