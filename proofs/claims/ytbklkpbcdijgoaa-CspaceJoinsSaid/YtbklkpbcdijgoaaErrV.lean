/- An error by its number. -/
import Derived.Test.YtbklkpbcdijgoaaRows
import Derived.WalkKit
namespace Go.Proofs.Ytbklkpbcdijgoaa
open Go.RowKit
/-- an error of that number; 0: none -/
def errV (n : Int) : Value := if n = 0 then .nilIface else .iface 45 (.int .i64 n)
theorem errV_nil : errV 0 = .nilIface := rfl
theorem errV_some {n : Int} (h : n ≠ 0) : errV n = .iface 45 (.int .i64 n) := if_neg h
end Go.Proofs.Ytbklkpbcdijgoaa
