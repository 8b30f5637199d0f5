/- An error by its number. -/
import Derived.Test.YtlcefgfcihgocaaRows
import Derived.WalkKit
namespace Go.Proofs.Ytlcefgfcihgocaa
open Go.RowKit
/-- an error of that number; 0: none -/
def errV (n : Int) : Value := if n = 0 then .nilIface else .iface 43 (.int .i64 n)
theorem errV_nil : errV 0 = .nilIface := rfl
end Go.Proofs.Ytlcefgfcihgocaa
