/- A slice of numbers, as it comes in. -/
import Derived.Test.YtlcefgfcihgocaaRows
import Derived.Test.YtlcefgfcihgocaaLaw
import Derived.Test.YtlcefgfcihgocaaMem
import Derived.KernelRfl
namespace Go.Proofs.Ytlcefgfcihgocaa
open Go.ChangeShapes Go.WideShapes Go.ChangeAt Go.RowKit Go.Deep
theorem own : ownKnob Try.prog.godebug = none := by kernel_rfl
theorem laidOut : laidOutB Try.prog = true := by kernel_rfl
end Go.Proofs.Ytlcefgfcihgocaa
