/- A slice of numbers, as it comes in. -/
import Derived.Test.YtdkjfalhalepgaaRows
import Derived.Test.YtdkjfalhalepgaaJ18
import Derived.Test.YtdkjfalhalepgaaJ1
import Derived.KernelRfl
namespace Go.Proofs.Ytdkjfalhalepgaa
open Go.ChangeShapes Go.WideShapes Go.ChangeAt Go.RowKit Go.Deep
theorem own : ownKnob Try.prog.godebug = none := by kernel_rfl
theorem laidOut : laidOutB Try.prog = true := by kernel_rfl
end Go.Proofs.Ytdkjfalhalepgaa
