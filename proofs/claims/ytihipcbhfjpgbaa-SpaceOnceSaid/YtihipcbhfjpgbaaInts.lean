/- A slice of numbers, as it comes in. -/
import Derived.Test.YtihipcbhfjpgbaaRows
import Derived.Test.YtihipcbhfjpgbaaJ10
import Derived.Test.YtihipcbhfjpgbaaMem
import Derived.KernelRfl
namespace Go.Proofs.Ytihipcbhfjpgbaa
open Go.ChangeShapes Go.WideShapes Go.ChangeAt Go.RowKit Go.Deep
theorem own : ownKnob Try.prog.godebug = none := by kernel_rfl
theorem laidOut : laidOutB Try.prog = true := by kernel_rfl
end Go.Proofs.Ytihipcbhfjpgbaa
