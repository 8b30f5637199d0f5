/- A slice of numbers, as it comes in. -/
import Derived.Test.YtgbcgcmcfklnjaaRows
import Derived.Test.YtgbcgcmcfklnjaaLaw
import Derived.Test.YtgbcgcmcfklnjaaMem
import Derived.KernelRfl
namespace Go.Proofs.Ytgbcgcmcfklnjaa
open Go.ChangeShapes Go.WideShapes Go.ChangeAt Go.RowKit Go.Deep
theorem own : ownKnob Try.prog.godebug = none := by kernel_rfl
theorem laidOut : laidOutB Try.prog = true := by kernel_rfl
end Go.Proofs.Ytgbcgcmcfklnjaa
