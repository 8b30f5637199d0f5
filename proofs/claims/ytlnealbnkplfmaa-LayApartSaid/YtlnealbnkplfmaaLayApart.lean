/- LayApart's walk: for all numbers. -/
import Derived.Test.YtlnealbnkplfmaaLayApartA
import Derived.Test.YtlnealbnkplfmaaLayApartB
import Derived.Test.YtlnealbnkplfmaaLayApartC
namespace Go.Proofs.Ytlnealbnkplfmaa
open Go.RowKit
theorem apart_any (i f k o n : Int) (w : World) :
    Calls Try.prog 6 #[.int .i64 i, .int .i64 f, .int .i64 k, .int .i64 o, .int .i64 n] w fun e w' => e = .returned (.bool true) ∧ Only [] w w' := by
  by_cases hk : i = k
  · subst hk
    by_cases ho : f = o
    · subst ho
      exact apart_same i f n w
    · exact apart_fo i f o ho n w
  · exact apart_ik i f k o hk n w
end Go.Proofs.Ytlnealbnkplfmaa
