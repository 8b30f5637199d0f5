/- What is derived from what, as mathematics (layer 10): lists of kids, parents, the words that tell them (Rep), and what linking, unlinking, replacing do to them. No dump is read here. -/
import Derived.Test.YtlcefgfcihgocaaLayM
import Derived.Test.YtlcefgfcihgocaaPackM
namespace Go.Proofs.Ytlcefgfcihgocaa
open Go.RowKit
/-- the one behind, one more than its number; 0: none -/
def after (k : Int) : List Int → Int
  | [] => 0
  | [_] => 0
  | x :: y :: l => if x = k then y + 1 else after k (y :: l)
/-- the one ahead -/
def before (k : Int) : List Int → Int
  | [] => 0
  | [_] => 0
  | x :: y :: l => if y = k then x + 1 else before k (y :: l)
end Go.Proofs.Ytlcefgfcihgocaa
