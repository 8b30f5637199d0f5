/- The store's mathematics (layer 1): cells, what each call does. No dump is read here. -/
import Derived.Test.YtlcefgfcihgocaaMem
namespace Go.Proofs.Ytlcefgfcihgocaa
open Go.RowKit
structure C where
  v : Int
  ver : Int
  mark : Int
def C.row (c : C) : List Value := [.int .u64 c.v, .int .u32 c.ver, .int .i64 c.mark]
def C.ok (lim : Int) (c : C) : Prop := 0 ≤ c.ver ∧ c.ver ≤ lim
end Go.Proofs.Ytlcefgfcihgocaa
