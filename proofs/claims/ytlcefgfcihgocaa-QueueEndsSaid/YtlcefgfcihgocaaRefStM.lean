/- The document's state of layers 9 to 21, as mathematics and as it lies: slots, objects; rows of a block. No dump is read here. -/
import Derived.Test.YtlcefgfcihgocaaTreeM
import Derived.Test.YtlcefgfcihgocaaDescM
namespace Go.Proofs.Ytlcefgfcihgocaa
open Go.RowKit
/-- an object of the document's state -/
structure RObj where
  kind : Int
  size : Int
  used : Int
  first : Int
  radix : Int
  wait : Int
  queue : List Int
  word : Int
  state : Int
  owing : Int
  badge : Int
  prio : Int
  on : Int
  owes : Int
  root : Cp
  p0 : Int
  p1 : Int
  p2 : Int
  p3 : Int
  r0 : Int
  r1 : Int
  r2 : Int
  r3 : Int
  inn : Int
  page : Int
  bound : Int
  mask : Int
/-- without anything -/
def RObj.fresh (kind : Int) : RObj := ⟨kind, 0, 0, 0, 0, 0, [], 0, 0, -1, 0, 0, -1, -1, Cp.zero, -1, -1, -1, -1, 0, 0, 0, 0, -1, 0, -1, 0⟩
/-- the document's state: of each slot its capability, its parent, its kids; of each object what it is; how many are used -/
structure RSt where
  cap : Int → Cp
  par : Int → Int
  kids : Int → List Int
  ob : Int → RObj
  ns : Int
  no : Int
def RSt.new : RSt := ⟨fun _ => Cp.zero, fun _ => -1, fun _ => [], fun _ => RObj.fresh 0, 0, 0⟩
def irow' (x : Int) : List Value := [.int .i64 x]
theorem irow'_len (x : Int) : (irow' x).length = 1 := rfl
end Go.Proofs.Ytlcefgfcihgocaa
