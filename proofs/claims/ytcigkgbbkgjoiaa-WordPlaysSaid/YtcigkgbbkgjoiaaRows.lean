/-
  No cell of these rows narrows 'for every input' (looked for: loops, veiled, ifaces, maps, wideKeys, modest, calm, conditions, laid).
  DERIVED. THE GIVEN ROWS OF THIS SEAT. 2 by the template 'for every input the law returns true; each argument reads behind the call as it read before'; 0 by the template 'total and deterministic' (their statements: YtcigkgbbkgjoiaaTotals.lean).
  GIVEN WITH THE SEED: the statements are not yours to turn. If you find one false, say at which input.
  Laid BY PROGRAM, IN A SANDBOX (cutbox-rows.mjs): the forced cells as the released guide's own fill.sh prints them over the translation d84045ad39907466… (all of the seat's roots in one cut). By AI agents, Wed Nov 11 2026. No macro, syntax, notation, axiom, sorry.
-/
import Derived.Test.YtcigkgbbkgjoiaaChecked
import GoSem.Claim
import GoSem.ClaimJoined
import GoSem.ClaimMapViews
import Derived.JoinedTies
import Derived.KernelRfl
namespace Go.Proofs.Ytcigkgbbkgjoiaa
/- THE CELL 'sum', in the pinned program and in every row, IS THE sha256 OF THE DUMP (.gsa) THAT YtcigkgbbkgjoiaaProg.lean LOADS. Nothing in Lean hashes anything: it is a label: what it is worth is what the hold of that sum in a sandbox is worth. -/
noncomputable def Try.pinned : Pinned := { name := "ytcigkgbbkgjoiaa", sum := "d84045ad39907466cf02a57cd54c0d59c08171e4b53c6af4ac2f56058a00ec65", checked := Try.checked }
namespace Rows
def none {H : Type} : Left H := { results := [], args := [] }

/-- 'padstonelaw01.WordPlays': WHATEVER THE INPUT: true; the input reads as it did. -/
def wordPlaysSpec : ChangeSpec := { name := "wordPlays", fn := fun _ => fun
  | [d1, d2, d3] => { results := [.lit (.bool true)], args := [d1, d2, d3] }
  | _ => none }
def wordPlaysRow : OpenClaim := { program := "ytcigkgbbkgjoiaa", sum := "d84045ad39907466cf02a57cd54c0d59c08171e4b53c6af4ac2f56058a00ec65", func := "padstone/padstonelaw01.WordPlays", spec := "wordPlays", apart := false }
def WordPlaysSaid : Prop := wordPlaysRow.holds Try.pinned (OpenSpec.ofChange wordPlaysSpec)

/-- ITS FALSE NEIGHBOUR: 'it returns false'. Refute it at one input. -/
def wordPlaysWrong : ChangeSpec := { name := "wordPlays", fn := fun _ => fun
  | [d1, d2, d3] => { results := [.lit (.bool false)], args := [d1, d2, d3] }
  | _ => none }
def WordPlaysWrongFalsely : Prop := wordPlaysRow.holds Try.pinned (OpenSpec.ofChange wordPlaysWrong)

/-- 'padstonelaw01.WordStays': WHATEVER THE INPUT: true; the input reads as it did. -/
def wordStaysSpec : ChangeSpec := { name := "wordStays", fn := fun _ => fun
  | [d1, d2, d3] => { results := [.lit (.bool true)], args := [d1, d2, d3] }
  | _ => none }
def wordStaysRow : OpenClaim := { program := "ytcigkgbbkgjoiaa", sum := "d84045ad39907466cf02a57cd54c0d59c08171e4b53c6af4ac2f56058a00ec65", func := "padstone/padstonelaw01.WordStays", spec := "wordStays", apart := false }
def WordStaysSaid : Prop := wordStaysRow.holds Try.pinned (OpenSpec.ofChange wordStaysSpec)

/-- ITS FALSE NEIGHBOUR: 'it returns false'. Refute it at one input. -/
def wordStaysWrong : ChangeSpec := { name := "wordStays", fn := fun _ => fun
  | [d1, d2, d3] => { results := [.lit (.bool false)], args := [d1, d2, d3] }
  | _ => none }
def WordStaysWrongFalsely : Prop := wordStaysRow.holds Try.pinned (OpenSpec.ofChange wordStaysWrong)

/- THE SECOND FORM. 'bulk': how many values and letters a reading holds, each counted each time it is reached (what is shared counts as often as it is met; a slice's spare places count too). A statement '..UptoSaid' is the law's where the arguments, and the package variables that the reading takes, are together of bulk at most 1048576: NARROWER than '..Said'. Prove '..Said' where nothing that the law and all that it calls make is longer than what came in: it says more and counts as full. Else prove '..UptoSaid'. A law counts once. -/
mutual
def uptoBulk {H : Type} : DataW H → Nat
  | .lit (.string bytes) => bytes.length + 1
  | .lit _ => 1
  | .nil => 1
  | .ptr d => uptoBulk d + 1
  | .slice elems spare => uptoBulkAll elems + uptoBulkAll spare + 1
  | .agg parts => uptoBulkAll parts + 1
  | .iface _ d => uptoBulk d + 1
  | .map entries => uptoBulkEntries entries + 1
  | .held _ => 1
def uptoBulkAll {H : Type} : List (DataW H) → Nat
  | [] => 0
  | d :: r => uptoBulk d + uptoBulkAll r
def uptoBulkEntries {H : Type} : List (Lit × DataW H) → Nat
  | [] => 0
  | x :: r => uptoBulkEntry x + uptoBulkEntries r
def uptoBulkEntry {H : Type} : Lit × DataW H → Nat
  | (.string bytes, d) => bytes.length + uptoBulk d + 1
  | (_, d) => uptoBulk d + 1
 end
def uptoSmall : (H : Type) → List (DataW H) → Bool := fun _ ds => decide (uptoBulkAll ds ≤ 1048576)
def OpenSpec.upto (s : _root_.Go.ChangeSpec) : _root_.Go.OpenSpec := { _root_.Go.OpenSpec.ofChange s with cond := some uptoSmall }

/-- 'padstonelaw01.WordPlays', WHERE WHAT IT READS IS OF BULK AT MOST 1048576: true; the input reads as it did. -/
def wordPlaysUptoRow : OpenClaim := { program := "ytcigkgbbkgjoiaa", sum := "d84045ad39907466cf02a57cd54c0d59c08171e4b53c6af4ac2f56058a00ec65", func := "padstone/padstonelaw01.WordPlays", spec := "wordPlays", apart := false, narrowed := true }
def WordPlaysUptoSaid : Prop := wordPlaysUptoRow.holds Try.pinned (OpenSpec.upto wordPlaysSpec)

/-- 'padstonelaw01.WordStays', WHERE WHAT IT READS IS OF BULK AT MOST 1048576: true; the input reads as it did. -/
def wordStaysUptoRow : OpenClaim := { program := "ytcigkgbbkgjoiaa", sum := "d84045ad39907466cf02a57cd54c0d59c08171e4b53c6af4ac2f56058a00ec65", func := "padstone/padstonelaw01.WordStays", spec := "wordStays", apart := false, narrowed := true }
def WordStaysUptoSaid : Prop := wordStaysUptoRow.holds Try.pinned (OpenSpec.upto wordStaysSpec)

end Rows
end Go.Proofs.Ytcigkgbbkgjoiaa
