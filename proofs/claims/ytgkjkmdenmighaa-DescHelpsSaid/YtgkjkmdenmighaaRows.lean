/-
  No cell of these rows narrows 'for every input' (looked for: loops, veiled, ifaces, maps, wideKeys, modest, calm, conditions, laid).
  DERIVED. THE GIVEN ROWS OF THIS SEAT. 2 by the template 'for every input the law returns true; each argument reads behind the call as it read before'; 0 by the template 'total and deterministic' (their statements: YtgkjkmdenmighaaTotals.lean).
  GIVEN WITH THE SEED: the statements are not yours to turn. If you find one false, say at which input.
  Laid BY PROGRAM, IN A SANDBOX (cutbox-rows.mjs): the forced cells as the released guide's own fill.sh prints them over the translation c77f4f439670fc69… (all of the seat's roots in one cut). By AI agents, Wed Nov 11 2026. No macro, syntax, notation, axiom, sorry.
-/
import Derived.Test.YtgkjkmdenmighaaChecked
import GoSem.Claim
import GoSem.ClaimJoined
import GoSem.ClaimMapViews
import Derived.JoinedTies
import Derived.KernelRfl
namespace Go.Proofs.Ytgkjkmdenmighaa
/- THE CELL 'sum', in the pinned program and in every row, IS THE sha256 OF THE DUMP (.gsa) THAT YtgkjkmdenmighaaProg.lean LOADS. Nothing in Lean hashes anything: it is a label: what it is worth is what the hold of that sum in a sandbox is worth. -/
noncomputable def Try.pinned : Pinned := { name := "ytgkjkmdenmighaa", sum := "c77f4f439670fc69c1d9dce63dd05e389b55bb91ad518535089944b01ae6fac8", checked := Try.checked }
namespace Rows
def none {H : Type} : Left H := { results := [], args := [] }

/-- 'padstonelaw07.DescSteps': WHATEVER THE INPUT: true; the input reads as it did. -/
def descStepsSpec : ChangeSpec := { name := "descSteps", fn := fun _ => fun
  | [d1, d2, d3, d4] => { results := [.lit (.bool true)], args := [d1, d2, d3, d4] }
  | _ => none }
def descStepsRow : OpenClaim := { program := "ytgkjkmdenmighaa", sum := "c77f4f439670fc69c1d9dce63dd05e389b55bb91ad518535089944b01ae6fac8", func := "padstone/padstonelaw07.DescSteps", spec := "descSteps", apart := false }
def DescStepsSaid : Prop := descStepsRow.holds Try.pinned (OpenSpec.ofChange descStepsSpec)

/-- ITS FALSE NEIGHBOUR: 'it returns false'. Refute it at one input. -/
def descStepsWrong : ChangeSpec := { name := "descSteps", fn := fun _ => fun
  | [d1, d2, d3, d4] => { results := [.lit (.bool false)], args := [d1, d2, d3, d4] }
  | _ => none }
def DescStepsWrongFalsely : Prop := descStepsRow.holds Try.pinned (OpenSpec.ofChange descStepsWrong)

/-- 'padstonelaw07.DescHelps': WHATEVER THE INPUT: true; the input reads as it did. -/
def descHelpsSpec : ChangeSpec := { name := "descHelps", fn := fun _ => fun
  | [d1, d2, d3] => { results := [.lit (.bool true)], args := [d1, d2, d3] }
  | _ => none }
def descHelpsRow : OpenClaim := { program := "ytgkjkmdenmighaa", sum := "c77f4f439670fc69c1d9dce63dd05e389b55bb91ad518535089944b01ae6fac8", func := "padstone/padstonelaw07.DescHelps", spec := "descHelps", apart := false }
def DescHelpsSaid : Prop := descHelpsRow.holds Try.pinned (OpenSpec.ofChange descHelpsSpec)

/-- ITS FALSE NEIGHBOUR: 'it returns false'. Refute it at one input. -/
def descHelpsWrong : ChangeSpec := { name := "descHelps", fn := fun _ => fun
  | [d1, d2, d3] => { results := [.lit (.bool false)], args := [d1, d2, d3] }
  | _ => none }
def DescHelpsWrongFalsely : Prop := descHelpsRow.holds Try.pinned (OpenSpec.ofChange descHelpsWrong)

/- THE SECOND FORM. 'bulk': how many values and letters a reading holds, each counted each time it is reached (what is shared counts as often as it is met; a slice's spare places count too). A statement '..UptoSaid' is the law's where the arguments, and the package variables that the reading takes, are together of bulk at most 1048576: NARROWER than '..Said'. Prove '..Said' where nothing that the law and all that it calls make is longer than what came in: it says more and counts as full. Else prove '..UptoSaid'. A law counts once. -/
mutual
def uptoBulk {H : Type} : DataW H → Nat
  | .lit (.string bytes) => bytes.length + 1
  | .lit _ => 1
  | .nil => 1
  | .ptr d => uptoBulk d + 1
  | .slice elems spare => uptoBulkAll elems + uptoBulkAll spare + 1
  | .agg parts => uptoBulkAll parts + 1
  | .iface _ d => uptoBulk d + 1
  | .map entries => uptoBulkEntries entries + 1
  | .held _ => 1
def uptoBulkAll {H : Type} : List (DataW H) → Nat
  | [] => 0
  | d :: r => uptoBulk d + uptoBulkAll r
def uptoBulkEntries {H : Type} : List (Lit × DataW H) → Nat
  | [] => 0
  | x :: r => uptoBulkEntry x + uptoBulkEntries r
def uptoBulkEntry {H : Type} : Lit × DataW H → Nat
  | (.string bytes, d) => bytes.length + uptoBulk d + 1
  | (_, d) => uptoBulk d + 1
 end
def uptoSmall : (H : Type) → List (DataW H) → Bool := fun _ ds => decide (uptoBulkAll ds ≤ 1048576)
def OpenSpec.upto (s : _root_.Go.ChangeSpec) : _root_.Go.OpenSpec := { _root_.Go.OpenSpec.ofChange s with cond := some uptoSmall }

/-- 'padstonelaw07.DescSteps', WHERE WHAT IT READS IS OF BULK AT MOST 1048576: true; the input reads as it did. -/
def descStepsUptoRow : OpenClaim := { program := "ytgkjkmdenmighaa", sum := "c77f4f439670fc69c1d9dce63dd05e389b55bb91ad518535089944b01ae6fac8", func := "padstone/padstonelaw07.DescSteps", spec := "descSteps", apart := false, narrowed := true }
def DescStepsUptoSaid : Prop := descStepsUptoRow.holds Try.pinned (OpenSpec.upto descStepsSpec)

/-- 'padstonelaw07.DescHelps', WHERE WHAT IT READS IS OF BULK AT MOST 1048576: true; the input reads as it did. -/
def descHelpsUptoRow : OpenClaim := { program := "ytgkjkmdenmighaa", sum := "c77f4f439670fc69c1d9dce63dd05e389b55bb91ad518535089944b01ae6fac8", func := "padstone/padstonelaw07.DescHelps", spec := "descHelps", apart := false, narrowed := true }
def DescHelpsUptoSaid : Prop := descHelpsUptoRow.holds Try.pinned (OpenSpec.upto descHelpsSpec)

end Rows
end Go.Proofs.Ytgkjkmdenmighaa
