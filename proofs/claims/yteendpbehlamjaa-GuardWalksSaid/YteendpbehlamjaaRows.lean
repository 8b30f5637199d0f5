/-
  No cell of these rows narrows 'for every input' (looked for: loops, veiled, ifaces, maps, wideKeys, modest, calm, conditions, laid).
  DERIVED. THE GIVEN ROWS OF THIS SEAT. 3 by the template 'for every input the law returns true; each argument reads behind the call as it read before'; 0 by the template 'total and deterministic' (their statements: YteendpbehlamjaaTotals.lean).
  GIVEN WITH THE SEED: the statements are not yours to turn. If you find one false, say at which input.
  Laid BY PROGRAM, IN A SANDBOX (cutbox-rows.mjs): the forced cells as the released guide's own fill.sh prints them over the translation 75ade032971c91c0… (all of the seat's roots in one cut). By AI agents, Wed Nov 11 2026. No macro, syntax, notation, axiom, sorry.
-/
import Derived.Test.YteendpbehlamjaaChecked
import GoSem.Claim
import GoSem.ClaimJoined
import GoSem.ClaimMapViews
import Derived.JoinedTies
import Derived.KernelRfl
namespace Go.Proofs.Yteendpbehlamjaa
/- THE CELL 'sum', in the pinned program and in every row, IS THE sha256 OF THE DUMP (.gsa) THAT YteendpbehlamjaaProg.lean LOADS. Nothing in Lean hashes anything: it is a label: what it is worth is what the hold of that sum in a sandbox is worth. -/
noncomputable def Try.pinned : Pinned := { name := "yteendpbehlamjaa", sum := "75ade032971c91c0a51ac6712c09e2185eeab68c794b68fc8eb314418a23d0c3", checked := Try.checked }
namespace Rows
def none {H : Type} : Left H := { results := [], args := [] }

/-- 'padstonelaw04.GuardWalks': WHATEVER THE INPUT: true; the input reads as it did. -/
def guardWalksSpec : ChangeSpec := { name := "guardWalks", fn := fun _ => fun
  | [d1, d2, d3, d4, d5] => { results := [.lit (.bool true)], args := [d1, d2, d3, d4, d5] }
  | _ => none }
def guardWalksRow : OpenClaim := { program := "yteendpbehlamjaa", sum := "75ade032971c91c0a51ac6712c09e2185eeab68c794b68fc8eb314418a23d0c3", func := "padstone/padstonelaw04.GuardWalks", spec := "guardWalks", apart := false }
def GuardWalksSaid : Prop := guardWalksRow.holds Try.pinned (OpenSpec.ofChange guardWalksSpec)

/-- ITS FALSE NEIGHBOUR: 'it returns false'. Refute it at one input. -/
def guardWalksWrong : ChangeSpec := { name := "guardWalks", fn := fun _ => fun
  | [d1, d2, d3, d4, d5] => { results := [.lit (.bool false)], args := [d1, d2, d3, d4, d5] }
  | _ => none }
def GuardWalksWrongFalsely : Prop := guardWalksRow.holds Try.pinned (OpenSpec.ofChange guardWalksWrong)

/-- 'padstonelaw04.GuardJoins': WHATEVER THE INPUT: true; the input reads as it did. -/
def guardJoinsSpec : ChangeSpec := { name := "guardJoins", fn := fun _ => fun
  | [d1, d2] => { results := [.lit (.bool true)], args := [d1, d2] }
  | _ => none }
def guardJoinsRow : OpenClaim := { program := "yteendpbehlamjaa", sum := "75ade032971c91c0a51ac6712c09e2185eeab68c794b68fc8eb314418a23d0c3", func := "padstone/padstonelaw04.GuardJoins", spec := "guardJoins", apart := false }
def GuardJoinsSaid : Prop := guardJoinsRow.holds Try.pinned (OpenSpec.ofChange guardJoinsSpec)

/-- ITS FALSE NEIGHBOUR: 'it returns false'. Refute it at one input. -/
def guardJoinsWrong : ChangeSpec := { name := "guardJoins", fn := fun _ => fun
  | [d1, d2] => { results := [.lit (.bool false)], args := [d1, d2] }
  | _ => none }
def GuardJoinsWrongFalsely : Prop := guardJoinsRow.holds Try.pinned (OpenSpec.ofChange guardJoinsWrong)

/-- 'padstonelaw04.GuardBack': WHATEVER THE INPUT: true; the input reads as it did. -/
def guardBackSpec : ChangeSpec := { name := "guardBack", fn := fun _ => fun
  | [d1, d2, d3, d4, d5] => { results := [.lit (.bool true)], args := [d1, d2, d3, d4, d5] }
  | _ => none }
def guardBackRow : OpenClaim := { program := "yteendpbehlamjaa", sum := "75ade032971c91c0a51ac6712c09e2185eeab68c794b68fc8eb314418a23d0c3", func := "padstone/padstonelaw04.GuardBack", spec := "guardBack", apart := false }
def GuardBackSaid : Prop := guardBackRow.holds Try.pinned (OpenSpec.ofChange guardBackSpec)

/-- ITS FALSE NEIGHBOUR: 'it returns false'. Refute it at one input. -/
def guardBackWrong : ChangeSpec := { name := "guardBack", fn := fun _ => fun
  | [d1, d2, d3, d4, d5] => { results := [.lit (.bool false)], args := [d1, d2, d3, d4, d5] }
  | _ => none }
def GuardBackWrongFalsely : Prop := guardBackRow.holds Try.pinned (OpenSpec.ofChange guardBackWrong)

/- THE SECOND FORM. 'bulk': how many values and letters a reading holds, each counted each time it is reached (what is shared counts as often as it is met; a slice's spare places count too). A statement '..UptoSaid' is the law's where the arguments, and the package variables that the reading takes, are together of bulk at most 1048576: NARROWER than '..Said'. Prove '..Said' where nothing that the law and all that it calls make is longer than what came in: it says more and counts as full. Else prove '..UptoSaid'. A law counts once. -/
mutual
def uptoBulk {H : Type} : DataW H → Nat
  | .lit (.string bytes) => bytes.length + 1
  | .lit _ => 1
  | .nil => 1
  | .ptr d => uptoBulk d + 1
  | .slice elems spare => uptoBulkAll elems + uptoBulkAll spare + 1
  | .agg parts => uptoBulkAll parts + 1
  | .iface _ d => uptoBulk d + 1
  | .map entries => uptoBulkEntries entries + 1
  | .held _ => 1
def uptoBulkAll {H : Type} : List (DataW H) → Nat
  | [] => 0
  | d :: r => uptoBulk d + uptoBulkAll r
def uptoBulkEntries {H : Type} : List (Lit × DataW H) → Nat
  | [] => 0
  | x :: r => uptoBulkEntry x + uptoBulkEntries r
def uptoBulkEntry {H : Type} : Lit × DataW H → Nat
  | (.string bytes, d) => bytes.length + uptoBulk d + 1
  | (_, d) => uptoBulk d + 1
 end
def uptoSmall : (H : Type) → List (DataW H) → Bool := fun _ ds => decide (uptoBulkAll ds ≤ 1048576)
def OpenSpec.upto (s : _root_.Go.ChangeSpec) : _root_.Go.OpenSpec := { _root_.Go.OpenSpec.ofChange s with cond := some uptoSmall }

/-- 'padstonelaw04.GuardWalks', WHERE WHAT IT READS IS OF BULK AT MOST 1048576: true; the input reads as it did. -/
def guardWalksUptoRow : OpenClaim := { program := "yteendpbehlamjaa", sum := "75ade032971c91c0a51ac6712c09e2185eeab68c794b68fc8eb314418a23d0c3", func := "padstone/padstonelaw04.GuardWalks", spec := "guardWalks", apart := false, narrowed := true }
def GuardWalksUptoSaid : Prop := guardWalksUptoRow.holds Try.pinned (OpenSpec.upto guardWalksSpec)

/-- 'padstonelaw04.GuardJoins', WHERE WHAT IT READS IS OF BULK AT MOST 1048576: true; the input reads as it did. -/
def guardJoinsUptoRow : OpenClaim := { program := "yteendpbehlamjaa", sum := "75ade032971c91c0a51ac6712c09e2185eeab68c794b68fc8eb314418a23d0c3", func := "padstone/padstonelaw04.GuardJoins", spec := "guardJoins", apart := false, narrowed := true }
def GuardJoinsUptoSaid : Prop := guardJoinsUptoRow.holds Try.pinned (OpenSpec.upto guardJoinsSpec)

/-- 'padstonelaw04.GuardBack', WHERE WHAT IT READS IS OF BULK AT MOST 1048576: true; the input reads as it did. -/
def guardBackUptoRow : OpenClaim := { program := "yteendpbehlamjaa", sum := "75ade032971c91c0a51ac6712c09e2185eeab68c794b68fc8eb314418a23d0c3", func := "padstone/padstonelaw04.GuardBack", spec := "guardBack", apart := false, narrowed := true }
def GuardBackUptoSaid : Prop := guardBackUptoRow.holds Try.pinned (OpenSpec.upto guardBackSpec)

end Rows
end Go.Proofs.Yteendpbehlamjaa
