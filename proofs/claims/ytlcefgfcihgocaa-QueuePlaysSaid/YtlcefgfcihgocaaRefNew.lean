/- The document's state of layers 9 to 21: an object without anything, rows that are like one another. -/
import Derived.Test.YtlcefgfcihgocaaRows
import Derived.Test.YtlcefgfcihgocaaRefStM
import Derived.WalkKit
import Derived.WalkSpells
import Derived.WalkLawsBesides
import Derived.Handy
import Derived.BigQuiet
import Derived.Deep.QuietTactic
import Derived.RegionTactic
import Derived.Deep.RegionHeld3
import Derived.Deep.AppendLies
import Derived.Deep.WholeRow
import Derived.Laws.Tables
import Derived.Lib.Hide
import Derived.Deep.Light
namespace Go.Proofs.Ytlcefgfcihgocaa
open Go.RowKit
abbrev ItT : TypeId := 3
theorem own_base {w : World} {base g size n : Nat} {e : TypeId} {v : Value} {xs : List Value} (h : w.ownsRow base e size v n xs) (hv : v.ownBlock = some g) : base ≤ g := by
  rcases h.2 with ⟨rfl, -⟩ | ⟨g', cap, cur, rfl, hb, -⟩
  · cases hv
  · simp [Value.ownBlock] at hv
    omega
theorem only_grows {a w w' : World} {row : Option Nat} (h : Only [] a w) (hg : w.grownBy w' row) (hr : ∀ j, row = some j → a.heap.size ≤ j) : Only [] a w' :=
  ⟨hg.os.trans h.os, hg.tape.trans h.tape, hg.output.trans h.output, Nat.le_trans h.size hg.size, fun k hk hn => (hg.block k (Nat.lt_of_lt_of_le hk h.size) (fun e => by have := hr k e.symm; omega)).trans (h.block k hk hn)⟩
/-- so many like rows -/
def many (r : List Value) (k : Nat) : List Value := (List.replicate k r).flatten
theorem grows_S {W W' : World} {v : Value} (hg : W.grownBy W' v.ownBlock) : Only v.ownBlock.toList W W' :=
  ⟨hg.os, hg.tape, hg.output, hg.size, fun k hk hn => hg.block k hk (fun e => hn (by rw [← e]; simp))⟩
end Go.Proofs.Ytlcefgfcihgocaa
