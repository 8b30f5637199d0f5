/- The document's state of layers 9 to 21: an object without anything, rows that are like one another. -/
import Derived.Test.YtihipcbhfjpgbaaRows
import Derived.Test.YtihipcbhfjpgbaaRefStM
import Derived.WalkKit
import Derived.WalkSpells
import Derived.WalkLawsBesides
import Derived.Handy
import Derived.BigQuiet
import Derived.Deep.QuietTactic
import Derived.RegionTactic
import Derived.Deep.RegionHeld3
import Derived.Deep.AppendLies
import Derived.Deep.WholeRow
import Derived.Laws.Tables
import Derived.Lib.Hide
import Derived.Deep.Light
namespace Go.Proofs.Ytihipcbhfjpgbaa
open Go.RowKit
abbrev StT : TypeId := 50
abbrev SlT : TypeId := 57
abbrev ObT : TypeId := 46
abbrev ItT : TypeId := 3
def slotOk (i : Int) : Bool := decide (0 ≤ i ∧ i < 96)
/-- its cells -/
abbrev freshA (k : Int) : Array Value := #[.int .i64 k, .int .i64 0, .int .i64 0, .int .i64 0, .int .i64 0, .int .i64 0, .slice none 0 0, .int .i64 0, .int .i64 0, .int .i64 (-1), .int .i64 0, .int .i64 0, .int .i64 (-1), .int .i64 (-1), .int .i64 0, .int .i64 0, .int .i64 0, .int .i64 0, .int .i64 0, .int .i64 0, .int .i64 (-1), .int .i64 (-1), .int .i64 (-1), .int .i64 (-1), .int .i64 0, .int .i64 0, .int .i64 0, .int .i64 0, .int .i64 (-1), .int .i64 0, .int .i64 (-1), .int .i64 0]
theorem sizeOb : (Try.prog.info? ObT).map (·.size) = some 32 := by kernel_rfl
theorem objRow_one (x : RObj) (A : Option Addr) (n c : Nat) : (objRow x (.slice A n c)).toArray.all (·.oneCell') = true := by
  simp [objRow, Value.oneCell']
theorem wpList_mv {P : Program} {ops : Array Oper} {rest : List Oper} {o : Oper} {a : Act} {w : World} {Q : Exit → Act → World → Prop} (hg : o.guard = none) (x : Operand) (ho : o.op = .move x)
    (h : wpList P ops Q rest (a.put o.dst (a.eval x)) w) : wpList P ops Q (o :: rest) a w :=
  wpList_plain hg fun K hK => by
    unfold Oper.wp execOp
    simp only [ho]
    exact hK _ _ h
set_option maxRecDepth 100000 in
set_option maxHeartbeats 1000000 in
theorem fresh_any (k : Int) (w : World) : Calls Try.prog 17 #[.int .i64 k] w fun e w' => e = .returned (.agg (freshA k)) ∧ Only [] w w' := by
  go_enter Try.func17, Try.ntmps17
  go_upto_region 1 with fail
  refine wp_region_lit ?_
  refine wpList_mv rfl _ rfl ?_
  refine wpList_build rfl 44 _ rfl (by kernel_rfl) ?_
  refine wpList_build rfl ObT _ rfl (by kernel_rfl) ?_
  refine wpList_store_row rfl ObT _ _ rfl w.heap.size (freshA k) (by kernel_rfl) (by kernel_rfl) ObT _ (heap_alloc_new w _) sizeOb rfl (objRow_one (RObj.fresh k) none 0 0) ?_
  rw [World.setRow_alloc_new]
  refine wpList_nil ?_
  go_wp2
  refine bodyPost_ret (results_cell_row (P := Try.prog) (fn := Try.f17) rfl _ _ w.heap.size ObT _ (0, 0) _ rfl (heap_alloc_new w _) Try.underlying46 rfl sizeOb) rfl ⟨rfl, (Only.refl _ _).alloc _⟩
def slotZ : Value := .agg #[.int .i64 0, .int .i64 0, .int .i64 0, .int .i64 0, .int .i64 0, .int .i64 0, .int .i64 0, .slice none 0 0]
def objZ : Value := .agg (objRow ⟨0, 0, 0, 0, 0, 0, [], 0, 0, 0, 0, 0, 0, 0, Cp.zero, 0, 0, 0, 0, 0, 0, 0, 0, 0, 0, 0, 0⟩ (.slice none 0 0)).toArray
theorem infoSlot : (Try.prog.info? SlT).map (fun i => (i.zero, i.size, i.bytes)) = some (some slotZ, 8, 80) := by kernel_rfl
theorem infoObj : (Try.prog.info? ObT).map (fun i => (i.zero, i.size, i.bytes)) = some (some objZ, 32, 272) := by kernel_rfl
theorem blk_grown {w w' : World} {g : Nat} {t : TypeId} {cs : Array Value} {row : Option Nat} (hb : Blk w g t cs) (hg : w.grownBy w' row) (hne : row ≠ some g) : Blk w' g t cs := (hg.block g hb.lt (fun e => hne e.symm)).trans hb
theorem own_apart {w : World} {base g size n : Nat} {e t : TypeId} {v : Value} {xs : List Value} {cs : Array Value} (h : w.ownsRow base e size v n xs) (hb : Blk w g t cs) (hne : e ≠ t) : v.ownBlock ≠ some g := fun hv => by
  rcases h.2 with ⟨rfl, -⟩ | ⟨g', cap, cur, rfl, -, hg, -⟩
  · cases hv
  · simp [Value.ownBlock] at hv
    subst hv
    exact hne (Blk.uniq (show Blk w g' e cur from hg) hb).1
theorem own_base {w : World} {base g size n : Nat} {e : TypeId} {v : Value} {xs : List Value} (h : w.ownsRow base e size v n xs) (hv : v.ownBlock = some g) : base ≤ g := by
  rcases h.2 with ⟨rfl, -⟩ | ⟨g', cap, cur, rfl, hb, -⟩
  · cases hv
  · simp [Value.ownBlock] at hv
    omega
theorem only_grows {a w w' : World} {row : Option Nat} (h : Only [] a w) (hg : w.grownBy w' row) (hr : ∀ j, row = some j → a.heap.size ≤ j) : Only [] a w' :=
  ⟨hg.os.trans h.os, hg.tape.trans h.tape, hg.output.trans h.output, Nat.le_trans h.size hg.size, fun k hk hn => (hg.block k (Nat.lt_of_lt_of_le hk h.size) (fun e => by have := hr k e.symm; omega)).trans (h.block k hk hn)⟩
def slotF : List Value := slotRow Cp.zero (-1) (.slice none 0 0)
def objF : List Value := objRow (RObj.fresh 0) (.slice none 0 0)
/-- so many like rows -/
def many (r : List Value) (k : Nat) : List Value := (List.replicate k r).flatten
theorem many_succ (r : List Value) (k : Nat) : many r (k + 1) = many r k ++ r := by
  unfold many
  rw [List.replicate_succ', List.flatten_append]
  simp
theorem grows_S {W W' : World} {v : Value} (hg : W.grownBy W' v.ownBlock) : Only v.ownBlock.toList W W' :=
  ⟨hg.os, hg.tape, hg.output, hg.size, fun k hk hn => hg.block k hk (fun e => hn (by rw [← e]; simp))⟩
end Go.Proofs.Ytihipcbhfjpgbaa
