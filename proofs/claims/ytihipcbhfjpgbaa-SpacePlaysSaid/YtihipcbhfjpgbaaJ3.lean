/- The document's state of layers 9 to 21 as it lies in this program's types; a number of a list of numbers. -/
import Derived.Test.YtihipcbhfjpgbaaRefNew2
import Derived.Test.YtihipcbhfjpgbaaJ1
import Derived.Test.YtihipcbhfjpgbaaRows
import Derived.Test.YtihipcbhfjpgbaaMem
import Derived.WalkKit
import Derived.WalkSpells
import Derived.WalkLawsBesides
import Derived.Handy
import Derived.BigQuiet
import Derived.Deep.QuietTactic
import Derived.RegionTactic
import Derived.Lib.Hide
import Derived.Deep.Light
import Derived.Test.YtihipcbhfjpgbaaRefStM
namespace Go.Proofs.Ytihipcbhfjpgbaa
open Go.RowKit
theorem infoIt : (Try.prog.info? ItT).map (fun i => (i.zero, i.size, i.bytes)) = some (some (.int .i64 0), 1, 8) := by kernel_rfl
theorem rowN_cell {w : World} {A : Option Addr} {t : TypeId} {L : List Int} {k : Nat} {x : Int} (h : RowN w A t irow' 1 L) (hx : L[k]? = some x) : ∃ g, A = some ⟨g, 0, none⟩ ∧ g < w.heap.size ∧ w.cell? ⟨g, k, none⟩ = some (.int .i64 x) := by
  obtain ⟨g, cur, hA, hb, hc⟩ := h k x hx
  refine ⟨g, hA, hb.lt, ?_⟩
  rw [hb.cell]
  have := hc 0 _ rfl
  simpa using this
theorem slotOk_yes {i : Int} : slotOk i = true ↔ 0 ≤ i ∧ i < 96 := by simp [slotOk]
theorem slotOk_no {i : Int} : slotOk i = false ↔ i < 0 ∨ 96 ≤ i := by simp [slotOk]; omega
abbrev RefM (w : World) (p gs go : Nat) (S : RSt) : Prop := RefAt w StT SlT ObT ItT p gs go S
/-- what lists of kids are: not long -/
def RSt.Short (S : RSt) : Prop := ∀ i : Int, (S.kids i).length ≤ 500
end Go.Proofs.Ytihipcbhfjpgbaa
/- Link, Unlink, Leaf, Replace of the document's state (layer 10), as mathematics. -/
namespace Go.Proofs.Ytihipcbhfjpgbaa
open Go.RowKit
def linkN (S : RSt) (k p : Int) : Int := if slotOk k = false ∨ slotOk p = false then 2 else if k = p ∨ 0 ≤ S.par k then 10 else 0
def linkS (S : RSt) (k p : Int) : RSt := if linkN S k p = 0 then { S with par := setF S.par k p, kids := setF S.kids p (k :: S.kids p) } else S
def unlinkN (k : Int) : Int := if slotOk k = false then 2 else 0
def unlinkS (S : RSt) (k : Int) : RSt := if slotOk k = true ∧ 0 ≤ S.par k then { S with kids := setF S.kids (S.par k) ((S.kids (S.par k)).erase k), par := setF S.par k (-1) } else S
/-- each time the first kid, so often at most -/
def leafR (K : Int → List Int) : Nat → Int → Int
  | 0, i => i
  | n + 1, i => match K i with
    | [] => i
    | x :: _ => leafR K n x
def leafS (S : RSt) (i : Int) : Int := if slotOk i = true then leafR S.kids 96 i else -1
def parsTo (P : Int → Int) (l : List Int) (b : Int) : Int → Int := l.foldl (fun P x => setF P x b) P
def kids1 (S : RSt) (a b : Int) : Int → List Int := if 0 ≤ S.par a then setF S.kids (S.par a) ((S.kids (S.par a)).map (swapK a b)) else S.kids
def replaceN (S : RSt) (a b : Int) : Int := if slotOk a = false ∨ slotOk b = false then 2 else if a = b ∨ 0 ≤ S.par b ∨ S.kids b ≠ [] then 10 else 0
def replaceOk (S : RSt) (a b : Int) : RSt :=
  { S with par := parsTo (setF (setF S.par b (S.par a)) a (-1)) (kids1 S a b a) b, kids := setF (setF (kids1 S a b) b (kids1 S a b a)) a [] }
def replaceS (S : RSt) (a b : Int) : RSt := if replaceN S a b = 0 then replaceOk S a b else S
end Go.Proofs.Ytihipcbhfjpgbaa
/- Rights' mathematics (layer 3): what is derived, minted, mutated; what is within another one. No dump is read here. -/
namespace Go.Proofs.Ytihipcbhfjpgbaa
open Go.RowKit
/-- the rights that both have -/
def andR (a b : Int) : Int := bits .and .i64 a b
/-- a sum of the first k rights that both have -/
def part (a b : Int) : Nat → Int
  | 0 => 0
  | k + 1 => part a b k + if a / 2 ^ k % 2 = 1 ∧ b / 2 ^ k % 2 = 1 then 2 ^ k else 0
def Cp.mint (c : Cp) (m b : Int) : Cp × Int :=
  if ¬ (c.may ∧ c.kind ≠ 0 ∧ 0 ≤ m ∧ m ≤ 7 ∧ 1 ≤ b ∧ b ≤ 65535) then (Cp.zero, 1) else if ¬ (c.kind = 3 ∨ c.kind = 4) then (Cp.zero, 5) else if c.badge ≠ 0 then (Cp.zero, 10)
  else (⟨c.kind, andR c.rights m, c.obj, b, c.guard, c.bits⟩, 0)
def Cp.mutate (c : Cp) (g n : Int) : Cp × Int :=
  if ¬ (c.may ∧ c.kind ≠ 0) then (Cp.zero, 1) else if c.kind ≠ 2 then (Cp.zero, 5) else if ¬ (Cp.mk c.kind c.rights c.obj c.badge g n).may then (Cp.zero, 1) else (⟨c.kind, c.rights, c.obj, c.badge, g, n⟩, 0)
/-- it may still be with other rights, and another badge -/
theorem Cp.may.with {c : Cp} (h : c.may) (hk : c.kind ≠ 0) {r b : Int} (hr0 : 0 ≤ r) (hr : r ≤ 7) (hb : mayBadge c.kind b) : (Cp.mk c.kind r c.obj b c.guard c.bits).may := by
  unfold Cp.may at h ⊢
  rw [if_neg hk] at h
  simp only
  rw [if_neg hk]
  exact ⟨h.1, ⟨hr0, hr⟩, h.2.2.1, hb, h.2.2.2.2⟩
theorem Cp.may.badge {c : Cp} (h : c.may) (hk : c.kind ≠ 0) : mayBadge c.kind c.badge := by
  unfold Cp.may at h
  rw [if_neg hk] at h
  exact h.2.2.2.1
end Go.Proofs.Ytihipcbhfjpgbaa
/- What the document's own answer for layer 2 answers: Word alone. -/
namespace Go.Proofs.Ytihipcbhfjpgbaa
open Go.RowKit
theorem refWord_any (c : Cp) (w : World) (h : c.Small) : Calls Try.prog 18 #[c.v] w fun e w' => e = .returned (.int .u64 c.word) ∧ Only [] w w' := by
  have hw := Cp.word_lt h
  obtain ⟨h1, h2, h3, h4, h5, h6, h7, h8, h9, h10, h11, h12⟩ := h
  unfold Cp.word at hw
  go_enter Try.func18, Try.ntmps18
  go_wp2
  go_ret
  exact ⟨by unfold Cp.word; rfl, (Only.refl _ _).alloc _⟩
end Go.Proofs.Ytihipcbhfjpgbaa
/- The words of the document's state, as mathematics: which are put, one behind the other (layers 9 to 21). No dump is read here. -/
namespace Go.Proofs.Ytihipcbhfjpgbaa
open Go.RowKit
/-- what kid number k of slot i puts -/
def kidW (i : Nat) (l : List Int) (k : Nat) : List (Int × Int) :=
  (if k = 0 then [(5 * (i : Int) + 2, l.getD k 0 + 1)] else [(5 * l.getD k 0 + 4, l.getD (k - 1) 0 + 1)]) ++ (if k + 1 < l.length then [(5 * l.getD k 0 + 3, l.getD (k + 1) 0 + 1)] else [])
/-- what slot i puts -/
def slotW (S : RSt) (i : Nat) : List (Int × Int) := [(5 * (i : Int), (S.cap i).word), (5 * (i : Int) + 1, S.par i + 1)] ++ (List.range (S.kids i).length).flatMap (kidW i (S.kids i))
theorem range_flat_succ {α : Type} (f : Nat → List α) (n : Nat) : (List.range (n + 1)).flatMap f = (List.range n).flatMap f ++ f n := by
  rw [List.range_succ, List.flatMap_append]
  simp
theorem applyW_step (f : Nat → List (Int × Int)) (n : Nat) (L : List Int) : applyW ((List.range (n + 1)).flatMap f) L = applyW (f n) (applyW ((List.range n).flatMap f) L) := by rw [range_flat_succ, applyW_append]
theorem applyW_slot (S : RSt) (i : Nat) (L : List Int) : applyW (slotW S i) L = applyW ((List.range (S.kids i).length).flatMap (kidW i (S.kids i))) (setL (setL L (5 * (i : Int)) (S.cap i).word) (5 * (i : Int) + 1) (S.par i + 1)) := rfl
end Go.Proofs.Ytihipcbhfjpgbaa
/- A word as a row of cells. -/
namespace Go.Proofs.Ytihipcbhfjpgbaa
open Go.RowKit
def u64row (v : Int) : List Value := [.int .u64 v]
theorem infoU64 : (Try.prog.info? 58).map (fun i => (i.zero, i.size, i.bytes)) = some (some (.int .u64 0), 1, 8) := by kernel_rfl
end Go.Proofs.Ytihipcbhfjpgbaa
