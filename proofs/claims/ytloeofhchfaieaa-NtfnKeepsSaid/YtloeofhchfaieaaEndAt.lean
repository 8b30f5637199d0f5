/- What lies in EndpOnce's walk: the words, what is blocked, what was got and sent (layer 15). -/
import Derived.Test.YtloeofhchfaieaaEpS
import Derived.Test.YtloeofhchfaieaaJ11
import Derived.Test.YtloeofhchfaieaaWokF
import Derived.Test.YtloeofhchfaieaaRows
import Derived.Test.YtloeofhchfaieaaLaw
import Derived.Test.YtloeofhchfaieaaJ1
import Derived.Test.YtloeofhchfaieaaJ16
import Derived.Test.YtloeofhchfaieaaJ15
import Derived.Test.YtloeofhchfaieaaJ4
import Derived.KernelRfl
namespace Go.Proofs.Ytloeofhchfaieaa
open Go.RowKit
abbrev BlT : TypeId := 4
def brow (b : Bool) : List Value := [.bool b]
theorem infoBl : (Try.prog.info? BlT).map (fun i => (i.zero, i.size, i.bytes)) = some (some (.bool false), 1, 1) := by kernel_rfl
/-- a list of bools, known by number -/
def Bools (w : World) (g n : Nat) (bl : Int → Bool) : Prop := ∃ cur, Blk w g BlT cur ∧ ∀ k : Nat, k < n → cur[k]? = some (.bool (bl k))
section
variable {w w' : World} {g n k : Nat} {bl : Int → Bool}
theorem Bools.only {F : List Nat} (h : Bools w g n bl) (ho : Only F w w') (hg : g ∉ F) : Bools w' g n bl := by
  obtain ⟨cur, hb, hc⟩ := h
  exact ⟨cur, ho.blk hb hg, hc⟩
theorem Bools.cell (h : Bools w g n bl) (hk : k < n) : w.cell? ⟨g, k, none⟩ = some (.bool (bl k)) := by
  obtain ⟨cur, hb, hc⟩ := h
  rw [hb.cell]
  exact hc k hk
theorem Bools.frozen (h : Bools w g n bl) (k : Nat) : w.frozen? ⟨g, k, none⟩ = false := by
  obtain ⟨cur, hb, hc⟩ := h
  exact hb.frozen k
theorem Bools.lt (h : Bools w g n bl) : g < w.heap.size := by
  obtain ⟨cur, hb, hc⟩ := h
  exact hb.lt
theorem Bools.set_ (h : Bools w g n bl) (hk : k < n) (b : Bool) : Bools (w.setCell ⟨g, k, none⟩ (.bool b)) g n (setF bl k b) := by
  obtain ⟨cur, hb, hc⟩ := h
  refine ⟨_, hb.set_ k _, fun i hi => ?_⟩
  by_cases e : i = k
  · subst e
    rw [setF_self, Array.getElem?_setIfInBounds_self_of_lt ((Array.getElem?_eq_some_iff.1 (hc i hi)).1)]
  · rw [Array.getElem?_setIfInBounds_ne (fun e2 => e e2.symm), setF_ne (by omega)]
    exact hc i hi
theorem bools_made (w : World) (n : Nat) : Bools (w.alloc (.cells (flat brow (List.replicate n false)) BlT)) w.heap.size n (fun _ => false) := by
  refine ⟨_, Blk.new w BlT _, fun k hk => ?_⟩
  have e := flat_at (f := brow) (n := 1) (fun _ => rfl) (L := List.replicate n false) (i := k) (j := 0) (a := false) (v := .bool false) (by rw [List.getElem?_replicate, if_pos hk]) rfl
  simpa using e
end
end Go.Proofs.Ytloeofhchfaieaa
