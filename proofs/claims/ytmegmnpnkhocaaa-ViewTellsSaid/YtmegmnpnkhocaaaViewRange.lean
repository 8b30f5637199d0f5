/- What Range of package view hands back (layer 5): an iterator that tells each number, and what the view reads there, to whatever loop body. -/
import Derived.RangeFuncNested
import Derived.RangeFuncBound
import Derived.RangeFuncCalls
import Derived.RangeFuncLeaves
import Derived.Shelf.Abstract
import Derived.Shelf.RegionOpen
import Derived.OwnWalkIn
import Derived.TacticsInMore
import Derived.LoopNIn
import Derived.LoopIn
import Derived.Test.YtmegmnpnkhocaaaViewA
namespace Go.Proofs.Ytmegmnpnkhocaaa
open Go.RowKit Go.Shelf
attribute [local go_sem] Oper.semAt_some
/-- of the blocks in S each lies as it lay -/
def KeepS (S : List Nat) (W W' : World) : Prop := W.heap.size ≤ W'.heap.size ∧ ∀ k, k ∈ S → W'.heap[k]? = W.heap[k]?
section
variable {S : List Nat} {X Y Z W : World}
theorem KeepS.refl (S : List Nat) (W : World) : KeepS S W W := ⟨Nat.le_refl _, fun _ _ => rfl⟩
theorem KeepS.trans (h : KeepS S X Y) (k : KeepS S Y Z) : KeepS S X Z := ⟨Nat.le_trans h.1 k.1, fun i hi => (k.2 i hi).trans (h.2 i hi)⟩
theorem KeepS.putObj {w : World} (hS : ∀ k, k ∈ S → k < w.heap.size) (W : World) (l : Nat) (o o' : Obj) (hl : w.heap.size ≤ l) (_ : W.heap[l]? = some o) (_ : o.isCells = false) (_ : o.isWalk = false) : KeepS S W (W.putObj l o') :=
  ⟨(grownBy_putObj' W l o').size, fun k hk => World.putObj_heap_other (by have := hS k hk; omega)⟩
theorem KeepS.setCell (h : KeepS S X W) {p : Addr} (hp : p.block ∉ S) (u : Value) : KeepS S X (W.setCell p u) :=
  ⟨by simpa [World.setCell] using h.1, fun k hk => (Below.heap_setCell W p u k (fun e => hp (e ▸ hk))).trans (h.2 k hk)⟩
theorem KeepS.grown {row : Option Nat} (h : KeepS S X Y) (hg : Y.grownBy Z row) (hr : ∀ k, row = some k → k ∉ S) (hS : ∀ k, k ∈ S → k < Y.heap.size) : KeepS S X Z :=
  ⟨Nat.le_trans h.1 hg.size, fun k hk => (hg.block k (hS k hk) (fun e => hr k e.symm hk)).trans (h.2 k hk)⟩
theorem KeepS.below {n : Nat} (h : Below n X Y) (hS : ∀ k, k ∈ S → k < n) : KeepS S X Y := ⟨h.size, fun k hk => h.block k (hS k hk)⟩
theorem KeepS.only {T : List Nat} (h : Only T X Y) (hS : ∀ k, k ∈ S → k < X.heap.size ∧ k ∉ T) : KeepS S X Y := ⟨h.size, fun k hk => h.block k (hS k hk).1 (hS k hk).2⟩
theorem KeepS.less {T : List Nat} (h : KeepS S X Y) (hT : ∀ k, k ∈ T → k ∈ S) : KeepS T X Y := ⟨h.1, fun k hk => h.2 k (hT k hk)⟩
theorem KeepS.cell (h : KeepS S X Y) {p : Addr} {v : Value} (hc : X.cell? p = some v) (hp : p.block ∈ S) : Y.cell? p = some v := (World.cell?_of_block (w := X) (h.2 p.block hp)).trans hc
end
/-- the blocks that a range reads: the view's own, and those of its three words -/
def rangeS (A : Option Addr) (L : List Int) (Bv Bf Bt : Nat) : List Nat := Bv :: Bf :: Bt :: blkS A L
theorem rangeS_mem {A : Option Addr} {L : List Int} {Bv Bf Bt k : Nat} : k ∈ rangeS A L Bv Bf Bt ↔ k = Bv ∨ k = Bf ∨ k = Bt ∨ k ∈ blkS A L := by
  simp [rangeS]
theorem meth_read (n : Nat) (v : Value) (w : World) : Sem.run Try.prog (method (n + 1) 25 v "Read") w = .ok (7, v) w := by kernel_rfl
set_option maxRecDepth 100000 in
set_option maxHeartbeats 2000000 in
theorem range1_in (n l Bv Bf Bt : Nat) (A : Option Addr) (cap : Nat) (L : List Int) (lo hi : Int) (hn : 1 ≤ n) (hw1 : -9223372036854775808 ≤ lo ∧ lo ≤ 9223372036854775807) (hw2 : -9223372036854775808 ≤ hi ∧ hi ≤ 9223372036854775807) (J Jx : List (Int × Int) → World → Prop)
    (hY : ∀ pre x W, J pre W → pre.length < (hi - lo).toNat → YieldAt Fence.wide (n - 1) Try.prog l #[.int .i64 x.1, .int .u64 x.2] W fun e W' =>
      (e = .returned (.bool true) ∧ J (pre ++ [x]) W' ∧ KeepS (rangeS A L Bv Bf Bt) W W') ∨ (e = .returned (.bool false) ∧ Jx (pre ++ [x]) W'))
    (W : World) (hBv : W.cell? ⟨Bv, 0, none⟩ = some (.iface 25 (.slice A L.length cap))) (hBf : W.cell? ⟨Bf, 0, none⟩ = some (.int .i64 lo)) (hBt : W.cell? ⟨Bt, 0, none⟩ = some (.int .i64 hi)) (hL : Wds W A L) (h0 : J [] W) :
    CallsIn Fence.wide n Try.prog 14 #[.func (.yield l) #[] #[], .pointer (some ⟨Bf, 0, none⟩), .pointer (some ⟨Bt, 0, none⟩), .pointer (some ⟨Bv, 0, none⟩)] W fun e W' => (∃ v, e = .returned v) ∧
      ((∃ ys, ys = rngF L lo (hi - lo).toNat ∧ J ys W') ∨ (∃ pre, (∃ k, k < (hi - lo).toNat ∧ pre = rngF L lo (k + 1)) ∧ Jx pre W')) := by
  have hf7 : Fence.wide.fn 7 := trivial
  have mR := fun (n : Nat) (W : World) => meth_read n (.slice A L.length cap) W
  refine callsIn_of_wp Try.func14 rfl trivial ?_ rfl
  simp only [Try.ntmps14, List.size_toArray, List.length_cons, List.length_nil, Nat.reduceAdd, Nat.reduceSub, Array.replicate_succ, Array.replicate_zero, List.push_toArray, List.append_toArray, List.nil_append, List.cons_append]
  gi_wp2
  gi_loopw [5] (fun i wr => ∃ k : Nat, k ≤ (hi - lo).toNat ∧ i = .int .i64 (lo + k) ∧ J (rngF L lo k) wr ∧ KeepS (rangeS A L Bv Bf Bt) W wr)
    (fun i _ => (hi - intOf i).toNat)
  case atStart => exact ⟨0, Nat.zero_le _, by simp, h0, KeepS.refl _ _⟩
  case round =>
    obtain ⟨k, hk, rfl, hJs, hnx⟩ := hrel
    have hcv := hnx.cell hBv (rangeS_mem.2 (.inl rfl))
    have hct := hnx.cell hBt (rangeS_mem.2 (.inr (.inr (.inl rfl))))
    have hLx : Wds wr A L := hL.same hnx.1 fun a ha => hnx.2 _ (rangeS_mem.2 (.inr (.inr (.inr ha))))
    by_cases hlt : lo + (k : Int) < hi
    · obtain ⟨fn, tmps, assign, body, hy, hR⟩ := hY _ (lo + k, atL L (lo + k)) wr hJs (by rw [rngF_length]; omega)
      dsimp only at hy
      gi_wp2_with (gi_at_call 7; refine (callsIn_wide.2 (read_any cap _ hLx _)).mono ?_; rintro e w' ⟨rfl, rfl⟩)
      refine hR.mono ?_
      rintro e W3 (⟨rfl, hJ3, hk3⟩ | ⟨rfl, hJx3⟩)
      · gi_wp2
        go_roundw
        case rel => exact ⟨k + 1, by omega, by simp; omega, by rw [rngF_succ]; exact hJ3, hnx.trans hk3⟩
        case measure => simp [intOf]; omega
      · gi_wp2
        refine bodyPost_ret (results_none rfl _ _ _) rfl ?_
        exact ⟨⟨_, rfl⟩, .inr ⟨_, ⟨k, by omega, (rngF_succ _ _ _).symm⟩, hJx3⟩⟩
    · have hk' : k = (hi - lo).toNat := by omega
      gi_wp2
      go_end0
      exact ⟨⟨_, rfl⟩, .inl (hk' ▸ hJs)⟩
/-- the iterator's contract, for the laws of a range over a function -/
theorem range_stops (n : Nat) (hn : 1 ≤ n) (Bv Bf Bt : Nat) (A : Option Addr) (cap : Nat) (L : List Int) (lo hi : Int) (hw1 : -9223372036854775808 ≤ lo ∧ lo ≤ 9223372036854775807) (hw2 : -9223372036854775808 ≤ hi ∧ hi ≤ 9223372036854775807) (w : World)
    (hBv : w.cell? ⟨Bv, 0, none⟩ = some (.iface 25 (.slice A L.length cap))) (hBf : w.cell? ⟨Bf, 0, none⟩ = some (.int .i64 lo)) (hBt : w.cell? ⟨Bt, 0, none⟩ = some (.int .i64 hi)) (hL : Wds w A L) :
    SeqStopsK Fence.wide n Try.prog 14 #[.pointer (some ⟨Bf, 0, none⟩), .pointer (some ⟨Bt, 0, none⟩), .pointer (some ⟨Bv, 0, none⟩)] (fun x : Int × Int => #[Value.int .i64 x.1, Value.int .u64 x.2]) (KeepS (rangeS A L Bv Bf Bt))
      (fun ys => ys = rngF L lo (hi - lo).toNat) (fun pre => ∃ k, k < (hi - lo).toNat ∧ pre = rngF L lo (k + 1)) (hi - lo).toNat w := fun l J Jx W hW _ _ hY h0 =>
  range1_in n l Bv Bf Bt A cap L lo hi hn hw1 hw2 J Jx hY W ((hW.cell (p := ⟨Bv, 0, none⟩) (World.block_lt_of_cell? w _ hBv)).trans hBv) ((hW.cell (p := ⟨Bf, 0, none⟩) (World.block_lt_of_cell? w _ hBf)).trans hBf)
    ((hW.cell (p := ⟨Bt, 0, none⟩) (World.block_lt_of_cell? w _ hBt)).trans hBt) (hL.below hW hL.lt) h0
set_option maxHeartbeats 1000000 in
theorem range_any (v : Value) (lo hi : Int) (w : World) : Calls Try.prog 10 #[.iface 25 v, .int .i64 lo, .int .i64 hi] w fun e w' =>
    e = .returned (.func (.func 14) #[] #[.pointer (some ⟨w.heap.size + 1, 0, none⟩), .pointer (some ⟨w.heap.size + 2, 0, none⟩), .pointer (some ⟨w.heap.size, 0, none⟩)]) ∧
    w' = ((w.alloc (.cells #[.iface 25 v] 48)).alloc (.cells #[.int .i64 lo] 3)).alloc (.cells #[.int .i64 hi] 3) := by
  go_enter Try.func10, Try.ntmps10
  go_wp2
  go_ret
  exact ⟨rfl, rfl⟩
end Go.Proofs.Ytmegmnpnkhocaaa
