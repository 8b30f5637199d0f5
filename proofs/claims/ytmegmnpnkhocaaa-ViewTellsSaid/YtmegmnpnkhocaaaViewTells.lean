/- ViewTells' walk: for all lists, numbers, words, ranges, stops. -/
import Derived.Test.YtmegmnpnkhocaaaViewUp
import Derived.Test.YtmegmnpnkhocaaaViewW
import Derived.Sort.CutIn
import Derived.Sort.QuietIn
namespace Go.Proofs.Ytmegmnpnkhocaaa
open Go.RowKit Go.Shelf
attribute [local go_sem] Oper.semAt_some
/-- three variables' boxes, one behind the other -/
theorem three_boxes (w : World) (t1 t2 t3 : TypeId) (x1 x2 x3 : Value) : Boxed (((w.alloc (.cells #[x1] t1)).alloc (.cells #[x2] t2)).alloc (.cells #[x3] t3)) w.heap.size t1 x1 ∧ Boxed (((w.alloc (.cells #[x1] t1)).alloc (.cells #[x2] t2)).alloc (.cells #[x3] t3)) (w.heap.size + 1) t2 x2 ∧
    Boxed (((w.alloc (.cells #[x1] t1)).alloc (.cells #[x2] t2)).alloc (.cells #[x3] t3)) (w.heap.size + 1 + 1) t3 x3 ∧ Only [] w (((w.alloc (.cells #[x1] t1)).alloc (.cells #[x2] t2)).alloc (.cells #[x3] t3)) ∧
    (((w.alloc (.cells #[x1] t1)).alloc (.cells #[x2] t2)).alloc (.cells #[x3] t3)).heap.size = w.heap.size + 1 + 1 + 1 := by
  have b1 := Boxed.new w t1 x1
  have b2 := Boxed.new (w.alloc (.cells #[x1] t1)) t2 x2
  have b3 := Boxed.new ((w.alloc (.cells #[x1] t1)).alloc (.cells #[x2] t2)) t3 x3
  rw [World.size_alloc] at b2
  rw [World.size_alloc, World.size_alloc] at b3
  exact ⟨(b1.alloc _).alloc _, b2.alloc _, b3, (((Only.refl [] w).alloc _).alloc _).alloc _, by simp⟩
theorem boxed_only {S : List Nat} {w w' : World} {B : Nat} {t : TypeId} {x : Value} (h : Boxed w B t x) (ho : Only S w w') (hB : B ∉ S) : Boxed w' B t x := ho.blk (show Blk w B t #[x] from h) hB
section
variable {A : Option Addr} {L : List Int}
set_option maxRecDepth 100000 in
set_option maxHeartbeats 4000000 in
/-- let go: too long, or too far -/
theorem tells_out (cp : Nat) (w : World) (i v lo hi stop : Int) (h : 200 < L.length ∨ lo < -1000 ∨ 1000 < hi) :
    CallsIn Fence.wide 9 Try.prog 3 #[.slice A L.length cp, .int .i64 i, .int .u64 v, .int .i64 lo, .int .i64 hi, .int .i64 stop] w fun e w' => e = .returned (.bool true) ∧ Only [] w w' := by
  have hfu : Fence.wide.fn 6 := trivial
  obtain ⟨b0, b1, b2, ho0, hz⟩ := three_boxes w 3 3 4 (.int .i64 hi) (.int .i64 stop) (.bool false)
  have H := Lib.hid h
  clear h
  refine callsIn_of_wp_marks Try.func3 rfl trivial ?_ rfl
  simp only [Try.ntmps3, List.size_toArray, List.length_cons, List.length_nil, Nat.reduceAdd, Nat.reduceSub, Array.replicate_succ, Array.replicate_zero, List.push_toArray, List.append_toArray, List.nil_append, List.cons_append]
  by_cases h1 : 200 < L.length
  · gi_wp2_with (gi_at_call 6; refine (callsIn_wide.2 (up_any _)).mono ?_; rintro e w1 ⟨rfl, ho1⟩; replace b0 := boxed_only b0 ho1 (by simp); replace b2 := boxed_only b2 ho1 (by simp); have c0 := b0.cell; have c2 := b2.cell; have f2 := b2.frozen)
    have hr := (b2.set (.bool true)).cell
    refine ⟨.bool true, by simp [results, Try.results3, go_sem, hr], rfl, ?_⟩
    exact (ho0.trans ho1).setCell (.inr (by simp; omega)) _
  · have h1' : L.length ≤ 200 := by omega
    clear h1
    by_cases h2 : lo < -1000
    · gi_wp2_with (gi_at_call 6; refine (callsIn_wide.2 (up_any _)).mono ?_; rintro e w1 ⟨rfl, ho1⟩; replace b0 := boxed_only b0 ho1 (by simp); replace b2 := boxed_only b2 ho1 (by simp); have c0 := b0.cell; have c2 := b2.cell; have f2 := b2.frozen)
      have hr := (b2.set (.bool true)).cell
      refine ⟨.bool true, by simp [results, Try.results3, go_sem, hr], rfl, ?_⟩
      exact (ho0.trans ho1).setCell (.inr (by simp; omega)) _
    · have h2' : -1000 ≤ lo := by omega
      have h3 : 1000 < hi := by have := H.out; omega
      clear h2
      gi_wp2_with (gi_at_call 6; refine (callsIn_wide.2 (up_any _)).mono ?_; rintro e w1 ⟨rfl, ho1⟩; replace b0 := boxed_only b0 ho1 (by simp); replace b2 := boxed_only b2 ho1 (by simp); have c0 := b0.cell; have c2 := b2.cell; have f2 := b2.frozen)
      have hr := (b2.set (.bool true)).cell
      refine ⟨.bool true, by simp [results, Try.results3, go_sem, hr], rfl, ?_⟩
      exact (ho0.trans ho1).setCell (.inr (by simp; omega)) _
end
end Go.Proofs.Ytmegmnpnkhocaaa
