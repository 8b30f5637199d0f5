/- The example at the statements' head comes out true (layer 4). -/
import Derived.Test.YteendpbehlamjaaGuardWalk
import Derived.Test.YteendpbehlamjaaGuardJoin
namespace Go.Proofs.Yteendpbehlamjaa
open Go.RowKit
theorem walk_nil {a l g n r x y : Int} (h : walkP a l g n r = (x, y, 0)) (w : World) : Calls Try.prog 7 #[.int .i64 a, .int .i64 l, .int .i64 g, .int .i64 n, .int .i64 r] w fun e w' => e = .returned (.tuple #[.int .i64 x, .int .i64 y, .nilIface]) ∧ Only [] w w' := walk_is h w
theorem walk_err {a l g n r x y z : Int} (h : walkP a l g n r = (x, y, z)) (hz : z ≠ 0) (w : World) : Calls Try.prog 7 #[.int .i64 a, .int .i64 l, .int .i64 g, .int .i64 n, .int .i64 r] w fun e w' => e = .returned (.tuple #[.int .i64 x, .int .i64 y, .iface 39 (.int .i64 z)]) ∧ Only [] w w' := by
  have q := walk_is h w
  rwa [errV_some hz] at q
theorem join_nil {A B : Option Addr} {P Q : List Int} {x : Int} (cp cq : Nat) (w : World) (hP : Ints w A P) (hQ : Ints w B Q) (hl : P.length ≤ 50) (hl' : Q.length ≤ 50) (h : joinI P Q = (x, 0)) : Calls Try.prog 12 #[.slice A P.length cp, .slice B Q.length cq] w fun e w' => e = .returned (.tuple #[.int .i64 x, .nilIface]) ∧ w' = w := join_is cp cq w hP hQ hl hl' h
theorem join_err {A B : Option Addr} {P Q : List Int} {x z : Int} (cp cq : Nat) (w : World) (hP : Ints w A P) (hQ : Ints w B Q) (hl : P.length ≤ 50) (hl' : Q.length ≤ 50) (h : joinI P Q = (x, z)) (hz : z ≠ 0) : Calls Try.prog 12 #[.slice A P.length cp, .slice B Q.length cq] w fun e w' => e = .returned (.tuple #[.int .i64 x, .iface 39 (.int .i64 z)]) ∧ w' = w := by
  have q := join_is cp cq w hP hQ hl hl' h
  rwa [errV_some hz] at q
/-- two rows that were just made -/
theorem two_rows {P Q : List Int} (w : World) (t : TypeId) (hP : ∀ x ∈ P, (Lit.int .i64 x).wf = true) (hQ : ∀ x ∈ Q, (Lit.int .i64 x).wf = true) :
    Ints ((w.alloc (.cells (P.map (Value.int .i64)).toArray t)).alloc (.cells (Q.map (Value.int .i64)).toArray t)) (some ⟨w.heap.size, 0, none⟩) P ∧
    Ints ((w.alloc (.cells (P.map (Value.int .i64)).toArray t)).alloc (.cells (Q.map (Value.int .i64)).toArray t)) (some ⟨w.heap.size + 1, 0, none⟩) Q := by
  have h1 := (Blk.new w t (P.map (Value.int .i64)).toArray).alloc (.cells (Q.map (Value.int .i64)).toArray t)
  have h2 := Blk.new (w.alloc (.cells (P.map (Value.int .i64)).toArray t)) t (Q.map (Value.int .i64)).toArray
  rw [show (w.alloc (.cells (P.map (Value.int .i64)).toArray t)).heap.size = w.heap.size + 1 by simp] at h2
  exact ⟨Ints.of_blk h1 hP, Ints.of_blk h2 hQ⟩
theorem up_any (w : World) : Calls Try.prog 6 #[] w fun e w' => e = .returned (.bool true) ∧ Only [] w w' := by
  have hq := fun (c a : Int) (W : World) => Lib.run_eql_iface_int (P := Try.prog) W (t := 24) (tx := 39) (k := .i64) c a Try.underlying24 (by kernel_rfl) Try.underlying39
  have E1 := Lib.hid (show walkP 43690 16 2 2 3 = (5, 11, 0) by decide +kernel)
  have E2 := Lib.hid (show walkP 43690 16 1 2 3 = (0, 0, 3) by decide +kernel)
  have E3 := Lib.hid (show joinI [1, 2] [2, 3] = (20480, 0) by decide +kernel)
  go_enter Try.func6, Try.ntmps6
  go_wp2_with fail
  refine (walk_nil E1.out _).mono ?_; rintro e w1 ⟨rfl, ho1⟩
  go_wp2_with fail
  refine (walk_err E2.out (by decide) _).mono ?_; rintro e w2 ⟨rfl, ho2⟩
  go_wp2_with fail
  obtain ⟨h1, h2⟩ := two_rows (P := [1, 2]) (Q := [2, 3]) w2 3 (by decide) (by decide)
  refine (join_nil (P := [1, 2]) (Q := [2, 3]) 2 2 _ h1 h2 (by decide) (by decide) E3.out).mono ?_; rintro e w3 ⟨rfl, rfl⟩
  clear h1 h2
  go_wp2_with fail
  go_ret
  exact ⟨rfl, ((ho1.trans ho2).alloc _).alloc _⟩
end Go.Proofs.Yteendpbehlamjaa
