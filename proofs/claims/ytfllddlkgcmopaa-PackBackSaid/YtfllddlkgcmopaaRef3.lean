/- What the document's own answer for layer 2 answers: Of; what errors tell. -/
import Derived.Test.YtfllddlkgcmopaaRef2
namespace Go.Proofs.Ytfllddlkgcmopaa
open Go.RowKit

/-- a word's parts, as the document's answer takes them -/
def Cp.rf (x : Int) : Cp := ⟨x % 16, x / 16 % 8, x / 128 % 32, x / 4096 % 65536, x / 4294967296 % 256, x / 268435456 % 16⟩
theorem rf_of {x : Int} (h0 : 0 ≤ x) (hx : x < 18446744073709551616) (h : (Cp.of x).may) : Cp.rf x = Cp.of x := by
  have hs := h.small
  have q1 : x / 4294967296 % 4294967296 ≤ 255 := hs.g1
  have e : x / 4294967296 % 256 = x / 4294967296 % 4294967296 := by
    generalize x / 4294967296 = y at *
    omega
  unfold Cp.of Cp.rf
  rw [e]
theorem rf_iff {x : Int} (h0 : 0 ≤ x) (hx : x < 18446744073709551616) : (Cp.of x).may ↔ (Cp.rf x).may ∧ (Cp.rf x).word = x := by
  constructor
  · intro h
    rw [rf_of h0 hx h]
    exact ⟨h, Cp.word_of h0 hx⟩
  · rintro ⟨h, e⟩
    have q := Cp.of_word h.small
    rw [e] at q
    rw [q]
    exact h
section
variable (c : Cp) (w : World)
theorem refMay_yes (h : c.may) : Calls Try.prog 6 #[c.v] w fun e w' => e = .returned (.bool true) ∧ Only [] w w' :=
  (refMay_any c w).mono fun _ _ ⟨he, ho⟩ => ⟨by rw [he, show c.mayB = true from decide_eq_true h], ho⟩
theorem refMay_no (h : ¬ c.may) : Calls Try.prog 6 #[c.v] w fun e w' => e = .returned (.bool false) ∧ Only [] w w' :=
  (refMay_any c w).mono fun _ _ ⟨he, ho⟩ => ⟨by rw [he, show c.mayB = false from decide_eq_false h], ho⟩
end
theorem refWord_eq (c : Cp) (y : Int) (w : World) (h : c.Small) (e : c.word = y) : Calls Try.prog 9 #[c.v] w fun e w' => e = .returned (.int .u64 y) ∧ Only [] w w' := by
  subst e
  exact refWord_any c w h
theorem refOf_a (x : Int) (w : World) (h0 : 0 ≤ x) (hx : x < 18446744073709551616) (h : (Cp.rf x).may) (e : (Cp.rf x).word = x) : Calls Try.prog 11 #[.int .u64 x] w fun e w' => e = .returned (.tuple #[(Cp.rf x).v, .bool true]) ∧ Only [] w w' := by
  have H := Lib.hid (show (Cp.mk (x % 16) (x / 16 % 8) (x / 128 % 32) (x / 4096 % 65536) (x / 4294967296 % 256) (x / 268435456 % 16)).may from h)
  have E := Lib.hid (show (Cp.mk (x % 16) (x / 16 % 8) (x / 128 % 32) (x / 4096 % 65536) (x / 4294967296 % 256) (x / 268435456 % 16)).word = x from e)
  clear h e
  go_enter Try.func11, Try.ntmps11
  go_wp2_with fail
  (with_reducible refine (refMay_yes ⟨_, _, _, _, _, _⟩ _ H.out).mono ?_)
  rintro e w' ⟨rfl, ho1⟩
  have hb1 : Blk w' w.heap.size 23 #[.int .i64 0, .int .i64 0, .int .i64 0, .int .i64 0, .int .i64 0, .int .i64 0] := ho1.blk ((Blk.new w _ _).alloc _) (by simp)
  have hb2 := ho1.blk (Blk.new _ _ _) (by simp)
  rw [show (w.alloc _).heap.size = w.heap.size + 1 by simp] at hb2
  obtain ⟨k0, k1, k2, k3, k4, k5⟩ := hb1.cap
  obtain ⟨l0, l1, l2, l3, l4, l5⟩ := hb2.cap
  go_wp2_with fail
  (with_reducible refine (refWord_eq ⟨_, _, _, _, _, _⟩ _ _ H.out.small E.out).mono ?_)
  rintro e w'' ⟨rfl, ho2⟩
  replace hb1 := ho2.blk hb1 (by simp)
  replace hb2 := ho2.blk hb2 (by simp)
  clear k0 k1 k2 k3 k4 k5 l0 l1 l2 l3 l4 l5
  obtain ⟨k0, k1, k2, k3, k4, k5⟩ := hb1.cap
  obtain ⟨l0, l1, l2, l3, l4, l5⟩ := hb2.cap
  have f0 : w''.frozen? ⟨w.heap.size, 0, none⟩ = false := hb1.frozen 0
  have f1 : w''.frozen? ⟨w.heap.size, 1, none⟩ = false := hb1.frozen 1
  have f2 : w''.frozen? ⟨w.heap.size, 2, none⟩ = false := hb1.frozen 2
  have f3 : w''.frozen? ⟨w.heap.size, 3, none⟩ = false := hb1.frozen 3
  have f4 : w''.frozen? ⟨w.heap.size, 4, none⟩ = false := hb1.frozen 4
  have f5 : w''.frozen? ⟨w.heap.size, 5, none⟩ = false := hb1.frozen 5
  go_wp2_with fail
  refine bodyPost_ret (v := .tuple #[.agg #[.int .i64 (x % 16), .int .i64 (x / 16 % 8), .int .i64 (x / 128 % 32), .int .i64 (x / 4096 % 65536), .int .i64 (x / 4294967296 % 256), .int .i64 (x / 268435456 % 16)], .bool true]) (by simp [results, Try.results11, go_sem, k0, k1, k2, k3, k4, k5]) rfl ⟨rfl, ?_⟩
  have ho := (((Only.refl [] w).alloc _).alloc _ |>.trans ho1).trans ho2
  exact (((((ho.setCell (.inr (Nat.le_refl _)) _).setCell (.inr (Nat.le_refl _)) _).setCell (.inr (Nat.le_refl _)) _).setCell (.inr (Nat.le_refl _)) _).setCell (.inr (Nat.le_refl _)) _).setCell (.inr (Nat.le_refl _)) _
abbrev zeroV : Value := .agg #[.int .i64 0, .int .i64 0, .int .i64 0, .int .i64 0, .int .i64 0, .int .i64 0]
theorem refOf_b (x : Int) (w : World) (h0 : 0 ≤ x) (hx : x < 18446744073709551616) (h : (Cp.rf x).may) (e : ¬ (Cp.rf x).word = x) : Calls Try.prog 11 #[.int .u64 x] w fun e w' => e = .returned (.tuple #[zeroV, .bool false]) ∧ Only [] w w' := by
  have H := Lib.hid (show (Cp.mk (x % 16) (x / 16 % 8) (x / 128 % 32) (x / 4096 % 65536) (x / 4294967296 % 256) (x / 268435456 % 16)).may from h)
  obtain ⟨y, E⟩ : ∃ y, Hid ((Cp.mk (x % 16) (x / 16 % 8) (x / 128 % 32) (x / 4096 % 65536) (x / 4294967296 % 256) (x / 268435456 % 16)).word = y) := ⟨_, Lib.hid rfl⟩
  have hne : (y != x) = true := by
    rw [bne_iff_ne]
    intro q
    exact e (E.out.trans q)
  clear h e
  go_enter Try.func11, Try.ntmps11
  go_wp2_with fail
  (with_reducible refine (refMay_yes ⟨_, _, _, _, _, _⟩ _ H.out).mono ?_)
  rintro e w' ⟨rfl, ho1⟩
  have hb1 : Blk w' w.heap.size 23 #[.int .i64 0, .int .i64 0, .int .i64 0, .int .i64 0, .int .i64 0, .int .i64 0] := ho1.blk ((Blk.new w _ _).alloc _) (by simp)
  have hb2 := ho1.blk (Blk.new _ _ _) (by simp)
  rw [show (w.alloc _).heap.size = w.heap.size + 1 by simp] at hb2
  obtain ⟨k0, k1, k2, k3, k4, k5⟩ := hb1.cap
  obtain ⟨l0, l1, l2, l3, l4, l5⟩ := hb2.cap
  go_wp2_with fail
  (with_reducible refine (refWord_eq ⟨_, _, _, _, _, _⟩ _ _ H.out.small E.out).mono ?_)
  rintro e w'' ⟨rfl, ho2⟩
  replace hb1 := ho2.blk hb1 (by simp)
  replace hb2 := ho2.blk hb2 (by simp)
  clear k0 k1 k2 k3 k4 k5 l0 l1 l2 l3 l4 l5
  obtain ⟨k0, k1, k2, k3, k4, k5⟩ := hb1.cap
  obtain ⟨l0, l1, l2, l3, l4, l5⟩ := hb2.cap
  have f0 : w''.frozen? ⟨w.heap.size, 0, none⟩ = false := hb1.frozen 0
  have f1 : w''.frozen? ⟨w.heap.size, 1, none⟩ = false := hb1.frozen 1
  have f2 : w''.frozen? ⟨w.heap.size, 2, none⟩ = false := hb1.frozen 2
  have f3 : w''.frozen? ⟨w.heap.size, 3, none⟩ = false := hb1.frozen 3
  have f4 : w''.frozen? ⟨w.heap.size, 4, none⟩ = false := hb1.frozen 4
  have f5 : w''.frozen? ⟨w.heap.size, 5, none⟩ = false := hb1.frozen 5
  go_wp2_with fail
  refine bodyPost_ret (v := .tuple #[zeroV, .bool false]) (by simp [results, Try.results11, go_sem, k0, k1, k2, k3, k4, k5]) rfl ⟨rfl, ?_⟩
  have ho := (((Only.refl [] w).alloc _).alloc _ |>.trans ho1).trans ho2
  exact (((((ho.setCell (.inr (Nat.le_refl _)) _).setCell (.inr (Nat.le_refl _)) _).setCell (.inr (Nat.le_refl _)) _).setCell (.inr (Nat.le_refl _)) _).setCell (.inr (Nat.le_refl _)) _).setCell (.inr (Nat.le_refl _)) _
theorem refOf_c (x : Int) (w : World) (h0 : 0 ≤ x) (hx : x < 18446744073709551616) (h : ¬ (Cp.rf x).may) : Calls Try.prog 11 #[.int .u64 x] w fun e w' => e = .returned (.tuple #[zeroV, .bool false]) ∧ Only [] w w' := by
  have H := Lib.hid (show ¬ (Cp.mk (x % 16) (x / 16 % 8) (x / 128 % 32) (x / 4096 % 65536) (x / 4294967296 % 256) (x / 268435456 % 16)).may from h)
  clear h
  go_enter Try.func11, Try.ntmps11
  go_wp2_with fail
  (with_reducible refine (refMay_no ⟨_, _, _, _, _, _⟩ _ H.out).mono ?_)
  rintro e w' ⟨rfl, ho1⟩
  have hb1 : Blk w' w.heap.size 23 #[.int .i64 0, .int .i64 0, .int .i64 0, .int .i64 0, .int .i64 0, .int .i64 0] := ho1.blk ((Blk.new w _ _).alloc _) (by simp)
  obtain ⟨k0, k1, k2, k3, k4, k5⟩ := hb1.cap
  have f0 : w'.frozen? ⟨w.heap.size, 0, none⟩ = false := hb1.frozen 0
  have f1 : w'.frozen? ⟨w.heap.size, 1, none⟩ = false := hb1.frozen 1
  have f2 : w'.frozen? ⟨w.heap.size, 2, none⟩ = false := hb1.frozen 2
  have f3 : w'.frozen? ⟨w.heap.size, 3, none⟩ = false := hb1.frozen 3
  have f4 : w'.frozen? ⟨w.heap.size, 4, none⟩ = false := hb1.frozen 4
  have f5 : w'.frozen? ⟨w.heap.size, 5, none⟩ = false := hb1.frozen 5
  go_wp2_with fail
  refine bodyPost_ret (v := .tuple #[zeroV, .bool false]) (by simp [results, Try.results11, go_sem, k0, k1, k2, k3, k4, k5]) rfl ⟨rfl, ?_⟩
  have ho := (((Only.refl [] w).alloc _).alloc _ |>.trans ho1)
  exact (((((ho.setCell (.inr (Nat.le_refl _)) _).setCell (.inr (Nat.le_refl _)) _).setCell (.inr (Nat.le_refl _)) _).setCell (.inr (Nat.le_refl _)) _).setCell (.inr (Nat.le_refl _)) _).setCell (.inr (Nat.le_refl _)) _
theorem refOf_yes (x : Int) (w : World) (h0 : 0 ≤ x) (hx : x < 18446744073709551616) (h : (Cp.of x).may) : Calls Try.prog 11 #[.int .u64 x] w fun e w' => e = .returned (.tuple #[(Cp.of x).v, .bool true]) ∧ Only [] w w' := by
  obtain ⟨q1, q2⟩ := (rf_iff h0 hx).1 h
  rw [← rf_of h0 hx h]
  exact refOf_a x w h0 hx q1 q2
theorem refOf_no (x : Int) (w : World) (h0 : 0 ≤ x) (hx : x < 18446744073709551616) (h : ¬ (Cp.of x).may) : Calls Try.prog 11 #[.int .u64 x] w fun e w' => e = .returned (.tuple #[zeroV, .bool false]) ∧ Only [] w w' := by
  by_cases q : (Cp.rf x).may
  · exact refOf_b x w h0 hx q (fun e => h ((rf_iff h0 hx).2 ⟨q, e⟩))
  · exact refOf_c x w h0 hx q

/-- the number of an error, as the statements read it -/
theorem code_nil (w : World) : Calls Try.prog 12 #[.nilIface] w fun e w' => e = .returned (.int .i64 0) ∧ w = w' := by
  go_enter Try.func12, Try.ntmps12
  go_wp2
  go_ret
  exact ⟨rfl, rfl⟩
theorem code_some (c : Int) (w : World) (h1 : 1 ≤ c) (h2 : c ≤ 14) : Calls Try.prog 12 #[.iface 31 (.int .i64 c)] w fun e w' => e = .returned (.int .i64 c) ∧ w = w' := by
  have hq := fun (a : Int) (W : World) => Lib.run_eql_iface_int (P := Try.prog) W (t := 28) (tx := 31) (k := .i64) c a Try.underlying28 (by kernel_rfl) Try.underlying31
  go_enter Try.func12, Try.ntmps12
  go_wp2
  go_loop [3] (fun i => ∃ k : Nat, 1 ≤ k ∧ (k : Int) ≤ c ∧ i = .int .i64 k) (fun i => (15 - intOf i).toNat)
  case atStart => exact ⟨1, by omega, by omega, rfl⟩
  case round =>
    obtain ⟨k, hk1, hk2, rfl⟩ := hrel
    by_cases hlt : (k : Int) = c
    · have hd : (c == (k : Int)) = true := by simp [hlt]
      have H := Lib.hid hlt
      clear hlt
      go_wp2
      go_ret
      exact ⟨by rw [← H.out]; rfl, rfl⟩
    · have hd : (c == (k : Int)) = false := by simp; omega
      have hlt' : (k : Int) < c := by omega
      clear hlt
      go_wp2
      go_round
      case rel => exact ⟨k + 1, by omega, by omega, by go_num⟩
      case measure => simp [intOf]; omega
end Go.Proofs.Ytfllddlkgcmopaa
