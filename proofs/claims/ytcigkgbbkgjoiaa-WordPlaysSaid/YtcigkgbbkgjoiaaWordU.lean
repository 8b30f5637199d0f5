/- The examples at the statements' head come out true (layer 1). -/
import Derived.Test.YtcigkgbbkgjoiaaWordV
namespace Go.Proofs.Ytcigkgbbkgjoiaa
open Go.RowKit

def zero (n : Nat) (lim : Int) : St := ⟨lim, List.replicate n ⟨0, 0, 0⟩⟩
theorem new_ok (n lim : Int) (w : World) (h0 : 1 ≤ n) (h1 : n ≤ 1024) (h2 : 1 ≤ lim) (h3 : lim ≤ 4294967295) :
    Calls Try.prog 6 #[.int .i64 n, .int .u32 lim] w fun e w' => ∃ p g : Nat, e = .returned (.tuple #[.pointer (some ⟨p, 0, none⟩), .nilIface]) ∧ w.heap.size ≤ p ∧ w.heap.size ≤ g ∧ StoreAt w' WT p g (zero n.toNat lim) ∧ Only [] w w' :=
  (new_good n lim w h0 h1 h2 h3).mono fun _ _ ⟨he, hs, ho⟩ => ⟨_, _, he, by omega, by omega, hs, ho⟩
theorem new_no (n lim : Int) (w : World) (h : n < 1 ∨ 1024 < n ∨ lim = 0) :
    Calls Try.prog 6 #[.int .i64 n, .int .u32 lim] w fun e w' => e = .returned (.tuple #[.pointer none, .iface 30 (.int .i64 1)]) ∧ w = w' := new_bad n lim w h

theorem reserve_ok (p g : Nat) (s s' : St) (i ver mark : Int) (w : World) (h : StoreAt w WT p g s) (e : rsvI s i ver mark = (0, s')) :
    Calls Try.prog 9 #[.pointer (some ⟨p, 0, none⟩), .int .i64 i, .int .u32 ver, .int .i64 mark] w fun e w' => e = .returned .nilIface ∧ StoreAt w' WT p g s' ∧ Only [g] w w' :=
  (reserve_any p g s i ver mark w h).mono fun _ _ ⟨he, hs, ho⟩ => ⟨by rw [he, e]; rfl, by rw [e] at hs; exact hs, ho⟩
theorem put_ok (p g : Nat) (s s' : St) (i mark v : Int) (w : World) (h : StoreAt w WT p g s) (e : putI s i mark v = (0, s')) :
    Calls Try.prog 13 #[.pointer (some ⟨p, 0, none⟩), .int .i64 i, .int .i64 mark, .int .u64 v] w fun e w' => e = .returned .nilIface ∧ StoreAt w' WT p g s' ∧ Only [g] w w' :=
  (put_any p g s i mark v w h).mono fun _ _ ⟨he, hs, ho⟩ => ⟨by rw [he, e]; rfl, by rw [e] at hs; exact hs, ho⟩
theorem read_ok (p g : Nat) (s : St) (i : Int) (c : C) (w : World) (h : StoreAt w WT p g s) (e : readI s i = (0, c)) :
    Calls Try.prog 8 #[.pointer (some ⟨p, 0, none⟩), .int .i64 i] w fun e w' => e = .returned (.tuple #[.agg #[.int .u64 c.v, .int .u32 c.ver, .int .i64 c.mark], .nilIface]) ∧ Only [] w w' :=
  (read_any p g s i w h).mono fun _ _ ⟨he, ho⟩ => ⟨by rw [he, e]; rfl, ho⟩

abbrev C.arr (c : C) : Array Value := #[.int .u64 c.v, .int .u32 c.ver, .int .i64 c.mark]
theorem read_no (p g : Nat) (s : St) (i : Int) (w : World) (h : StoreAt w WT p g s) (hr : i < 0 ∨ (s.L.length : Int) ≤ i) :
    Calls Try.prog 8 #[.pointer (some ⟨p, 0, none⟩), .int .i64 i] w fun e w' => e = .returned (.tuple #[.agg #[.int .u64 0, .int .u32 0, .int .i64 0], .iface 30 (.int .i64 2)]) ∧ Only [] w w' :=
  (read_any p g s i w h).mono fun _ _ ⟨he, ho⟩ => ⟨by rw [he]; simp only [readI, St.get_none hr]; rfl, ho⟩

set_option maxHeartbeats 1000000 in
theorem up_any (w : World) : Calls Try.prog 5 #[] w fun e w' => e = .returned (.bool true) ∧ Only [] w w' := by
  have hq := fun (c a : Int) (W : World) => Lib.run_eql_iface_int (P := Try.prog) W (t := 27) (tx := 30) (k := .i64) c a Try.underlying27 (by kernel_rfl) Try.underlying30
  go_enter Try.func5, Try.ntmps5
  go_wp2_with fail
  (with_reducible refine (new_ok _ _ _ (by omega) (by omega) (by omega) (by omega)).mono ?_); rintro e w1 ⟨p, g, rfl, hp1, hg1, hs1, ho1⟩
  go_wp2_with fail
  (with_reducible refine (new_no _ _ _ (by omega)).mono ?_); rintro e w2 ⟨rfl, rfl⟩
  go_wp2_with fail
  refine (reserve_ok p g _ ⟨9, [⟨0, 0, 5⟩, ⟨0, 0, 0⟩, ⟨0, 0, 0⟩, ⟨0, 0, 0⟩]⟩ _ _ _ _ hs1 rfl).mono ?_; rintro e w2 ⟨rfl, hs2, ho2⟩
  go_wp2_with fail
  refine (put_ok p g _ ⟨9, [⟨9, 1, 0⟩, ⟨0, 0, 0⟩, ⟨0, 0, 0⟩, ⟨0, 0, 0⟩]⟩ _ _ _ _ hs2 rfl).mono ?_; rintro e w3 ⟨rfl, hs3, ho3⟩
  go_wp2_with fail
  refine (read_ok p g _ _ ⟨9, 1, 0⟩ _ hs3 rfl).mono ?_; rintro e w4 ⟨rfl, ho4⟩
  have hs4 := (hs3.only ho4 (by simp) (by simp)).only ((Only.refl [] w4).alloc (.cells #[.int .u64 9, .int .u32 1, .int .i64 0] 39)) (by simp) (by simp)
  go_wp2_with fail
  (with_reducible refine (len_any p g _ _ hs4).mono ?_); rintro e w5 ⟨rfl, rfl⟩
  go_wp2_with fail
  (with_reducible refine (limit_any p g _ _ hs4).mono ?_); rintro e w5 ⟨rfl, rfl⟩
  go_wp2_with fail
  go_ret
  refine ⟨rfl, ((((ho1.then ho2 (by simp; omega)).then ho3 (by simp; omega)).trans ho4).alloc _)⟩
end Go.Proofs.Ytcigkgbbkgjoiaa
