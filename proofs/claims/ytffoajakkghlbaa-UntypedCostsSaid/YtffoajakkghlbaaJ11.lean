/- What Used of package lay answers (layer 9), of any view: how many slots, and objects, are used. -/
import Derived.Test.YtffoajakkghlbaaJ5
import Derived.Test.YtffoajakkghlbaaJ1
import Derived.Test.YtffoajakkghlbaaRows
import Derived.WalkKit
import Derived.WalkSpells
import Derived.WalkLawsBesides
import Derived.Handy
import Derived.BigQuiet
import Derived.Deep.QuietTactic
import Derived.RegionTactic
import Derived.Lib.IfaceEq
import Derived.Lib.IfaceNeq
import Derived.Lib.Hide
import Derived.Deep.Light
import Derived.Test.YtffoajakkghlbaaJ7
namespace Go.Proofs.Ytffoajakkghlbaa
open Go.RowKit
theorem atMost_any (x m : Int) (w : World) (hx : U64 x) (h0 : 0 ≤ m) (h1 : m ≤ 100) : Calls Try.prog 49 #[.int .u64 x, .int .i64 m] w fun e w' => e = .returned (.int .i64 (min x m)) ∧ w' = w := by
  obtain ⟨x0, x1⟩ := hx
  by_cases h : x ≤ m
  · have hm : min x m = x := by omega
    rw [hm]
    go_enter Try.func49, Try.ntmps49
    go_wp2
    go_ret
    exact ⟨rfl, rfl⟩
  · have hm : min x m = m := by omega
    rw [hm]
    go_enter Try.func49, Try.ntmps49
    go_wp2
    go_ret
    exact ⟨rfl, rfl⟩
theorem atMost_is {x m y : Int} (w : World) (hx : U64 x) (h0 : 0 ≤ m) (h1 : m ≤ 100) (h : min x m = y) : Calls Try.prog 49 #[.int .u64 x, .int .i64 m] w fun e w' => e = .returned (.int .i64 y) ∧ w' = w := h ▸ atMost_any x m w hx h0 h1
section
variable {σ : Type} {M : Mach σ} {T : TypeId} {v : Value} {fR fW : FuncId} {Mem : World → σ → Prop} {Ok : σ → Prop} {S R : List Nat} {w : World} {s : σ}
theorem used_any (V : VOk M T v fR fW Mem Ok S R) (hm : Mem w s) :
    Calls Try.prog 40 #[.iface T v] w fun e w' => e = .returned (.tuple #[.int .i64 (usedP.run M s).1.1, .int .i64 (usedP.run M s).1.2]) ∧ Mem w' (usedP.run M s).2 ∧ Only S w w' := by
  have mR := V.mR
  have nR := V.nR
  have eR := V.eR
  have r1 := V.rng s 736 (V.ok w s hm)
  have c1 := V.rd w s 736 hm
  obtain ⟨x, s1, hx⟩ : ∃ x s1, M.rd s 736 = (x, s1) := ⟨_, _, rfl⟩
  have c2 := Lib.hid fun W h => V.rd W s1 737 h
  have r2 := Lib.hid fun W h => V.rng s1 737 (V.ok W s1 h)
  obtain ⟨y, s2, hy⟩ : ∃ y s2, M.rd s1 737 = (y, s2) := ⟨_, _, rfl⟩
  have HP : Hid (usedP.run M s = ((min x 96, min y 32), s2)) := Lib.hid (by unfold usedP; rw [Vp.run_rd, Vp.run_rd, Vp.run_ret, hx, hy])
  rw [hx] at r1 c1
  rw [hy] at c2 r2
  rw [HP.out]
  obtain ⟨mx, hmx⟩ : ∃ mx, Hid (min x 96 = mx) := ⟨_, Lib.hid rfl⟩
  obtain ⟨my, hmy⟩ : ∃ my, Hid (min y 32 = my) := ⟨_, Lib.hid rfl⟩
  rw [hmx.out, hmy.out]
  have R1 := Lib.hid r1
  clear hx hy r1 hm HP
  go_enter Try.func40, Try.ntmps40
  go_wp2_with fail
  (with_reducible refine c1.mono ?_)
  clear c1
  rintro e w1 ⟨rfl, hm1, ho1⟩
  go_wp2_with fail
  (with_reducible refine (atMost_is _ R1.out (by decide) (by decide) hmx.out).mono ?_)
  rintro e w' ⟨rfl, rfl⟩
  go_wp2_with fail
  have R2 := Lib.hid (r2.out _ hm1)
  (with_reducible refine (c2.out _ hm1).mono ?_)
  rintro e w2 ⟨rfl, hm2, ho2⟩
  go_wp2_with fail
  (with_reducible refine (atMost_is _ R2.out (by decide) (by decide) hmy.out).mono ?_)
  rintro e w' ⟨rfl, rfl⟩
  go_wp2_with fail
  go_ret2
  exact ⟨rfl, hm2, ho1.trans ho2⟩
theorem used_is (V : VOk M T v fR fW Mem Ok S R) (hm : Mem w s) {x y : Int} {s1 : σ} (h : usedP.run M s = ((x, y), s1)) :
    Calls Try.prog 40 #[.iface T v] w fun e w' => e = .returned (.tuple #[.int .i64 x, .int .i64 y]) ∧ Mem w' s1 ∧ Only S w w' := by
  have q := used_any V hm
  rwa [h] at q
theorem used_rng (V : VOk M T v fR fW Mem Ok S R) (hs : Ok s) : (0 ≤ (usedP.run M s).1.1 ∧ (usedP.run M s).1.1 ≤ 96) ∧ 0 ≤ (usedP.run M s).1.2 ∧ (usedP.run M s).1.2 ≤ 32 := by
  unfold usedP
  rw [Vp.run_rd, Vp.run_rd, Vp.run_ret]
  have r1 := (V.rng s 736 hs).1
  have r2 := (V.rng _ 737 (V.okR s 736 hs)).1
  exact ⟨⟨by simp; omega, by simp; omega⟩, by simp; omega, by simp; omega⟩
end
end Go.Proofs.Ytffoajakkghlbaa
/- The number of an error, as the statements read it. -/
namespace Go.Proofs.Ytffoajakkghlbaa
open Go.RowKit
/-- the number of an error, as the statements read it -/
theorem code_nil (w : World) : Calls Try.prog 14 #[.nilIface] w fun e w' => e = .returned (.int .i64 0) ∧ w = w' := by
  go_enter Try.func14, Try.ntmps14
  go_wp2
  go_ret
  exact ⟨rfl, rfl⟩
theorem code_some (c : Int) (w : World) (h1 : 1 ≤ c) (h2 : c ≤ 14) : Calls Try.prog 14 #[.iface 67 (.int .i64 c)] w fun e w' => e = .returned (.int .i64 c) ∧ w = w' := by
  have hq := fun (a : Int) (W : World) => Lib.run_eql_iface_int (P := Try.prog) W (t := 47) (tx := 67) (k := .i64) c a Try.underlying47 (by kernel_rfl) Try.underlying67
  go_enter Try.func14, Try.ntmps14
  go_wp2
  go_loop [3] (fun i => ∃ k : Nat, 1 ≤ k ∧ (k : Int) ≤ c ∧ i = .int .i64 k) (fun i => (15 - intOf i).toNat)
  case atStart => exact ⟨1, by omega, by omega, rfl⟩
  case round =>
    obtain ⟨k, hk1, hk2, rfl⟩ := hrel
    by_cases hlt : (k : Int) = c
    · have hd : (c == (k : Int)) = true := by simp [hlt]
      have H := Lib.hid hlt
      clear hlt
      go_wp2
      go_ret
      exact ⟨by rw [← H.out]; rfl, rfl⟩
    · have hd : (c == (k : Int)) = false := by simp; omega
      have hlt' : (k : Int) < c := by omega
      clear hlt
      go_wp2
      go_round
      case rel => exact ⟨k + 1, by omega, by omega, by go_num⟩
      case measure => simp [intOf]; omega
end Go.Proofs.Ytffoajakkghlbaa
/- An error by its number, and the number that the statements read of it. -/
namespace Go.Proofs.Ytffoajakkghlbaa
open Go.RowKit
theorem code_any {n : Int} (h : n = 0 ∨ (1 ≤ n ∧ n ≤ 14)) (w : World) : Calls Try.prog 14 #[errV n] w fun e w' => e = .returned (.int .i64 n) ∧ w = w' := by
  rcases h with rfl | ⟨h1, h2⟩
  · exact code_nil w
  · unfold errV
    rw [if_neg (by omega)]
    exact code_some n w h1 h2
end Go.Proofs.Ytffoajakkghlbaa
