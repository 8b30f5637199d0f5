/- What Put of package lay does (layer 9), to any view: a field becomes a number. -/
import Derived.Test.YtihipcbhfjpgbaaJ11
import Derived.Test.YtihipcbhfjpgbaaRows
import Derived.WalkKit
import Derived.WalkSpells
import Derived.WalkLawsBesides
import Derived.Handy
import Derived.BigQuiet
import Derived.Deep.QuietTactic
import Derived.RegionTactic
import Derived.Lib.IfaceEq
import Derived.Lib.IfaceNeq
import Derived.Lib.Hide
import Derived.Deep.Light
import Derived.Test.YtihipcbhfjpgbaaQueV
import Derived.Test.YtihipcbhfjpgbaaJ1
namespace Go.Proofs.Ytihipcbhfjpgbaa
open Go.RowKit
section
variable {σ : Type} {M : Mach σ} {T : TypeId} {v : Value} {fR fW : FuncId} {Mem : World → σ → Prop} {Ok : σ → Prop} {S R : List Nat} {w : World} {s : σ}
theorem put_any (V : VOk M T v fR fW Mem Ok S R) (hm : Mem w s) (o f n : Int) (hn : n ≤ 9223372036854775807) :
    Calls Try.prog 22 #[.iface T v, .int .i64 o, .int .i64 f, .int .i64 n] w fun e w' => e = .returned (.tuple #[]) ∧ Mem w' ((putP o f n).run M s).2 ∧ Only S w w' := by
  have mW := V.mW
  have nW := V.nW
  have eW := V.eW
  unfold putP
  obtain ⟨a, ha⟩ : ∃ a, objI o f = a := ⟨_, rfl⟩
  cases hb : objB o f with
  | false =>
    rw [Vp.run_no (by simp), Vp.run_ret]
    have cO := Lib.hid (obj_is ha hb)
    clear hb ha
    go_enter Try.func22, Try.ntmps22
    go_wp2_with (go_at_call 26; (with_reducible refine (cO.out _).mono ?_); rintro e w' ⟨rfl, rfl⟩)
    go_end0
    exact ⟨rfl, hm, Only.refl _ _⟩
  | true =>
    have cO := Lib.hid (obj_is ha hb)
    by_cases h0 : 0 ≤ n
    · rw [Vp.run_yes ⟨rfl, h0⟩, Vp.run_wr, Vp.run_ret, ha]
      have cW := V.wr w s a n hm ⟨h0, by omega⟩
      clear hb ha hm
      go_enter Try.func22, Try.ntmps22
      go_wp2_with (first | (go_at_call 26; (with_reducible refine (cO.out _).mono ?_); rintro e w' ⟨rfl, rfl⟩) | ((with_reducible refine cW.mono ?_); clear cW; rintro e w1 ⟨rfl, hm1, ho1⟩))
      go_end0
      exact ⟨rfl, hm1, ho1⟩
    · rw [Vp.run_no (by simpa using h0), Vp.run_ret]
      have h0' : n < 0 := by omega
      clear hb ha h0
      go_enter Try.func22, Try.ntmps22
      go_wp2_with (go_at_call 26; (with_reducible refine (cO.out _).mono ?_); rintro e w' ⟨rfl, rfl⟩)
      go_end0
      exact ⟨rfl, hm, Only.refl _ _⟩
theorem put_is (V : VOk M T v fR fW Mem Ok S R) (hm : Mem w s) {o f n : Int} {s1 : σ} (hn : n ≤ 9223372036854775807) (h : (putP o f n).run M s = ((), s1)) :
    Calls Try.prog 22 #[.iface T v, .int .i64 o, .int .i64 f, .int .i64 n] w fun e w' => e = .returned (.tuple #[]) ∧ Mem w' s1 ∧ Only S w w' := by
  have q := put_any V hm o f n hn
  rwa [h] at q
end
end Go.Proofs.Ytihipcbhfjpgbaa
/- The number of an error, as the statements read it. -/
namespace Go.Proofs.Ytihipcbhfjpgbaa
open Go.RowKit
/-- the number of an error, as the statements read it -/
theorem code_nil (w : World) : Calls Try.prog 12 #[.nilIface] w fun e w' => e = .returned (.int .i64 0) ∧ w = w' := by
  go_enter Try.func12, Try.ntmps12
  go_wp2
  go_ret
  exact ⟨rfl, rfl⟩
theorem code_some (c : Int) (w : World) (h1 : 1 ≤ c) (h2 : c ≤ 14) : Calls Try.prog 12 #[.iface 53 (.int .i64 c)] w fun e w' => e = .returned (.int .i64 c) ∧ w = w' := by
  have hq := fun (a : Int) (W : World) => Lib.run_eql_iface_int (P := Try.prog) W (t := 32) (tx := 53) (k := .i64) c a Try.underlying32 (by kernel_rfl) Try.underlying53
  go_enter Try.func12, Try.ntmps12
  go_wp2
  go_loop [3] (fun i => ∃ k : Nat, 1 ≤ k ∧ (k : Int) ≤ c ∧ i = .int .i64 k) (fun i => (15 - intOf i).toNat)
  case atStart => exact ⟨1, by omega, by omega, rfl⟩
  case round =>
    obtain ⟨k, hk1, hk2, rfl⟩ := hrel
    by_cases hlt : (k : Int) = c
    · have hd : (c == (k : Int)) = true := by simp [hlt]
      have H := Lib.hid hlt
      clear hlt
      go_wp2
      go_ret
      exact ⟨by rw [← H.out]; rfl, rfl⟩
    · have hd : (c == (k : Int)) = false := by simp; omega
      have hlt' : (k : Int) < c := by omega
      clear hlt
      go_wp2
      go_round
      case rel => exact ⟨k + 1, by omega, by omega, by go_num⟩
      case measure => simp [intOf]; omega
end Go.Proofs.Ytihipcbhfjpgbaa
/- An error by its number. -/
namespace Go.Proofs.Ytihipcbhfjpgbaa
open Go.RowKit
/-- an error of that number; 0: none -/
def errV (n : Int) : Value := if n = 0 then .nilIface else .iface 53 (.int .i64 n)
end Go.Proofs.Ytihipcbhfjpgbaa
/- An error by its number, and the number that the statements read of it. -/
namespace Go.Proofs.Ytihipcbhfjpgbaa
open Go.RowKit
theorem code_any {n : Int} (h : n = 0 ∨ (1 ≤ n ∧ n ≤ 14)) (w : World) : Calls Try.prog 12 #[errV n] w fun e w' => e = .returned (.int .i64 n) ∧ w = w' := by
  rcases h with rfl | ⟨h1, h2⟩
  · exact code_nil w
  · unfold errV
    rw [if_neg (by omega)]
    exact code_some n w h1 h2
end Go.Proofs.Ytihipcbhfjpgbaa
/- What is, put, tell, setOn, side, State, On of package endp answer and do (layer 15), of any view. -/
namespace Go.Proofs.Ytihipcbhfjpgbaa
open Go.RowKit
section
variable {σ : Type} {M : Mach σ} {T : TypeId} {v : Value} {fR fW : FuncId} {Mem : World → σ → Prop} {Ok : σ → Prop} {S R : List Nat} {w : World} {s : σ}
theorem field_in (V : VOk M T v fR fW Mem Ok S R) (hm : Mem w s) {o f x : Int} {s1 : σ} (h : (fieldP o f).run M s = (x, s1)) : 0 ≤ x ∧ x ≤ 4611686018427387904 := by
  have := field_rng V (V.ok w s hm) o f
  rw [h] at this
  exact this
end
end Go.Proofs.Ytihipcbhfjpgbaa
/- Package space's functions as mathematics, of any view (layers 18 to 22). No dump is read here. -/
namespace Go.Proofs.Ytihipcbhfjpgbaa
open Go.RowKit
/-- frame, rights, whether -/
def spageP (s p : Int) : Vp (Int × Int × Bool) :=
  (isP s 7).bind fun b => if b = false ∨ p < 0 ∨ 3 < p then .ret (0, 0, false) else
  (fieldP s (1 + p)).bind fun n => .ret (if belowB (n / 8 - 1) 32 = true then (n / 8 - 1, n % 8, true) else (0, 0, false))
/-- the errors -/
def smapP (f s p r : Int) : Vp Int :=
  (isP f 6).bind fun a => if a = false then .ret 2 else (isP s 7).bind fun b => if b = false then .ret 2 else
  if p < 0 ∨ 3 < p ∨ r < 0 ∨ 7 < r then .ret 1 else
  (refP f 1).bind fun x => if x.2 = true then .ret 10 else (spageP s p).bind fun y => if y.2.2 = true then .ret 8 else
  (putP s (1 + p) ((f + 1) * 8 + r)).bind fun _ => (putP f 1 (s + 1)).bind fun _ => (putP f 2 p).bind fun _ => .ret 0
/-- a page becomes free, where it is that frame's -/
def sfreeP (f p : Int) (q : Int) (y : Int × Int × Bool) : Vp Unit := if y.2.2 = true ∧ y.1 = f then putP q (1 + p) 0 else .ret ()
def sunmP (f : Int) : Vp Int :=
  (isP f 6).bind fun a => if a = false then .ret 2 else (refP f 1).bind fun q => if q.2 = false then .ret 10 else
  (fieldP f 2).bind fun p => (spageP q.1 p).bind fun y => (sfreeP f p q.1 y).bind fun _ => (putP f 1 0).bind fun _ => (putP f 2 0).bind fun _ => .ret 0
end Go.Proofs.Ytihipcbhfjpgbaa
