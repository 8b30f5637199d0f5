/- What Ref of package lay answers (layer 9), of any view: the object that a field tells. -/
import Derived.Test.YtgbcgcmcfklnjaaJ11
import Derived.Test.YtgbcgcmcfklnjaaQueV
namespace Go.Proofs.Ytgbcgcmcfklnjaa
open Go.RowKit
section
variable {σ : Type} {M : Mach σ} {T : TypeId} {v : Value} {fR fW : FuncId} {Mem : World → σ → Prop} {Ok : σ → Prop} {S R : List Nat} {w : World} {s : σ}
theorem ref_any (V : VOk M T v fR fW Mem Ok S R) (hm : Mem w s) (o f : Int) :
    Calls Try.prog 23 #[.iface T v, .int .i64 o, .int .i64 f] w fun e w' => e = .returned (.tuple #[.int .i64 ((refP o f).run M s).1.1, .bool ((refP o f).run M s).1.2]) ∧ Mem w' ((refP o f).run M s).2 ∧ Only S w w' := by
  have hr := field_rng V (V.ok w s hm) o f
  obtain ⟨x, s1, hrd⟩ : ∃ x s1, (fieldP o f).run M s = (x, s1) := ⟨_, _, rfl⟩
  unfold refP
  rw [Vp.run_bind_is hrd, Vp.run_ret]
  have cF := field_is V hm hrd
  rw [hrd] at hr
  obtain ⟨h0, h1⟩ : 0 ≤ x ∧ x ≤ 4611686018427387904 := hr
  clear hrd hm
  cases hb : belowB (x - 1) 32 with
  | false =>
    have cB := Lib.hid (below_is hb)
    clear hb
    go_enter Try.func23, Try.ntmps23
    go_wp2_with (first | (go_at_call 32; (with_reducible refine (cB.out _).mono ?_); rintro e w' ⟨rfl, rfl⟩) | (go_at_call 16; (with_reducible refine cF.mono ?_); clear cF; rintro e w1 ⟨rfl, hm1, ho1⟩))
    go_ret2
    exact ⟨rfl, hm1, ho1⟩
  | true =>
    have cB := Lib.hid (below_is hb)
    clear hb
    go_enter Try.func23, Try.ntmps23
    go_wp2_with (first | (go_at_call 32; (with_reducible refine (cB.out _).mono ?_); rintro e w' ⟨rfl, rfl⟩) | (go_at_call 16; (with_reducible refine cF.mono ?_); clear cF; rintro e w1 ⟨rfl, hm1, ho1⟩))
    go_ret2
    exact ⟨rfl, hm1, ho1⟩
theorem ref_is (V : VOk M T v fR fW Mem Ok S R) (hm : Mem w s) {o f x : Int} {q : Bool} {s1 : σ} (h : (refP o f).run M s = ((x, q), s1)) :
    Calls Try.prog 23 #[.iface T v, .int .i64 o, .int .i64 f] w fun e w' => e = .returned (.tuple #[.int .i64 x, .bool q]) ∧ Mem w' s1 ∧ Only S w w' := by
  have q := ref_any V hm o f
  rwa [h] at q
end
end Go.Proofs.Ytgbcgcmcfklnjaa
/- What Put of package lay does (layer 9), to any view: a field becomes a number. -/
namespace Go.Proofs.Ytgbcgcmcfklnjaa
open Go.RowKit
section
variable {σ : Type} {M : Mach σ} {T : TypeId} {v : Value} {fR fW : FuncId} {Mem : World → σ → Prop} {Ok : σ → Prop} {S R : List Nat} {w : World} {s : σ}
theorem put_any (V : VOk M T v fR fW Mem Ok S R) (hm : Mem w s) (o f n : Int) (hn : n ≤ 9223372036854775807) :
    Calls Try.prog 25 #[.iface T v, .int .i64 o, .int .i64 f, .int .i64 n] w fun e w' => e = .returned (.tuple #[]) ∧ Mem w' ((putP o f n).run M s).2 ∧ Only S w w' := by
  have mW := V.mW
  have nW := V.nW
  have eW := V.eW
  unfold putP
  obtain ⟨a, ha⟩ : ∃ a, objI o f = a := ⟨_, rfl⟩
  cases hb : objB o f with
  | false =>
    rw [Vp.run_no (by simp), Vp.run_ret]
    have cO := Lib.hid (obj_is ha hb)
    clear hb ha
    go_enter Try.func25, Try.ntmps25
    go_wp2_with (go_at_call 26; (with_reducible refine (cO.out _).mono ?_); rintro e w' ⟨rfl, rfl⟩)
    go_end0
    exact ⟨rfl, hm, Only.refl _ _⟩
  | true =>
    have cO := Lib.hid (obj_is ha hb)
    by_cases h0 : 0 ≤ n
    · rw [Vp.run_yes ⟨rfl, h0⟩, Vp.run_wr, Vp.run_ret, ha]
      have cW := V.wr w s a n hm ⟨h0, by omega⟩
      clear hb ha hm
      go_enter Try.func25, Try.ntmps25
      go_wp2_with (first | (go_at_call 26; (with_reducible refine (cO.out _).mono ?_); rintro e w' ⟨rfl, rfl⟩) | ((with_reducible refine cW.mono ?_); clear cW; rintro e w1 ⟨rfl, hm1, ho1⟩))
      go_end0
      exact ⟨rfl, hm1, ho1⟩
    · rw [Vp.run_no (by simpa using h0), Vp.run_ret]
      have h0' : n < 0 := by omega
      clear hb ha h0
      go_enter Try.func25, Try.ntmps25
      go_wp2_with (go_at_call 26; (with_reducible refine (cO.out _).mono ?_); rintro e w' ⟨rfl, rfl⟩)
      go_end0
      exact ⟨rfl, hm, Only.refl _ _⟩
theorem put_is (V : VOk M T v fR fW Mem Ok S R) (hm : Mem w s) {o f n : Int} {s1 : σ} (hn : n ≤ 9223372036854775807) (h : (putP o f n).run M s = ((), s1)) :
    Calls Try.prog 25 #[.iface T v, .int .i64 o, .int .i64 f, .int .i64 n] w fun e w' => e = .returned (.tuple #[]) ∧ Mem w' s1 ∧ Only S w w' := by
  have q := put_any V hm o f n hn
  rwa [h] at q
end
end Go.Proofs.Ytgbcgcmcfklnjaa
/- Package endp's functions as mathematics, of any view (layers 15 and up). No dump is read here. -/
namespace Go.Proofs.Ytgbcgcmcfklnjaa
open Go.RowKit
def etellP (t w b : Int) : Vp Unit := (putP t 3 (max w 0)).bind fun _ => putP t 4 (max b 0)
def eonP (t o : Int) : Vp Unit := (fieldP t 5).bind fun n => putP t 5 (o * 256 + n % 256)
def ewakeP (t w b : Int) : Vp Unit := (fieldP t 1).bind fun st => (if st = 4 then putP t 2 0 else .ret ()).bind fun _ => (putP t 1 1).bind fun _ => (eonP t 0).bind fun _ => etellP t w b
def eblockP (o t n : Int) : Vp Unit := if objB o 0 = true ∧ objB t 0 = true then (putP t 1 (max n 0)).bind fun _ => (eonP t (o + 1)).bind fun _ => (qpushP o t).bind fun _ => .ret () else .ret ()
def eoweP (t c : Int) : Vp Unit := (putP c 1 4).bind fun _ => (putP c 2 (t + 1)).bind fun _ => putP t 6 (c + 1)
def esettleP (o : Int) : Vp Unit := (qwayF 32 o).bind fun l => if l = [] then putP o 1 0 else .ret ()
def epopP (o sd : Int) : Vp (Int × Bool) := (fieldP o 1).bind fun x => if x = sd then (qpopP o).bind fun r => if r.2 = true then (esettleP o).bind fun _ => .ret (r.1, true) else .ret (r.1, false) else .ret (0, false)
def esideI (n : Int) : Int := if n = 2 then 1 else if n = 6 then 1 else if n = 3 then 2 else 0
def ewaitP (o t n : Int) : Vp Unit := (eblockP o t n).bind fun _ => putP o 1 (esideI n)
/-- what is told, the error -/
def esendP (o t b w : Int) (call : Bool) : Vp (Bool × Int) :=
  if objB o 0 = true ∧ objB t 0 = true then
    (epopP o 2).bind fun r => if r.2 = true then (ewakeP r.1 w b).bind fun _ => (if call = true then eoweP r.1 t else .ret ()).bind fun _ => .ret (call, 0)
      else (etellP t w b).bind fun _ => (ewaitP o t (if call = true then 6 else 2)).bind fun _ => .ret (true, 0)
  else .ret (false, 2)
/-- what becomes of a sender that was popped -/
def etookP (t x n : Int) : Vp Unit := if n = 2 then ewakeP x 0 0 else if n = 6 then (eonP x 0).bind fun _ => eoweP t x else .ret ()
/-- word, badge, whether, the error -/
def erecvP (o t : Int) : Vp (Int × Int × Bool × Int) :=
  if objB o 0 = true ∧ objB t 0 = true then
    (refP t 6).bind fun q => if q.2 = true then .ret (0, 0, false, 10) else
      (epopP o 1).bind fun r => if r.2 = true then (fieldP r.1 3).bind fun w => (fieldP r.1 4).bind fun b => (fieldP r.1 1).bind fun n => (etookP t r.1 n).bind fun _ => .ret (w, b, true, 0)
        else (ewaitP o t 3).bind fun _ => .ret (0, 0, false, 0)
  else .ret (0, 0, false, 2)
def eansP (t w : Int) : Vp Int := if objB t 0 = true then (refP t 6).bind fun q => if q.2 = true then (ewakeP q.1 w 0).bind fun _ => (putP t 6 0).bind fun _ => .ret 0 else .ret 10 else .ret 2
def eonQ (t : Int) : Vp (Int × Bool) := (fieldP t 5).bind fun n => .ret (if objB (n / 256 - 1) 0 = true then (n / 256 - 1, true) else (0, false))
end Go.Proofs.Ytgbcgcmcfklnjaa
