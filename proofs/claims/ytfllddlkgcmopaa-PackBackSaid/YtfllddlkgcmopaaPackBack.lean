/- PackBack's walk: for every capability and every word below 2 to the power of 64. -/
import Derived.Test.YtfllddlkgcmopaaPackUp
import Derived.Test.YtfllddlkgcmopaaCaps
namespace Go.Proofs.Ytfllddlkgcmopaa
open Go.RowKit
theorem get_back (c : Cp) (w : World) (h : c.may) : Calls Try.prog 10 #[.int .u64 c.word] w fun e w' => e = .returned (.tuple #[c.v, .nilIface]) ∧ Only [] w w' := by
  have q := Cp.word_lt h.small
  have e := Cp.of_word h.small
  have g := get_yes w c.word q.1 q.2 (by rw [e]; exact h)
  rw [e] at g
  exact g
theorem put_back (x : Int) (w : World) (h0 : 0 ≤ x) (hx : x < 18446744073709551616) (h : (Cp.of x).may) : Calls Try.prog 7 #[(Cp.of x).v] w fun e w' => e = .returned (.tuple #[.int .u64 x, .nilIface]) ∧ Only [] w w' := by
  have g := put_yes (Cp.of x) w h
  rw [Cp.word_of h0 hx] at g
  exact g
/-- the law's second half: what is got is put as that word -/
def BackPost (w : World) (e : Ending) (w' : World) : Prop := e = .returned (.bool true) ∧ Only [] w w'
section
variable (c : Cp) (x : Int) (w : World)
theorem back_may (hm : c.may) (h0 : 0 ≤ x) (hx : x < 18446744073709551616) :
    Calls Try.prog 4 #[c.v, .int .u64 x] w (BackPost w) := by
  have H := Lib.hid hm
  clear hm
  have hb0 := Blk.new w 23 c.arr
  go_enter Try.func4, Try.ntmps4
  go_wp2_with fail
  (with_reducible refine (up_any _).mono ?_); rintro e w1 ⟨rfl, ho1⟩
  replace hb0 := ho1.blk hb0 (by simp)
  obtain ⟨k0, k1, k2, k3, k4, k5⟩ := hb0.six
  go_wp2_with fail
  refine (put_yes c _ H.out).mono ?_; rintro e w2 ⟨rfl, ho2⟩
  replace hb0 := ho2.blk hb0 (by simp)
  clear k0 k1 k2 k3 k4 k5
  go_wp2_with fail
  refine (get_back c _ H.out).mono ?_; rintro e w3 ⟨rfl, ho3⟩
  replace hb0 := ho3.blk hb0 (by simp)
  have hlt := hb0.lt
  obtain ⟨k0, k1, k2, k3, k4, k5⟩ := hb0.six
  go_wp2_with fail
  refine (may_yes c _ H.out).mono ?_; rintro e w4 ⟨rfl, ho4⟩
  have hA := (((Only.refl [] w).alloc (.cells c.arr 23) |>.trans ho1 |>.trans ho2 |>.trans ho3).alloc _).trans ho4
  clear hb0 hlt k0 k1 k2 k3 k4 k5 ho1 ho2 ho3 ho4
  go_wp2_with fail
  by_cases hw : (Cp.of x).may
  · refine (get_yes _ x h0 hx hw).mono ?_; rintro e w5 ⟨rfl, ho5⟩
    go_wp2_with fail
    refine (put_back x _ h0 hx hw).mono ?_; rintro e w6 ⟨rfl, ho6⟩
    have hW := Lib.hid hw
    clear hw
    go_wp2_with fail
    go_ret
    exact ⟨rfl, ((hA.trans ho5).alloc _).trans ho6⟩
  · refine (get_no _ x h0 hx hw).mono ?_; rintro e w5 ⟨rfl, ho5⟩
    have hW := Lib.hid hw
    clear hw
    go_wp2_with fail
    go_ret
    exact ⟨rfl, (hA.trans ho5).alloc _⟩
theorem back_not (hm : ¬ c.may) (h0 : 0 ≤ x) (hx : x < 18446744073709551616) :
    Calls Try.prog 4 #[c.v, .int .u64 x] w (BackPost w) := by
  have H := Lib.hid hm
  clear hm
  have hb0 := Blk.new w 23 c.arr
  go_enter Try.func4, Try.ntmps4
  go_wp2_with fail
  (with_reducible refine (up_any _).mono ?_); rintro e w1 ⟨rfl, ho1⟩
  replace hb0 := ho1.blk hb0 (by simp)
  obtain ⟨k0, k1, k2, k3, k4, k5⟩ := hb0.six
  go_wp2_with fail
  refine (put_no c _ H.out).mono ?_; rintro e w2 ⟨rfl, ho2⟩
  have hA := ((Only.refl [] w).alloc (.cells c.arr 23) |>.trans ho1 |>.trans ho2)
  clear hb0 k0 k1 k2 k3 k4 k5 ho1 ho2
  go_wp2_with fail
  by_cases hw : (Cp.of x).may
  · refine (get_yes _ x h0 hx hw).mono ?_; rintro e w5 ⟨rfl, ho5⟩
    go_wp2_with fail
    refine (put_back x _ h0 hx hw).mono ?_; rintro e w6 ⟨rfl, ho6⟩
    have hW := Lib.hid hw
    clear hw
    go_wp2_with fail
    go_ret
    exact ⟨rfl, ((hA.trans ho5).alloc _).trans ho6⟩
  · refine (get_no _ x h0 hx hw).mono ?_; rintro e w5 ⟨rfl, ho5⟩
    have hW := Lib.hid hw
    clear hw
    go_wp2_with fail
    go_ret
    exact ⟨rfl, (hA.trans ho5).alloc _⟩
theorem back_any (h0 : 0 ≤ x) (hx : x < 18446744073709551616) : Calls Try.prog 4 #[c.v, .int .u64 x] w fun e w' => e = .returned (.bool true) ∧ Only [] w w' := by
  by_cases hm : c.may
  · exact back_may c x w hm h0 hx
  · exact back_not c x w hm h0 hx
end
end Go.Proofs.Ytfllddlkgcmopaa
