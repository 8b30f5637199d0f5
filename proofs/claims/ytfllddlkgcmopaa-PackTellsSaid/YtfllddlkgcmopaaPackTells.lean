/- PackTells' walk: for every capability and every word below 2 to the power of 64. -/
import Derived.Test.YtfllddlkgcmopaaPackUp
import Derived.Test.YtfllddlkgcmopaaCaps
import Derived.Lib.IfaceNeq
namespace Go.Proofs.Ytfllddlkgcmopaa
open Go.RowKit
section
variable (c : Cp) (x : Int) (w : World)
/-- x and want read alike -/
theorem tells_may (hm : c.may) (h0 : 0 ≤ x) (hx : x < 18446744073709551616) :
    Calls Try.prog 3 #[c.v, .int .u64 x] w fun e w' => e = .returned (.bool true) ∧ Only [] w w' := by
  have hq := fun (c a : Int) (W : World) => Lib.run_neq_iface_int (P := Try.prog) W (t := 28) (tx := 31) (k := .i64) c a Try.underlying28 (by kernel_rfl) Try.underlying31
  have H := Lib.hid hm
  clear hm
  have hb0 := Blk.new w 23 c.arr
  have hd := Lib.hid (fun W : World => refWord_any c W H.out.small)
  go_enter Try.func3, Try.ntmps3
  go_wp2_with fail
  (with_reducible refine (up_any _).mono ?_); rintro e w1 ⟨rfl, ho1⟩
  replace hb0 := ho1.blk hb0 (by simp)
  obtain ⟨k0, k1, k2, k3, k4, k5⟩ := hb0.six
  go_wp2_with fail
  refine (refMay_yes c _ H.out).mono ?_; rintro e w2 ⟨rfl, ho2⟩
  replace hb0 := ho2.blk hb0 (by simp)
  clear k0 k1 k2 k3 k4 k5
  obtain ⟨k0, k1, k2, k3, k4, k5⟩ := hb0.six
  go_wp2_with fail
  refine (put_yes c _ H.out).mono ?_; rintro e w3 ⟨rfl, ho3⟩
  replace hb0 := ho3.blk hb0 (by simp)
  clear k0 k1 k2 k3 k4 k5
  obtain ⟨k0, k1, k2, k3, k4, k5⟩ := hb0.six
  go_wp2_with fail
  refine (may_yes c _ H.out).mono ?_; rintro e w4 ⟨rfl, ho4⟩
  replace hb0 := ho4.blk hb0 (by simp)
  clear k0 k1 k2 k3 k4 k5
  obtain ⟨k0, k1, k2, k3, k4, k5⟩ := hb0.six
  go_wp2_with fail
  refine (hd.out _).mono ?_; rintro e w5 ⟨rfl, ho5⟩
  have hA := (Only.refl [] w).alloc (.cells c.arr 23) |>.trans ho1 |>.trans ho2 |>.trans ho3 |>.trans ho4 |>.trans ho5
  clear hb0 k0 k1 k2 k3 k4 k5 ho1 ho2 ho3 ho4 ho5
  go_wp2_with fail
  by_cases hw : (Cp.of x).may
  · refine (get_yes _ x h0 hx hw).mono ?_; rintro e w6 ⟨rfl, ho6⟩
    go_wp2_with fail
    refine (refOf_yes x _ h0 hx hw).mono ?_; rintro e w7 ⟨rfl, ho7⟩
    have hb1 := ho7.blk (Blk.new w6 23 (Cp.of x).arr) (by simp)
    have hlt := hb1.lt
    obtain ⟨k0, k1, k2, k3, k4, k5⟩ := hb1.six
    have hW := Lib.hid hw
    clear hw
    go_wp2_with fail
    go_ret
    exact ⟨rfl, ((((hA.trans ho6).alloc _).trans ho7).alloc _)⟩
  · refine (get_no _ x h0 hx hw).mono ?_; rintro e w6 ⟨rfl, ho6⟩
    go_wp2_with fail
    refine (refOf_no x _ h0 hx hw).mono ?_; rintro e w7 ⟨rfl, ho7⟩
    have hb1 := ho7.blk (Blk.new w6 23 #[.int .i64 0, .int .i64 0, .int .i64 0, .int .i64 0, .int .i64 0, .int .i64 0]) (by simp)
    have hlt := hb1.lt
    obtain ⟨k0, k1, k2, k3, k4, k5⟩ := hb1.cap
    have hW := Lib.hid hw
    clear hw
    go_wp2_with fail
    refine (code_some 1 _ (by decide) (by decide)).mono ?_; rintro e w8 ⟨rfl, rfl⟩
    go_wp2_with fail
    go_ret
    exact ⟨rfl, ((((hA.trans ho6).alloc _).trans ho7).alloc _)⟩
/-- x and want read alike -/
theorem tells_not (hm : ¬ c.may) (h0 : 0 ≤ x) (hx : x < 18446744073709551616) :
    Calls Try.prog 3 #[c.v, .int .u64 x] w fun e w' => e = .returned (.bool true) ∧ Only [] w w' := by
  have hq := fun (c a : Int) (W : World) => Lib.run_neq_iface_int (P := Try.prog) W (t := 28) (tx := 31) (k := .i64) c a Try.underlying28 (by kernel_rfl) Try.underlying31
  have H := Lib.hid hm
  clear hm
  have hb0 := Blk.new w 23 c.arr
  go_enter Try.func3, Try.ntmps3
  go_wp2_with fail
  (with_reducible refine (up_any _).mono ?_); rintro e w1 ⟨rfl, ho1⟩
  replace hb0 := ho1.blk hb0 (by simp)
  obtain ⟨k0, k1, k2, k3, k4, k5⟩ := hb0.six
  go_wp2_with fail
  refine (refMay_no c _ H.out).mono ?_; rintro e w2 ⟨rfl, ho2⟩
  replace hb0 := ho2.blk hb0 (by simp)
  clear k0 k1 k2 k3 k4 k5
  obtain ⟨k0, k1, k2, k3, k4, k5⟩ := hb0.six
  go_wp2_with fail
  refine (put_no c _ H.out).mono ?_; rintro e w3 ⟨rfl, ho3⟩
  replace hb0 := ho3.blk hb0 (by simp)
  clear k0 k1 k2 k3 k4 k5
  obtain ⟨k0, k1, k2, k3, k4, k5⟩ := hb0.six
  go_wp2_with fail
  refine (may_no c _ H.out).mono ?_; rintro e w4 ⟨rfl, ho4⟩
  replace hb0 := ho4.blk hb0 (by simp)
  clear k0 k1 k2 k3 k4 k5
  obtain ⟨k0, k1, k2, k3, k4, k5⟩ := hb0.six
  have hA := (Only.refl [] w).alloc (.cells c.arr 23) |>.trans ho1 |>.trans ho2 |>.trans ho3 |>.trans ho4
  clear hb0 k0 k1 k2 k3 k4 k5 ho1 ho2 ho3 ho4
  go_wp2_with fail
  by_cases hw : (Cp.of x).may
  · refine (get_yes _ x h0 hx hw).mono ?_; rintro e w6 ⟨rfl, ho6⟩
    go_wp2_with fail
    refine (refOf_yes x _ h0 hx hw).mono ?_; rintro e w7 ⟨rfl, ho7⟩
    have hb1 := ho7.blk (Blk.new w6 23 (Cp.of x).arr) (by simp)
    have hlt := hb1.lt
    obtain ⟨k0, k1, k2, k3, k4, k5⟩ := hb1.six
    have hW := Lib.hid hw
    clear hw
    go_wp2_with fail
    go_ret
    exact ⟨rfl, ((((hA.trans ho6).alloc _).trans ho7).alloc _)⟩
  · refine (get_no _ x h0 hx hw).mono ?_; rintro e w6 ⟨rfl, ho6⟩
    go_wp2_with fail
    refine (refOf_no x _ h0 hx hw).mono ?_; rintro e w7 ⟨rfl, ho7⟩
    have hb1 := ho7.blk (Blk.new w6 23 #[.int .i64 0, .int .i64 0, .int .i64 0, .int .i64 0, .int .i64 0, .int .i64 0]) (by simp)
    have hlt := hb1.lt
    obtain ⟨k0, k1, k2, k3, k4, k5⟩ := hb1.cap
    have hW := Lib.hid hw
    clear hw
    go_wp2_with fail
    refine (code_some 1 _ (by decide) (by decide)).mono ?_; rintro e w8 ⟨rfl, rfl⟩
    go_wp2_with fail
    go_ret
    exact ⟨rfl, ((((hA.trans ho6).alloc _).trans ho7).alloc _)⟩
theorem tells_any (h0 : 0 ≤ x) (hx : x < 18446744073709551616) :
    Calls Try.prog 3 #[c.v, .int .u64 x] w fun e w' => e = .returned (.bool true) ∧ Only [] w w' := by
  by_cases hm : c.may
  · exact tells_may c x w hm h0 hx
  · exact tells_not c x w hm h0 hx
end
end Go.Proofs.Ytfllddlkgcmopaa
