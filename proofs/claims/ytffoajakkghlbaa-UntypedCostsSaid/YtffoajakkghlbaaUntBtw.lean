/- What between of package untyped answers (layer 13), of any view. -/
import Derived.Test.YtffoajakkghlbaaUntA
import Derived.Test.YtffoajakkghlbaaCsCap
import Derived.Test.YtffoajakkghlbaaJ7
import Derived.Test.YtffoajakkghlbaaJ9
namespace Go.Proofs.Ytffoajakkghlbaa
open Go.RowKit
theorem ufieldKind (c : Cp) (w : World) : (Instr.field 32 c.v 0).run Try.prog w = .ok (.int .i64 c.kind) w := by kernel_rfl
section
variable {σ : Type} {M : Mach σ} {T : TypeId} {v : Value} {fR fW : FuncId} {Mem : World → σ → Prop} {Ok : σ → Prop} {S R : List Nat} {w : World} {s : σ}
set_option maxRecDepth 100000 in
set_option maxHeartbeats 2000000 in
theorem ubtw_is (V : VOk M T v fR fW Mem Ok S R) (hm : Mem w s) {f t m n : Int} {s1 : σ} (h : (ubtwP f t).run M s = ((m, n), s1)) :
    Calls Try.prog 24 #[.iface T v, .int .i64 f, .int .i64 t] w fun e w' => e = .returned (.tuple #[.int .i64 m, errV n]) ∧ Mem w' s1 ∧ Only S w w' := by
  unfold ubtwP at h
  cases hf : slotB f 0 with
  | false =>
    rw [Vp.run_yes (.inl hf), Vp.run_ret] at h
    cases h
    have cF := Lib.hid fun W => uis_is hf W
    clear hf V
    go_enter Try.func24, Try.ntmps24
    go_wp2_with ((with_reducible refine (cF.out _).mono ?_); rintro e w' ⟨rfl, rfl⟩)
    go_ret2
    exact ⟨rfl, hm, Only.refl _ _⟩
  | true =>
  have cF := Lib.hid fun W => uis_is hf W
  cases ht : slotB t 0 with
  | false =>
    rw [Vp.run_yes (.inr ht), Vp.run_ret] at h
    cases h
    have cT := Lib.hid fun W => uis_is ht W
    clear ht hf V
    go_enter Try.func24, Try.ntmps24
    go_wp2_with ((with_reducible first | refine (cF.out _).mono ?_ | refine (cT.out _).mono ?_); rintro e w' ⟨rfl, rfl⟩)
    go_ret2
    exact ⟨rfl, hm, Only.refl _ _⟩
  | true =>
  have cT := Lib.hid fun W => uis_is ht W
  rw [Vp.run_no (by simp [hf, ht])] at h
  obtain ⟨c, s2, h2⟩ : ∃ c s2, (capP f).run M s = (c, s2) := ⟨_, _, rfl⟩
  rw [Vp.run_bind_is h2] at h
  have hmay := capP_may h2
  have c1 := ccap_is V hm h2
  have HV := Lib.hid V
  clear hf ht h2 hm V
  by_cases hk : c.kind ≠ 1
  · rw [Vp.run_yes hk, Vp.run_ret] at h
    cases h
    have hb : (c.kind != 1) = true := by simpa using hk
    clear hk hmay
    go_enter Try.func24, Try.ntmps24
    go_wp2_with (first | ((with_reducible first | refine (cF.out _).mono ?_ | refine (cT.out _).mono ?_); rintro e w' ⟨rfl, rfl⟩) | ((with_reducible refine c1.mono ?_); clear c1; rintro e w1 ⟨rfl, hm1, ho1⟩; have hb1 := Blk.new w1 CpT c.arr; obtain ⟨k0, k1, k2, k3, k4, k5⟩ := hb1.cap; have HH := Lib.hid (And.intro (HV.out.only0 hm1 ((Only.refl [] w1).alloc (.cells c.arr CpT))) (ho1.alloc (.cells c.arr CpT)))))
    go_ret2
    exact ⟨rfl, HH.out⟩
  rw [Vp.run_no hk] at h
  have hb : (c.kind != 1) = false := by simpa using hk
  have hr := hmay.small
  have hr0 : 0 ≤ c.rights ∧ c.rights ≤ 7 := ⟨by obtain ⟨a1, a2, a3, a4, -⟩ := hr; omega, by obtain ⟨a1, a2, a3, a4, -⟩ := hr; omega⟩
  obtain ⟨q, s3, h3⟩ : ∃ q s3, (isP c.obj 1).run M s2 = (q, s3) := ⟨_, _, rfl⟩
  rw [Vp.run_bind_is h3] at h
  have H3 := Lib.hid h3
  clear hk hmay hr h3
  cases q with
  | false =>
    rw [Vp.run_yes rfl, Vp.run_ret] at h
    cases h
    clear hr0
    go_enter Try.func24, Try.ntmps24
    go_wp2_with (first | ((with_reducible first | refine (cF.out _).mono ?_ | refine (cT.out _).mono ?_); rintro e w' ⟨rfl, rfl⟩) | ((with_reducible refine c1.mono ?_); clear c1; rintro e w1 ⟨rfl, hm1, ho1⟩; have hg := HV.out.freshS hm1 (Nat.le_refl w1.heap.size); have hb1 := Blk.new w1 CpT c.arr; obtain ⟨k0, k1, k2, k3, k4, k5⟩ := hb1.cap; replace hm1 := HV.out.only0 hm1 ((Only.refl [] w1).alloc (.cells c.arr CpT)); replace ho1 := ho1.alloc (.cells c.arr CpT); have c3 := is_is HV.out hm1 (by decide) H3.out; clear hm1) | ((with_reducible refine c3.mono ?_); clear c3; rintro e w3 ⟨rfl, hm3, ho3⟩; replace ho3 := ho1.trans ho3))
    go_ret2
    exact ⟨rfl, hm3, ho3⟩
  | true =>
  rw [Vp.run_no (by simp)] at h
  by_cases hR : hasR c.rights 2 = false
  · rw [Vp.run_yes hR, Vp.run_ret] at h
    cases h
    have hA := and2_no hr0.1 hr0.2 hR
    clear hr0 hR
    go_enter Try.func24, Try.ntmps24
    go_wp2_with (first | ((with_reducible first | refine (cF.out _).mono ?_ | refine (cT.out _).mono ?_); rintro e w' ⟨rfl, rfl⟩) | ((with_reducible refine c1.mono ?_); clear c1; rintro e w1 ⟨rfl, hm1, ho1⟩; have hg := HV.out.freshS hm1 (Nat.le_refl w1.heap.size); have hb1 := Blk.new w1 CpT c.arr; obtain ⟨k0, k1, k2, k3, k4, k5⟩ := hb1.cap; replace hm1 := HV.out.only0 hm1 ((Only.refl [] w1).alloc (.cells c.arr CpT)); replace ho1 := ho1.alloc (.cells c.arr CpT); have c3 := is_is HV.out hm1 (by decide) H3.out; clear hm1) | ((with_reducible refine c3.mono ?_); clear c3; rintro e w3 ⟨rfl, hm3, ho3⟩; obtain ⟨l0, l1, l2, l3, l4, l5⟩ := (ho3.blk hb1 hg).cap; replace ho3 := ho1.trans ho3))
    go_ret2
    exact ⟨rfl, hm3, ho3⟩
  rw [Vp.run_no hR] at h
  have hA := and2_yes hr0.1 hr0.2 hR
  obtain ⟨d, s4, h4⟩ : ∃ d s4, (capP t).run M s3 = (d, s4) := ⟨_, _, rfl⟩
  rw [Vp.run_bind_is h4] at h
  have H4 := Lib.hid h4
  have hfk := ufieldKind d
  clear hr0 hR h4
  by_cases hk : d.kind ≠ 0
  · rw [Vp.run_yes hk, Vp.run_ret] at h
    cases h
    have hb2 : (d.kind != 0) = true := by simpa using hk
    clear hk
    go_enter Try.func24, Try.ntmps24
    go_wp2_with (first | ((with_reducible first | refine (cF.out _).mono ?_ | refine (cT.out _).mono ?_); rintro e w' ⟨rfl, rfl⟩) | ((with_reducible refine c1.mono ?_); clear c1; rintro e w1 ⟨rfl, hm1, ho1⟩; have hg := HV.out.freshS hm1 (Nat.le_refl w1.heap.size); have hb1 := Blk.new w1 CpT c.arr; obtain ⟨k0, k1, k2, k3, k4, k5⟩ := hb1.cap; replace hm1 := HV.out.only0 hm1 ((Only.refl [] w1).alloc (.cells c.arr CpT)); replace ho1 := ho1.alloc (.cells c.arr CpT); have c3 := is_is HV.out hm1 (by decide) H3.out; clear hm1) | ((with_reducible refine c3.mono ?_); clear c3; rintro e w3 ⟨rfl, hm3, ho3⟩; obtain ⟨l0, l1, l2, l3, l4, l5⟩ := (ho3.blk hb1 hg).cap; replace ho3 := ho1.trans ho3; have c4 := ccap_is HV.out hm3 H4.out; clear hm3) | ((with_reducible refine c4.mono ?_); clear c4; rintro e w4 ⟨rfl, hm4, ho4⟩; replace ho4 := ho3.trans ho4))
    go_ret2
    exact ⟨rfl, hm4, ho4⟩
  rw [Vp.run_no hk] at h
  have hb2 : (d.kind != 0) = false := by simpa using hk
  obtain ⟨p, s5, h5⟩ : ∃ p s5, (toldP t 1).run M s4 = (p, s5) := ⟨_, _, rfl⟩
  rw [Vp.run_bind_is h5] at h
  have H5 := Lib.hid h5
  clear hk h5
  by_cases hp : 0 ≤ p
  · rw [Vp.run_yes hp, Vp.run_ret] at h
    cases h
    go_enter Try.func24, Try.ntmps24
    go_wp2_with (first | ((with_reducible first | refine (cF.out _).mono ?_ | refine (cT.out _).mono ?_); rintro e w' ⟨rfl, rfl⟩) | ((with_reducible refine c1.mono ?_); clear c1; rintro e w1 ⟨rfl, hm1, ho1⟩; have hg := HV.out.freshS hm1 (Nat.le_refl w1.heap.size); have hb1 := Blk.new w1 CpT c.arr; obtain ⟨k0, k1, k2, k3, k4, k5⟩ := hb1.cap; replace hm1 := HV.out.only0 hm1 ((Only.refl [] w1).alloc (.cells c.arr CpT)); replace ho1 := ho1.alloc (.cells c.arr CpT); have c3 := is_is HV.out hm1 (by decide) H3.out; clear hm1) | ((with_reducible refine c3.mono ?_); clear c3; rintro e w3 ⟨rfl, hm3, ho3⟩; obtain ⟨l0, l1, l2, l3, l4, l5⟩ := (ho3.blk hb1 hg).cap; replace ho3 := ho1.trans ho3; have c4 := ccap_is HV.out hm3 H4.out; clear hm3) | ((with_reducible refine c4.mono ?_); clear c4; rintro e w4 ⟨rfl, hm4, ho4⟩; replace ho4 := ho3.trans ho4; have c5 := cparent_is HV.out hm4 H5.out; clear hm4) | ((with_reducible refine c5.mono ?_); clear c5; rintro e w5 ⟨rfl, hm5, ho5⟩; replace ho5 := ho4.trans ho5))
    go_ret2
    exact ⟨rfl, hm5, ho5⟩
  rw [Vp.run_no hp, Vp.run_ret] at h
  cases h
  go_enter Try.func24, Try.ntmps24
  go_wp2_with (first | ((with_reducible first | refine (cF.out _).mono ?_ | refine (cT.out _).mono ?_); rintro e w' ⟨rfl, rfl⟩) | ((with_reducible refine c1.mono ?_); clear c1; rintro e w1 ⟨rfl, hm1, ho1⟩; have hg := HV.out.freshS hm1 (Nat.le_refl w1.heap.size); have hb1 := Blk.new w1 CpT c.arr; obtain ⟨k0, k1, k2, k3, k4, k5⟩ := hb1.cap; replace hm1 := HV.out.only0 hm1 ((Only.refl [] w1).alloc (.cells c.arr CpT)); replace ho1 := ho1.alloc (.cells c.arr CpT); have c3 := is_is HV.out hm1 (by decide) H3.out; clear hm1) | ((with_reducible refine c3.mono ?_); clear c3; rintro e w3 ⟨rfl, hm3, ho3⟩; have hb3 := ho3.blk hb1 hg; obtain ⟨l0, l1, l2, l3, l4, l5⟩ := hb3.cap; replace ho3 := ho1.trans ho3; have c4 := ccap_is HV.out hm3 H4.out; clear hm3) | ((with_reducible refine c4.mono ?_); clear c4; rintro e w4 ⟨rfl, hm4, ho4⟩; have hb4 := ho4.blk hb3 hg; replace ho4 := ho3.trans ho4; have c5 := cparent_is HV.out hm4 H5.out; clear hm4) | ((with_reducible refine c5.mono ?_); clear c5; rintro e w5 ⟨rfl, hm5, ho5⟩; obtain ⟨j0, j1, j2, j3, j4, j5⟩ := (ho5.blk hb4 hg).cap; replace ho5 := ho4.trans ho5))
  go_ret2
  exact ⟨rfl, hm5, ho5⟩
end
end Go.Proofs.Ytffoajakkghlbaa
