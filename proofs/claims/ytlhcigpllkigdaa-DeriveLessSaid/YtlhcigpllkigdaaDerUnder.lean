/- What below and instead of package derive do (layer 12), to any view, by any function. -/
import Derived.Test.YtlhcigpllkigdaaDerMade
import Derived.Test.YtlhcigpllkigdaaCsSet
import Derived.Test.YtlhcigpllkigdaaCdtReplace
namespace Go.Proofs.Ytlhcigpllkigdaa
open Go.RowKit
section
variable {σ : Type} {M : Mach σ} {T : TypeId} {v : Value} {fR fW : FuncId} {Mem : World → σ → Prop} {Ok : σ → Prop} {S R : List Nat} {w : World} {s : σ}
variable {G : FuncId} {caps : Array Value} {Keep : World → Prop} {mk : Cp → Cp × Int}
set_option maxRecDepth 100000 in
set_option maxHeartbeats 1000000 in
theorem dbelow_is (V : VOk M T v fR fW Mem Ok S R) (hm : Mem w s) (K : Maker S G caps Keep mk) (hk : Keep w) {f t n : Int} {s1 : σ} (h : (underP mk f t).run M s = (n, s1)) :
    Calls Try.prog 26 #[.iface T v, .int .i64 f, .int .i64 t, .func (.func G) #[] caps] w fun e w' => e = .returned (errV n) ∧ Mem w' s1 ∧ Only S w w' := by
  unfold underP at h
  obtain ⟨r, s2, h2⟩ : ∃ r s2, (madeP mk f t).run M s = (r, s2) := ⟨_, _, rfl⟩
  rw [Vp.run_bind_is h2] at h
  have c1 := made_is V hm K hk h2
  have HV := Lib.hid V
  obtain ⟨c, m⟩ := r
  dsimp only at h c1
  clear h2 hm K hk V
  by_cases h0 : m ≠ 0
  · rw [Vp.run_yes h0, Vp.run_ret] at h
    cases h
    rw [errV_some h0] at c1 ⊢
    clear h0
    go_enter Try.func26, Try.ntmps26
    go_wp2_with fail
    (with_reducible refine c1.mono ?_)
    clear c1
    rintro e w1 ⟨rfl, hm1, ho1⟩
    have HH := Lib.hid (And.intro (HV.out.only0 hm1 ((Only.refl [] w1).alloc (.cells c.arr CpT))) (ho1.alloc (.cells c.arr CpT)))
    go_wp2_with fail
    go_ret
    exact ⟨rfl, HH.out⟩
  · rw [Vp.run_no h0] at h
    obtain rfl : m = 0 := by simpa using h0
    obtain ⟨p, s3, h3⟩ : ∃ p s3, (linkP t f).run M s2 = (p, s3) := ⟨_, _, rfl⟩
    rw [Vp.run_bind_is h3] at h
    have H3 := Lib.hid h3
    have H := Lib.hid h
    rw [errV_nil] at c1
    clear h0 h3 h
    by_cases hp : p ≠ 0
    · have h := H.out
      rw [Vp.run_yes hp, Vp.run_ret] at h
      cases h
      have HP := Lib.hid hp
      rw [errV_some hp]
      clear hp
      go_enter Try.func26, Try.ntmps26
      go_wp2_with fail
      (with_reducible refine c1.mono ?_)
      clear c1
      rintro e w1 ⟨rfl, hm1, ho1⟩
      have hm1' := HV.out.only0 hm1 ((Only.refl [] w1).alloc (.cells c.arr CpT))
      have ho1' := ho1.alloc (.cells c.arr CpT)
      have c2 := link_is HV.out hm1' H3.out
      rw [errV_some HP.out] at c2
      clear hm1 hm1' ho1
      go_wp2_with ((with_reducible refine c2.mono ?_); clear c2; rintro e w2 ⟨rfl, hm2, ho2⟩)
      go_ret
      exact ⟨rfl, hm2, ho1'.trans ho2⟩
    · have h := H.out
      rw [Vp.run_no hp] at h
      obtain rfl : p = 0 := by simpa using hp
      clear hp H
      have H := Lib.hid h
      clear h
      go_enter Try.func26, Try.ntmps26
      go_wp2_with fail
      (with_reducible refine c1.mono ?_)
      clear c1
      rintro e w1 ⟨rfl, hm1, ho1⟩
      have hg := HV.out.freshS hm1 (Nat.le_refl w1.heap.size)
      have hb1 := Blk.new w1 CpT c.arr
      have hm1' := HV.out.only0 hm1 ((Only.refl [] w1).alloc (.cells c.arr CpT))
      have ho1' := ho1.alloc (.cells c.arr CpT)
      have c2 := link_is HV.out hm1' H3.out
      rw [errV_nil] at c2
      clear hm1 hm1' ho1
      go_wp2_with ((with_reducible refine c2.mono ?_); clear c2; rintro e w2 ⟨rfl, hm2, ho2⟩; have hb2 := ho2.blk hb1 hg; obtain ⟨k0, k1, k2, k3, k4, k5⟩ := hb2.cap; have c3 := cset_is HV.out hm2 H.out; clear hb1 hb2 hm2)
      (with_reducible refine c3.mono ?_)
      clear c3
      rintro e w3 ⟨rfl, hm3, ho3⟩
      go_wp2_with fail
      go_ret
      exact ⟨rfl, hm3, (ho1'.trans ho2).trans ho3⟩
set_option maxRecDepth 100000 in
set_option maxHeartbeats 1000000 in
theorem dinstead_is (V : VOk M T v fR fW Mem Ok S R) (hm : Mem w s) (K : Maker S G caps Keep mk) (hk : Keep w) {f t n : Int} {s1 : σ} (h : (insteadP mk f t).run M s = (n, s1)) :
    Calls Try.prog 37 #[.iface T v, .int .i64 f, .int .i64 t, .func (.func G) #[] caps] w fun e w' => e = .returned (errV n) ∧ Mem w' s1 ∧ Only S w w' := by
  unfold insteadP at h
  obtain ⟨r, s2, h2⟩ : ∃ r s2, (madeP mk f t).run M s = (r, s2) := ⟨_, _, rfl⟩
  rw [Vp.run_bind_is h2] at h
  have c1 := made_is V hm K hk h2
  have HV := Lib.hid V
  obtain ⟨c, m⟩ := r
  dsimp only at h c1
  clear h2 hm K hk V
  by_cases h0 : m ≠ 0
  · rw [Vp.run_yes h0, Vp.run_ret] at h
    cases h
    rw [errV_some h0] at c1 ⊢
    clear h0
    go_enter Try.func37, Try.ntmps37
    go_wp2_with fail
    (with_reducible refine c1.mono ?_)
    clear c1
    rintro e w1 ⟨rfl, hm1, ho1⟩
    have HH := Lib.hid (And.intro (HV.out.only0 hm1 ((Only.refl [] w1).alloc (.cells c.arr CpT))) (ho1.alloc (.cells c.arr CpT)))
    go_wp2_with fail
    go_ret
    exact ⟨rfl, HH.out⟩
  rw [Vp.run_no h0] at h
  obtain rfl : m = 0 := by simpa using h0
  obtain ⟨p, s3, h3⟩ : ∃ p s3, (replaceP f t).run M s2 = (p, s3) := ⟨_, _, rfl⟩
  rw [Vp.run_bind_is h3] at h
  have H3 := Lib.hid h3
  rw [errV_nil] at c1
  clear h0 h3
  by_cases hp : p ≠ 0
  · rw [Vp.run_yes hp, Vp.run_ret] at h
    cases h
    have HP := Lib.hid hp
    rw [errV_some hp]
    clear hp
    go_enter Try.func37, Try.ntmps37
    go_wp2_with fail
    (with_reducible refine c1.mono ?_)
    clear c1
    rintro e w1 ⟨rfl, hm1, ho1⟩
    have hm1' := HV.out.only0 hm1 ((Only.refl [] w1).alloc (.cells c.arr CpT))
    have ho1' := ho1.alloc (.cells c.arr CpT)
    have c2 := replace_is HV.out hm1' H3.out
    rw [errV_some HP.out] at c2
    clear hm1 hm1' ho1
    go_wp2_with ((with_reducible refine c2.mono ?_); clear c2; rintro e w2 ⟨rfl, hm2, ho2⟩)
    go_ret
    exact ⟨rfl, hm2, ho1'.trans ho2⟩
  rw [Vp.run_no hp] at h
  obtain rfl : p = 0 := by simpa using hp
  obtain ⟨q, s4, h4⟩ : ∃ q s4, (csetP t c).run M s3 = (q, s4) := ⟨_, _, rfl⟩
  rw [Vp.run_bind_is h4] at h
  have H4 := Lib.hid h4
  clear hp h4
  by_cases hq : q ≠ 0
  · rw [Vp.run_yes hq, Vp.run_ret] at h
    cases h
    have HQ := Lib.hid hq
    rw [errV_some hq]
    clear hq
    go_enter Try.func37, Try.ntmps37
    go_wp2_with fail
    (with_reducible refine c1.mono ?_)
    clear c1
    rintro e w1 ⟨rfl, hm1, ho1⟩
    have hg := HV.out.freshS hm1 (Nat.le_refl w1.heap.size)
    have hb1 := Blk.new w1 CpT c.arr
    have hm1' := HV.out.only0 hm1 ((Only.refl [] w1).alloc (.cells c.arr CpT))
    have ho1' := ho1.alloc (.cells c.arr CpT)
    have c2 := replace_is HV.out hm1' H3.out
    rw [errV_nil] at c2
    clear hm1 hm1' ho1
    go_wp2_with ((with_reducible refine c2.mono ?_); clear c2; rintro e w2 ⟨rfl, hm2, ho2⟩; have hb2 := ho2.blk hb1 hg; obtain ⟨k0, k1, k2, k3, k4, k5⟩ := hb2.cap; have c3 := cset_is HV.out hm2 H4.out; rw [errV_some HQ.out] at c3; clear hb1 hb2 hm2)
    (with_reducible refine c3.mono ?_)
    clear c3
    rintro e w3 ⟨rfl, hm3, ho3⟩
    go_wp2_with fail
    go_ret
    exact ⟨rfl, hm3, (ho1'.trans ho2).trans ho3⟩
  rw [Vp.run_no hq] at h
  obtain rfl : q = 0 := by simpa using hq
  have H := Lib.hid h
  clear hq h
  go_enter Try.func37, Try.ntmps37
  go_wp2_with fail
  (with_reducible refine c1.mono ?_)
  clear c1
  rintro e w1 ⟨rfl, hm1, ho1⟩
  have hg := HV.out.freshS hm1 (Nat.le_refl w1.heap.size)
  have hb1 := Blk.new w1 CpT c.arr
  have hm1' := HV.out.only0 hm1 ((Only.refl [] w1).alloc (.cells c.arr CpT))
  have ho1' := ho1.alloc (.cells c.arr CpT)
  have c2 := replace_is HV.out hm1' H3.out
  rw [errV_nil] at c2
  clear hm1 hm1' ho1
  go_wp2_with ((with_reducible refine c2.mono ?_); clear c2; rintro e w2 ⟨rfl, hm2, ho2⟩; have hb2 := ho2.blk hb1 hg; obtain ⟨k0, k1, k2, k3, k4, k5⟩ := hb2.cap; have c3 := cset_is HV.out hm2 H4.out; rw [errV_nil] at c3; clear hb1 hb2 hm2)
  (with_reducible refine c3.mono ?_)
  clear c3
  rintro e w3 ⟨rfl, hm3, ho3⟩
  have c4 := cset_is HV.out hm3 H.out
  rw [show Cp.zero.v = .agg zeroA from rfl] at c4
  clear hm3
  go_wp2_with fail
  (with_reducible refine c4.mono ?_)
  clear c4
  rintro e w4 ⟨rfl, hm4, ho4⟩
  go_wp2_with fail
  go_ret
  exact ⟨rfl, hm4, ((ho1'.trans ho2).trans ho3).trans ho4⟩
end
end Go.Proofs.Ytlhcigpllkigdaa
