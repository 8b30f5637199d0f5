/- What Cap of package cspace answers (layer 11), of any view: a slot's capability. -/
import Derived.Test.YtdkjfalhalepgaaJ12
import Derived.Test.YtdkjfalhalepgaaJ3
import Derived.Test.YtdkjfalhalepgaaJ14
import Derived.Test.YtdkjfalhalepgaaJ13
import Derived.Test.YtdkjfalhalepgaaJ6
namespace Go.Proofs.Ytdkjfalhalepgaa
open Go.RowKit
abbrev CpT : TypeId := 30
/-- the cells of a Null capability -/
abbrev zeroA : Array Value := #[.int .i64 0, .int .i64 0, .int .i64 0, .int .i64 0, .int .i64 0, .int .i64 0]
theorem cget_any {x : Int} (h : U64 x) (w : World) : Calls Try.prog 87 #[.int .u64 x] w fun e w' => e = .returned (.tuple #[(getC x).v, errV (if (Cp.of x).may then 0 else 1)]) ∧ Only [] w w' := by
  unfold getC
  by_cases hm : (Cp.of x).may
  · rw [if_pos hm, if_pos hm]
    exact get_yes w x h.1 (by have := h.2; omega) hm
  · rw [if_neg hm, if_neg hm]
    exact get_no w x h.1 (by have := h.2; omega) hm
section
variable {σ : Type} {M : Mach σ} {T : TypeId} {v : Value} {fR fW : FuncId} {Mem : World → σ → Prop} {Ok : σ → Prop} {S R : List Nat} {w : World} {s : σ}
set_option maxHeartbeats 1000000 in
theorem ccap_is (V : VOk M T v fR fW Mem Ok S R) (hm : Mem w s) {i : Int} {c : Cp} {s1 : σ} (h : (capP i).run M s = (c, s1)) :
    Calls Try.prog 81 #[.iface T v, .int .i64 i] w fun e w' => e = .returned c.v ∧ Mem w' s1 ∧ Only S w w' := by
  have mR := V.mR
  have nR := V.nR
  have eR := V.eR
  unfold capP at h
  have HV := Lib.hid V
  have hR := V.fresh hm (Nat.le_refl w.heap.size)
  have hg := V.freshS hm (Nat.le_refl w.heap.size)
  have hb0 := Blk.new w CpT zeroA
  have hm0 := V.only0 hm ((Only.refl [] w).alloc (.cells zeroA CpT))
  obtain ⟨a, ha⟩ : ∃ a, slotI i 0 = a := ⟨_, rfl⟩
  cases hb : slotB i 0 with
  | false =>
    rw [hb, Vp.run_no (by simp), Vp.run_ret] at h
    cases h
    have cO := Lib.hid (slot_is ha hb)
    obtain ⟨k0, k1, k2, k3, k4, k5⟩ := hb0.cap
    clear hb ha V
    go_enter Try.func81, Try.ntmps81
    go_wp2_with (go_at_call 83; (with_reducible refine (cO.out _).mono ?_); rintro e w' ⟨rfl, rfl⟩)
    refine bodyPost_ret (v := Cp.zero.v) (by simp [results, Try.results81, go_sem, k0, k1, k2, k3, k4, k5, Cp.zero]) rfl ⟨rfl, hm0, (Only.refl _ _).alloc _⟩
  | true =>
    rw [hb, Vp.run_yes rfl, Vp.run_rd, Vp.run_ret, ha] at h
    have hr := V.rng s a (V.ok w s hm)
    have cR := V.rd _ s a hm0
    obtain ⟨x, s2, hrd⟩ : ∃ x s2, M.rd s a = (x, s2) := ⟨_, _, rfl⟩
    rw [hrd] at hr cR h
    cases h
    have cO := Lib.hid (slot_is ha hb)
    have cG := Lib.hid (cget_any hr)
    have HF : ∀ {W W' : World}, Blk W w.heap.size CpT zeroA → Only S W W' → Blk W' w.heap.size CpT zeroA := fun q o => o.blk q hg
    have HK := Lib.hid (fun W W' => @HF W W')
    clear hb ha hm hm0 hrd hr V HF hg
    unfold getC at cG ⊢
    by_cases hmay : (Cp.of x).may
    · rw [if_pos hmay, if_pos hmay, errV_nil] at cG
      rw [if_pos hmay]
      generalize Cp.of x = c at *
      go_enter Try.func81, Try.ntmps81
      go_wp2_with (go_at_call 83; (with_reducible refine (cO.out _).mono ?_); rintro e w' ⟨rfl, rfl⟩)
      (with_reducible refine cR.mono ?_)
      clear cR
      rintro e w1 ⟨rfl, hm1, ho1⟩
      have hb1 := HK.out _ _ hb0 ho1
      go_wp2_with fail
      (with_reducible refine (cG.out _).mono ?_)
      rintro e w2 ⟨rfl, ho2⟩
      have hb2 := ho2.blk hb1 (by simp)
      have hz := hb2.lt
      have hm2 := HV.out.only0 hm1 ho2
      have ho := (((Only.refl S w).alloc (.cells zeroA CpT)).trans ho1).trans (ho2.more (S' := S) (fun _ _ hx => absurd hx List.not_mem_nil))
      clear hm1 ho1 ho2 hb0 hb1
      go_upto_region 7 with fail
      obtain ⟨w3, hw3⟩ : ∃ w3, w3 = w2.alloc (.cells c.arr CpT) := ⟨_, rfl⟩
      have hm3 := HV.out.only0 hm2 ((Only.refl [] w2).alloc (.cells c.arr CpT))
      have ho3 := ho.alloc (.cells c.arr CpT)
      have hb3 := hb2.alloc (.cells c.arr CpT)
      have hc3 := Blk.new w2 CpT c.arr
      rw [← hw3] at hm3 ho3 hb3 hc3 ⊢
      clear hw3 hb2 hm2 ho
      have f0 : w3.frozen? ⟨w.heap.size, 0, none⟩ = false := hb3.frozen 0
      have f1 : w3.frozen? ⟨w.heap.size, 1, none⟩ = false := hb3.frozen 1
      have f2 : w3.frozen? ⟨w.heap.size, 2, none⟩ = false := hb3.frozen 2
      have f3 : w3.frozen? ⟨w.heap.size, 3, none⟩ = false := hb3.frozen 3
      have f4 : w3.frozen? ⟨w.heap.size, 4, none⟩ = false := hb3.frozen 4
      have f5 : w3.frozen? ⟨w.heap.size, 5, none⟩ = false := hb3.frozen 5
      obtain ⟨k0, k1, k2, k3, k4, k5⟩ := hb3.cap
      obtain ⟨l0, l1, l2, l3, l4, l5⟩ := hc3.cap
      have HH := Lib.hid (And.intro hm3 ho3)
      clear hm3 ho3 hb3 hc3
      generalize w2.heap.size = g3 at *
      go_wp2_with fail
      refine bodyPost_ret (v := c.v) (by simp [results, Try.results81, go_sem, k0, k1, k2, k3, k4, k5]) rfl ⟨rfl, ?_, ?_⟩
      · exact HV.out.put (HV.out.put (HV.out.put (HV.out.put (HV.out.put (HV.out.put HH.out.1 hR _ _) hR _ _) hR _ _) hR _ _) hR _ _) hR _ _
      · exact (((((HH.out.2.setCell (.inr (Nat.le_refl _)) _).setCell (.inr (Nat.le_refl _)) _).setCell (.inr (Nat.le_refl _)) _).setCell (.inr (Nat.le_refl _)) _).setCell (.inr (Nat.le_refl _)) _).setCell (.inr (Nat.le_refl _)) _
    · rw [if_neg hmay, if_neg hmay, show errV 1 = .iface 70 (.int .i64 1) from rfl, show Cp.zero.v = .agg zeroA from rfl] at cG
      rw [if_neg hmay]
      go_enter Try.func81, Try.ntmps81
      go_wp2_with (go_at_call 83; (with_reducible refine (cO.out _).mono ?_); rintro e w' ⟨rfl, rfl⟩)
      (with_reducible refine cR.mono ?_)
      clear cR
      rintro e w1 ⟨rfl, hm1, ho1⟩
      have hb1 := HK.out _ _ hb0 ho1
      go_wp2_with fail
      (with_reducible refine (cG.out _).mono ?_)
      rintro e w2 ⟨rfl, ho2⟩
      have hb2 := ho2.blk hb1 (by simp)
      have hz := hb2.lt
      have hm2 := HV.out.only0 hm1 ho2
      have ho := (((Only.refl S w).alloc (.cells zeroA CpT)).trans ho1).trans (ho2.more (S' := S) (fun _ _ hx => absurd hx List.not_mem_nil))
      clear hm1 ho1 ho2 hb0 hb1
      go_upto_region 6 with fail
      obtain ⟨w3, hw3⟩ : ∃ w3, w3 = w2.alloc (.cells zeroA CpT) := ⟨_, rfl⟩
      have hm3 := HV.out.only0 hm2 ((Only.refl [] w2).alloc (.cells zeroA CpT))
      have ho3 := ho.alloc (.cells zeroA CpT)
      have hb3 := hb2.alloc (.cells zeroA CpT)
      have hc3 := Blk.new w2 CpT zeroA
      rw [← hw3] at hm3 ho3 hb3 hc3 ⊢
      clear hw3 hb2 hm2 ho
      have f0 : w3.frozen? ⟨w.heap.size, 0, none⟩ = false := hb3.frozen 0
      have f1 : w3.frozen? ⟨w.heap.size, 1, none⟩ = false := hb3.frozen 1
      have f2 : w3.frozen? ⟨w.heap.size, 2, none⟩ = false := hb3.frozen 2
      have f3 : w3.frozen? ⟨w.heap.size, 3, none⟩ = false := hb3.frozen 3
      have f4 : w3.frozen? ⟨w.heap.size, 4, none⟩ = false := hb3.frozen 4
      have f5 : w3.frozen? ⟨w.heap.size, 5, none⟩ = false := hb3.frozen 5
      obtain ⟨k0, k1, k2, k3, k4, k5⟩ := hb3.cap
      obtain ⟨l0, l1, l2, l3, l4, l5⟩ := hc3.cap
      have HH := Lib.hid (And.intro hm3 ho3)
      clear hm3 ho3 hb3 hc3
      generalize w2.heap.size = g3 at *
      go_wp2_with fail
      refine bodyPost_ret (v := Cp.zero.v) (by simp [results, Try.results81, go_sem, k0, k1, k2, k3, k4, k5, Cp.zero]) rfl ⟨rfl, ?_, ?_⟩
      · exact HV.out.put (HV.out.put (HV.out.put (HV.out.put (HV.out.put (HV.out.put HH.out.1 hR _ _) hR _ _) hR _ _) hR _ _) hR _ _) hR _ _
      · exact (((((HH.out.2.setCell (.inr (Nat.le_refl _)) _).setCell (.inr (Nat.le_refl _)) _).setCell (.inr (Nat.le_refl _)) _).setCell (.inr (Nat.le_refl _)) _).setCell (.inr (Nat.le_refl _)) _).setCell (.inr (Nat.le_refl _)) _
end
end Go.Proofs.Ytdkjfalhalepgaa
