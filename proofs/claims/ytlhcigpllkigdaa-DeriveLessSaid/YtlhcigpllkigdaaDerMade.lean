/- What made of package derive answers (layer 12), of any view and any function: what is made of a slot's capability, where the other slot has none. -/
import Derived.Test.YtlhcigpllkigdaaDerHas
namespace Go.Proofs.Ytlhcigpllkigdaa
open Go.RowKit
/-- a function that makes a capability of another one -/
structure Maker (S : List Nat) (G : FuncId) (caps : Array Value) (Keep : World → Prop) (mk : Cp → Cp × Int) : Prop where
  enter : ∀ (args : Array Value) (w : World), (callFunc G args).run Try.prog w = .ok (.enter G args) w
  call : ∀ (w : World) (c : Cp), Keep w → Calls Try.prog G (#[c.v] ++ caps) w fun e w' => e = .returned (.tuple #[(mk c).1.v, errV (mk c).2]) ∧ Only [] w w'
  keep : ∀ (w w' : World), Keep w → Only S w w' → Keep w'
section
variable {σ : Type} {M : Mach σ} {T : TypeId} {v : Value} {fR fW : FuncId} {Mem : World → σ → Prop} {Ok : σ → Prop} {S R : List Nat} {w : World} {s : σ}
variable {G : FuncId} {caps : Array Value} {Keep : World → Prop} {mk : Cp → Cp × Int}
set_option maxHeartbeats 1000000 in
theorem made_is (V : VOk M T v fR fW Mem Ok S R) (hm : Mem w s) (K : Maker S G caps Keep mk) (hk : Keep w) {f t : Int} {r : Cp × Int} {s1 : σ} (h : (madeP mk f t).run M s = (r, s1)) :
    Calls Try.prog 44 #[.iface T v, .int .i64 f, .int .i64 t, .func (.func G) #[] caps] w fun e w' => e = .returned (.tuple #[r.1.v, errV r.2]) ∧ Mem w' s1 ∧ Only S w w' := by
  have eG := K.enter
  have HV := Lib.hid V
  have hR := V.fresh hm (Nat.le_refl w.heap.size)
  have hg := V.freshS hm (Nat.le_refl w.heap.size)
  have hb0 := Blk.new w CpT zeroA
  have hm0 := V.only0 hm ((Only.refl [] w).alloc (.cells zeroA CpT))
  have ho0 := (Only.refl S w).alloc (.cells zeroA CpT)
  have HK := Lib.hid (And.intro K (K.keep _ _ hk ho0))
  have HF : ∀ {W W' : World}, Blk W w.heap.size CpT zeroA → Only S W W' → Blk W' w.heap.size CpT zeroA := fun q o => o.blk q hg
  have HB := Lib.hid (fun W W' => @HF W W')
  unfold madeP at h
  cases hb : slotB t 0 with
  | false =>
    rw [Vp.run_yes hb, Vp.run_ret] at h
    cases h
    have cI := Lib.hid (dis_is hb)
    have HH := Lib.hid (And.intro hm0 ho0)
    clear hb V hm0 ho0 hm HF hg hR hb0 hk K
    go_enter Try.func44, Try.ntmps44
    go_wp2_with ((with_reducible refine (cI.out _).mono ?_); rintro e w1 ⟨rfl, rfl⟩)
    refine bodyPost_ret (v := .tuple #[Cp.zero.v, errV 2]) (by simp [results, Try.results44, go_sem, errV, Cp.zero]) rfl ⟨rfl, HH.out⟩
  | true =>
    rw [Vp.run_no (by simp [hb])] at h
    have cI := Lib.hid (dis_is hb)
    obtain ⟨a, s2, h2⟩ : ∃ a s2, (hasP f).run M s = (a, s2) := ⟨_, _, rfl⟩
    rw [Vp.run_bind_is h2] at h
    have c2 := dhas_is V hm0 h2
    clear hb V hm0 hm HF hg h2 hk
    cases a with
    | false =>
      rw [Vp.run_yes rfl, Vp.run_ret] at h
      cases h
      go_enter Try.func44, Try.ntmps44
      go_upto_region 2 with (first | ((with_reducible refine (cI.out _).mono ?_); rintro e w1 ⟨rfl, rfl⟩) | ((with_reducible refine c2.mono ?_); clear c2; rintro e w2 ⟨rfl, hm2, ho2⟩))
      have hb2 := HB.out _ _ hb0 ho2
      have ho := ho0.trans ho2
      have hz := hb2.lt
      have f0 : w2.frozen? ⟨w.heap.size, 0, none⟩ = false := hb2.frozen 0
      have f1 : w2.frozen? ⟨w.heap.size, 1, none⟩ = false := hb2.frozen 1
      have f2 : w2.frozen? ⟨w.heap.size, 2, none⟩ = false := hb2.frozen 2
      have f3 : w2.frozen? ⟨w.heap.size, 3, none⟩ = false := hb2.frozen 3
      have f4 : w2.frozen? ⟨w.heap.size, 4, none⟩ = false := hb2.frozen 4
      have f5 : w2.frozen? ⟨w.heap.size, 5, none⟩ = false := hb2.frozen 5
      obtain ⟨k0, k1, k2, k3, k4, k5⟩ := hb2.cap
      have HH := Lib.hid (And.intro hm2 ho)
      clear hm2 ho2 hb2 ho hb0 ho0
      go_wp2_with fail
      refine bodyPost_ret (v := .tuple #[Cp.zero.v, errV 2]) (by simp [results, Try.results44, go_sem, k0, k1, k2, k3, k4, k5, errV, Cp.zero]) rfl ⟨rfl, ?_, ?_⟩
      · exact HV.out.put (HV.out.put (HV.out.put (HV.out.put (HV.out.put (HV.out.put HH.out.1 hR _ _) hR _ _) hR _ _) hR _ _) hR _ _) hR _ _
      · exact (((((HH.out.2.setCell (.inr (Nat.le_refl _)) _).setCell (.inr (Nat.le_refl _)) _).setCell (.inr (Nat.le_refl _)) _).setCell (.inr (Nat.le_refl _)) _).setCell (.inr (Nat.le_refl _)) _).setCell (.inr (Nat.le_refl _)) _
    | true =>
      rw [Vp.run_no (by simp)] at h
      obtain ⟨b, s3, h3⟩ : ∃ b s3, (hasP t).run M s2 = (b, s3) := ⟨_, _, rfl⟩
      rw [Vp.run_bind_is h3] at h
      have H3 := Lib.hid h3
      clear h3
      cases b with
      | true =>
        rw [Vp.run_yes rfl, Vp.run_ret] at h
        cases h
        go_enter Try.func44, Try.ntmps44
        go_upto_region 4 with (first | ((with_reducible refine (cI.out _).mono ?_); rintro e w1 ⟨rfl, rfl⟩) | ((with_reducible refine c2.mono ?_); clear c2; rintro e w2 ⟨rfl, hm2, ho2⟩) | ((with_reducible refine (dhas_is HV.out hm2 H3.out).mono ?_); clear hm2; rintro e w3 ⟨rfl, hm3, ho3⟩))
        have hb2 := HB.out _ _ (HB.out _ _ hb0 ho2) ho3
        have ho := (ho0.trans ho2).trans ho3
        have hz := hb2.lt
        have f0 : w3.frozen? ⟨w.heap.size, 0, none⟩ = false := hb2.frozen 0
        have f1 : w3.frozen? ⟨w.heap.size, 1, none⟩ = false := hb2.frozen 1
        have f2 : w3.frozen? ⟨w.heap.size, 2, none⟩ = false := hb2.frozen 2
        have f3 : w3.frozen? ⟨w.heap.size, 3, none⟩ = false := hb2.frozen 3
        have f4 : w3.frozen? ⟨w.heap.size, 4, none⟩ = false := hb2.frozen 4
        have f5 : w3.frozen? ⟨w.heap.size, 5, none⟩ = false := hb2.frozen 5
        obtain ⟨k0, k1, k2, k3, k4, k5⟩ := hb2.cap
        have HH := Lib.hid (And.intro hm3 ho)
        clear hm3 ho2 ho3 hb2 ho hb0 ho0
        go_wp2_with fail
        refine bodyPost_ret (v := .tuple #[Cp.zero.v, errV 8]) (by simp [results, Try.results44, go_sem, k0, k1, k2, k3, k4, k5, errV, Cp.zero]) rfl ⟨rfl, ?_, ?_⟩
        · exact HV.out.put (HV.out.put (HV.out.put (HV.out.put (HV.out.put (HV.out.put HH.out.1 hR _ _) hR _ _) hR _ _) hR _ _) hR _ _) hR _ _
        · exact (((((HH.out.2.setCell (.inr (Nat.le_refl _)) _).setCell (.inr (Nat.le_refl _)) _).setCell (.inr (Nat.le_refl _)) _).setCell (.inr (Nat.le_refl _)) _).setCell (.inr (Nat.le_refl _)) _).setCell (.inr (Nat.le_refl _)) _
      | false =>
        rw [Vp.run_no (by simp)] at h
        obtain ⟨c, s4, h4⟩ : ∃ c s4, (capP f).run M s3 = (c, s4) := ⟨_, _, rfl⟩
        rw [Vp.run_bind_is h4, Vp.run_ret] at h
        cases h
        have H4 := Lib.hid h4
        clear h4
        obtain ⟨x, n, hx⟩ : ∃ x n, mk c = (x, n) := ⟨_, _, rfl⟩
        have cG := HK.out.1.call
        have HX := Lib.hid hx
        have HG := Lib.hid (fun W => cG W c)
        rw [hx]
        rw [hx] at HG
        clear cG hx
        go_enter Try.func44, Try.ntmps44
        go_upto_region 5 with (first | ((with_reducible refine (cI.out _).mono ?_); rintro e w1 ⟨rfl, rfl⟩) | ((with_reducible refine c2.mono ?_); clear c2; rintro e w2 ⟨rfl, hm2, ho2⟩) | ((with_reducible refine (dhas_is HV.out hm2 H3.out).mono ?_); clear hm2; rintro e w3 ⟨rfl, hm3, ho3⟩))
        have c4 := ccap_is HV.out hm3 H4.out
        clear hm3
        go_wp2_with fail
        (with_reducible refine c4.mono ?_)
        clear c4
        rintro e w4 ⟨rfl, hm4, ho4⟩
        have hq := HK.out.1.keep _ _ HK.out.2 ((ho2.trans ho3).trans ho4)
        go_wp2_with fail
        (with_reducible refine (HG.out _ hq).mono ?_)
        rintro e w5 ⟨rfl, ho5⟩
        have hb2 := ho5.blk (HB.out _ _ (HB.out _ _ (HB.out _ _ hb0 ho2) ho3) ho4) (by simp)
        have ho := (((ho0.trans ho2).trans ho3).trans ho4).trans (ho5.more (S' := S) (fun _ _ hx => absurd hx List.not_mem_nil))
        have hm5 := HV.out.only0 hm4 ho5
        have hz := hb2.lt
        have f0 : w5.frozen? ⟨w.heap.size, 0, none⟩ = false := hb2.frozen 0
        have f1 : w5.frozen? ⟨w.heap.size, 1, none⟩ = false := hb2.frozen 1
        have f2 : w5.frozen? ⟨w.heap.size, 2, none⟩ = false := hb2.frozen 2
        have f3 : w5.frozen? ⟨w.heap.size, 3, none⟩ = false := hb2.frozen 3
        have f4 : w5.frozen? ⟨w.heap.size, 4, none⟩ = false := hb2.frozen 4
        have f5 : w5.frozen? ⟨w.heap.size, 5, none⟩ = false := hb2.frozen 5
        obtain ⟨k0, k1, k2, k3, k4, k5⟩ := hb2.cap
        have HH := Lib.hid (And.intro hm5 ho)
        clear hm4 hm5 ho2 ho3 ho4 ho5 hb2 ho hb0 ho0 hq
        go_wp2_with fail
        refine bodyPost_ret (v := .tuple #[x.v, errV n]) (by simp [results, Try.results44, go_sem, k0, k1, k2, k3, k4, k5]) rfl ⟨rfl, ?_, ?_⟩
        · exact HV.out.put (HV.out.put (HV.out.put (HV.out.put (HV.out.put (HV.out.put HH.out.1 hR _ _) hR _ _) hR _ _) hR _ _) hR _ _) hR _ _
        · exact (((((HH.out.2.setCell (.inr (Nat.le_refl _)) _).setCell (.inr (Nat.le_refl _)) _).setCell (.inr (Nat.le_refl _)) _).setCell (.inr (Nat.le_refl _)) _).setCell (.inr (Nat.le_refl _)) _).setCell (.inr (Nat.le_refl _)) _
end
end Go.Proofs.Ytlhcigpllkigdaa
