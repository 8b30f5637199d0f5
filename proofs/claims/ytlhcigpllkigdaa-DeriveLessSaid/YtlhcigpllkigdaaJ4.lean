/- What is, told, tell, Parent, nowhere of package cdt answer and do (layer 10), of any view. -/
import Derived.Test.YtlhcigpllkigdaaJ2
import Derived.Test.YtlhcigpllkigdaaJ1
namespace Go.Proofs.Ytlhcigpllkigdaa
open Go.RowKit
theorem cis_any (i : Int) (w : World) : Calls Try.prog 42 #[.int .i64 i] w fun e w' => e = .returned (.bool (slotB i 0)) ∧ w' = w := by
  go_enter Try.func42, Try.ntmps42
  go_wp2_with (go_at_call 16; (with_reducible refine (slot_any _ _ _).mono ?_); rintro e w' ⟨rfl, rfl⟩)
  go_ret
  exact ⟨rfl, rfl⟩
theorem cis_is {i : Int} {q : Bool} (h : slotB i 0 = q) (w : World) : Calls Try.prog 42 #[.int .i64 i] w fun e w' => e = .returned (.bool q) ∧ w = w' := h ▸ (cis_any i w).mono fun _ _ ⟨he, hw⟩ => ⟨he, hw.symm⟩
abbrev PlT : TypeId := 87
abbrev plArr (a b c : Int) : Array Value := #[.int .i64 a, .int .i64 b, .int .i64 c]
theorem nowhere_any (w : World) : Calls Try.prog 51 #[] w fun e w' => e = .returned (.agg (plArr (-1) (-1) (-1))) ∧ Only [] w w' := by
  go_enter Try.func51, Try.ntmps51
  go_wp2
  refine bodyPost_ret (v := .agg (plArr (-1) (-1) (-1))) (by simp [results, Try.results51, go_sem, plArr]) rfl ⟨rfl, (Only.refl _ _).alloc _⟩
section
variable {σ : Type} {M : Mach σ} {T : TypeId} {v : Value} {fR fW : FuncId} {Mem : World → σ → Prop} {Ok : σ → Prop} {S R : List Nat} {w : World} {s : σ}
theorem told_any (V : VOk M T v fR fW Mem Ok S R) (hm : Mem w s) (i f : Int) :
    Calls Try.prog 43 #[.iface T v, .int .i64 i, .int .i64 f] w fun e w' => e = .returned (.int .i64 ((toldP i f).run M s).1) ∧ Mem w' ((toldP i f).run M s).2 ∧ Only S w w' := by
  have mR := V.mR
  have nR := V.nR
  have eR := V.eR
  unfold toldP
  obtain ⟨a, ha⟩ : ∃ a, slotI i f = a := ⟨_, rfl⟩
  cases hb : slotB i f with
  | false =>
    have cO := Lib.hid (slot_is ha hb)
    clear hb ha
    go_enter Try.func43, Try.ntmps43
    go_wp2_with (go_at_call 16; (with_reducible refine (cO.out _).mono ?_); rintro e w' ⟨rfl, rfl⟩)
    go_ret
    exact ⟨rfl, hm, Only.refl _ _⟩
  | true =>
    rw [Vp.run_yes rfl, Vp.run_rd, Vp.run_ret, ha]
    have hr := V.rng s a (V.ok w s hm)
    have cR := V.rd w s a hm
    obtain ⟨x, s1, hrd⟩ : ∃ x s1, M.rd s a = (x, s1) := ⟨_, _, rfl⟩
    rw [hrd] at hr cR ⊢
    have cO := Lib.hid (slot_is ha hb)
    have h0 : 0 ≤ x := hr.1
    have h1 : x ≤ 18446744073709551615 := hr.2
    clear hb ha hm hrd hr
    by_cases hx : 96 < x
    · have HN : Hid (toldI x = -1) := Lib.hid (by simp [toldI, hx])
      go_enter Try.func43, Try.ntmps43
      go_wp2_with (first | (go_at_call 16; (with_reducible refine (cO.out _).mono ?_); rintro e w' ⟨rfl, rfl⟩) | ((with_reducible refine cR.mono ?_); clear cR; rintro e w1 ⟨rfl, hm1, ho1⟩))
      go_ret
      exact ⟨by rw [HN.out]; rfl, hm1, ho1⟩
    · have HN : Hid (toldI x = x - 1) := Lib.hid (by simp [toldI, hx])
      have hx' : x ≤ 96 := by omega
      clear hx
      go_enter Try.func43, Try.ntmps43
      go_wp2_with (first | (go_at_call 16; (with_reducible refine (cO.out _).mono ?_); rintro e w' ⟨rfl, rfl⟩) | ((with_reducible refine cR.mono ?_); clear cR; rintro e w1 ⟨rfl, hm1, ho1⟩))
      go_ret
      exact ⟨by rw [HN.out]; go_num, hm1, ho1⟩
theorem told_is (V : VOk M T v fR fW Mem Ok S R) (hm : Mem w s) {i f x : Int} {s1 : σ} (h : (toldP i f).run M s = (x, s1)) :
    Calls Try.prog 43 #[.iface T v, .int .i64 i, .int .i64 f] w fun e w' => e = .returned (.int .i64 x) ∧ Mem w' s1 ∧ Only S w w' := by
  have q := told_any V hm i f
  rwa [h] at q
theorem told_rng (V : VOk M T v fR fW Mem Ok S R) (hs : Ok s) {i f x : Int} {s1 : σ} (h : (toldP i f).run M s = (x, s1)) : -1 ≤ x ∧ x ≤ 95 := by
  unfold toldP at h
  split at h
  · rw [Vp.run_rd, Vp.run_ret] at h
    cases h
    exact toldI_rng (V.rng s _ hs)
  · cases h
    omega
theorem cparent_is (V : VOk M T v fR fW Mem Ok S R) (hm : Mem w s) {i x : Int} {s1 : σ} (h : (toldP i 1).run M s = (x, s1)) :
    Calls Try.prog 57 #[.iface T v, .int .i64 i] w fun e w' => e = .returned (.int .i64 x) ∧ Mem w' s1 ∧ Only S w w' := by
  have c := told_is V hm h
  clear hm
  go_enter Try.func57, Try.ntmps57
  go_wp2_with (go_at_call 43; (with_reducible refine c.mono ?_); clear c; rintro e w1 ⟨rfl, hm1, ho1⟩)
  go_ret
  exact ⟨rfl, hm1, ho1⟩
theorem tell_is (V : VOk M T v fR fW Mem Ok S R) (hm : Mem w s) {i f n : Int} {s1 : σ} (h0 : -1 ≤ n) (h1 : n ≤ 95) (h : (tellP i f n).run M s = ((), s1)) :
    Calls Try.prog 58 #[.iface T v, .int .i64 i, .int .i64 f, .int .i64 n] w fun e w' => e = .returned (.tuple #[]) ∧ Mem w' s1 ∧ Only S w w' := by
  have mW := V.mW
  have nW := V.nW
  have eW := V.eW
  unfold tellP at h
  obtain ⟨a, ha⟩ : ∃ a, slotI i f = a := ⟨_, rfl⟩
  cases hb : slotB i f with
  | false =>
    rw [hb, Vp.run_no (by simp), Vp.run_ret] at h
    cases h
    have cO := Lib.hid (slot_is ha hb)
    clear hb ha
    go_enter Try.func58, Try.ntmps58
    go_wp2_with (go_at_call 16; (with_reducible refine (cO.out _).mono ?_); rintro e w' ⟨rfl, rfl⟩)
    go_end0
    exact ⟨rfl, hm, Only.refl _ _⟩
  | true =>
    rw [hb, Vp.run_yes rfl, Vp.run_wr, Vp.run_ret, ha] at h
    have cW := V.wr w s a (n + 1) hm ⟨by omega, by omega⟩
    rw [show M.wr s a (n + 1) = s1 from by cases h; rfl] at cW
    have cO := Lib.hid (slot_is ha hb)
    clear hb ha hm h
    go_enter Try.func58, Try.ntmps58
    go_wp2_with (first | (go_at_call 16; (with_reducible refine (cO.out _).mono ?_); rintro e w' ⟨rfl, rfl⟩) | ((with_reducible refine cW.mono ?_); clear cW; rintro e w1 ⟨rfl, hm1, ho1⟩))
    go_end0
    exact ⟨rfl, hm1, ho1⟩
end
end Go.Proofs.Ytlhcigpllkigdaa
/- What stand, placeOf, beside of package cdt do and answer (layer 10), to any view: where a slot stands. -/
namespace Go.Proofs.Ytlhcigpllkigdaa
open Go.RowKit
/-- a place's three cells -/
theorem Blk.three {w : World} {g : Nat} {a b c : Int} (h : Blk w g PlT (plArr a b c)) : w.cell? ⟨g, 0, none⟩ = some (.int .i64 a) ∧ w.cell? ⟨g, 1, none⟩ = some (.int .i64 b) ∧ w.cell? ⟨g, 2, none⟩ = some (.int .i64 c) := ⟨h.cell 0, h.cell 1, h.cell 2⟩
section
variable {σ : Type} {M : Mach σ} {T : TypeId} {v : Value} {fR fW : FuncId} {Mem : World → σ → Prop} {Ok : σ → Prop} {S R : List Nat} {w : World} {s : σ}
theorem stand_is (V : VOk M T v fR fW Mem Ok S R) (hm : Mem w s) {i a b c : Int} {s1 : σ} (ha : -1 ≤ a ∧ a ≤ 95) (hb : -1 ≤ b ∧ b ≤ 95) (hc : -1 ≤ c ∧ c ≤ 95) (h : (standP i a b c).run M s = ((), s1)) :
    Calls Try.prog 50 #[.iface T v, .int .i64 i, .agg (plArr a b c)] w fun e w' => e = .returned (.tuple #[]) ∧ Mem w' s1 ∧ Only S w w' := by
  unfold standP at h
  obtain ⟨sa, h1⟩ : ∃ sa, (tellP i 1 a).run M s = ((), sa) := ⟨_, rfl⟩
  rw [Vp.run_bind_is h1] at h
  obtain ⟨sb, h2⟩ : ∃ sb, (tellP i 3 b).run M sa = ((), sb) := ⟨_, rfl⟩
  rw [Vp.run_bind_is h2] at h
  have hg := V.freshS hm (Nat.le_refl w.heap.size)
  have hb0 := Blk.new w PlT (plArr a b c)
  have hm0 := V.only0 hm ((Only.refl [] w).alloc (.cells (plArr a b c) PlT))
  have c1 := tell_is V hm0 ha.1 ha.2 h1
  have K : ∀ {W W' : World}, Blk W w.heap.size PlT (plArr a b c) → Only S W W' → Blk W' w.heap.size PlT (plArr a b c) := fun q o => o.blk q hg
  have HK := Lib.hid (fun W W' => @K W W')
  have HV := Lib.hid V
  have H2 := Lib.hid h2
  have H3 := Lib.hid h
  have HA := Lib.hid (And.intro ha (And.intro hb hc))
  clear h1 h2 h hm hm0 hg K ha hb hc V
  go_enter Try.func50, Try.ntmps50
  go_wp2_with fail
  (with_reducible refine c1.mono ?_)
  clear c1
  rintro e w1 ⟨rfl, hm1, ho1⟩
  have hb1 := HK.out _ _ hb0 ho1
  obtain ⟨k0, k1, k2⟩ := hb1.three
  have c2 := tell_is HV.out hm1 HA.out.2.1.1 HA.out.2.1.2 H2.out
  go_wp2_with fail
  (with_reducible refine c2.mono ?_)
  clear c2 k0 k1 k2
  rintro e w2 ⟨rfl, hm2, ho2⟩
  have hb2 := HK.out _ _ hb1 ho2
  obtain ⟨k0, k1, k2⟩ := hb2.three
  have c3 := tell_is HV.out hm2 HA.out.2.2.1 HA.out.2.2.2 H3.out
  go_wp2_with fail
  (with_reducible refine c3.mono ?_)
  clear c3 k0 k1 k2
  rintro e w3 ⟨rfl, hm3, ho3⟩
  go_wp2_with fail
  go_end0
  exact ⟨rfl, hm3, ((((Only.refl _ _).alloc _).trans ho1).trans ho2).trans ho3⟩
theorem told_ok (V : VOk M T v fR fW Mem Ok S R) (hs : Ok s) {i f x : Int} {s1 : σ} (h : (toldP i f).run M s = (x, s1)) : Ok s1 := by
  unfold toldP at h
  split at h
  · rw [Vp.run_rd, Vp.run_ret] at h
    cases h
    exact V.okR s _ hs
  · cases h
    exact hs
theorem place_is (V : VOk M T v fR fW Mem Ok S R) (hm : Mem w s) {i a b c : Int} {s1 : σ} (h : (placeP i).run M s = ((a, b, c), s1)) :
    Calls Try.prog 48 #[.iface T v, .int .i64 i] w fun e w' => e = .returned (.agg (plArr a b c)) ∧ Mem w' s1 ∧ Only S w w' := by
  unfold placeP at h
  have hg := V.freshS hm (Nat.le_refl w.heap.size)
  have HR := Lib.hid (V.fresh hm (Nat.le_refl w.heap.size))
  have HF : ∀ {W W' : World}, Blk W w.heap.size PlT (plArr 0 0 0) → Only S W W' → Blk W' w.heap.size PlT (plArr 0 0 0) := fun q o => o.blk q hg
  have hb0 := Blk.new w PlT (plArr 0 0 0)
  have hm0 := V.only0 hm ((Only.refl [] w).alloc (.cells (plArr 0 0 0) PlT))
  obtain ⟨p, sa, h1⟩ : ∃ p sa, (toldP i 1).run M s = (p, sa) := ⟨_, _, rfl⟩
  rw [Vp.run_bind_is h1] at h
  have c1 := cparent_is V hm0 h1
  have HK := Lib.hid (fun W W' => @HF W W')
  have HV := Lib.hid V
  clear HF hg h1 hm hm0 V
  by_cases hp : p = -1
  · rw [Vp.run_yes hp, Vp.run_ret] at h
    cases h
    subst hp
    go_enter Try.func48, Try.ntmps48
    go_wp2_with fail
    (with_reducible refine c1.mono ?_)
    clear c1
    rintro e w1 ⟨rfl, hm1, ho1⟩
    have hb1 := HK.out _ _ hb0 ho1
    go_wp2_with fail
    (with_reducible refine (nowhere_any _).mono ?_)
    rintro e w2 ⟨rfl, ho2⟩
    have hb2 := ho2.blk hb1 (by simp)
    have f0 : w2.frozen? ⟨w.heap.size, 0, none⟩ = false := hb2.frozen 0
    have f1 : w2.frozen? ⟨w.heap.size, 1, none⟩ = false := hb2.frozen 1
    have f2 : w2.frozen? ⟨w.heap.size, 2, none⟩ = false := hb2.frozen 2
    obtain ⟨k0, k1, k2⟩ := hb2.three
    have hm2 := HV.out.only0 hm1 ho2
    have ho := (((Only.refl S w).alloc (.cells (plArr 0 0 0) PlT)).trans ho1).trans (ho2.more (S' := S) (fun _ _ hx => absurd hx List.not_mem_nil))
    clear hm1 ho1 ho2 hb0 hb1 hb2
    go_wp2_with fail
    refine bodyPost_ret (v := .agg (plArr (-1) (-1) (-1))) (by simp [results, Try.results48, go_sem, k0, k1, k2, plArr]) rfl ⟨rfl, ?_, ?_⟩
    · exact HV.out.put (HV.out.put (HV.out.put hm2 HR.out _ _) HR.out _ _) HR.out _ _
    · exact ((ho.setCell (.inr (Nat.le_refl _)) _).setCell (.inr (Nat.le_refl _)) _).setCell (.inr (Nat.le_refl _)) _
  · rw [Vp.run_no hp] at h
    obtain ⟨n, sb, h2⟩ : ∃ n sb, (toldP i 3).run M sa = (n, sb) := ⟨_, _, rfl⟩
    rw [Vp.run_bind_is h2] at h
    obtain ⟨q, sc, h3⟩ : ∃ q sc, (toldP i 4).run M sb = (q, sc) := ⟨_, _, rfl⟩
    rw [Vp.run_bind_is h3, Vp.run_ret] at h
    cases h
    have H2 := Lib.hid h2
    have H3 := Lib.hid h3
    clear h2 h3
    go_enter Try.func48, Try.ntmps48
    go_wp2_with fail
    (with_reducible refine c1.mono ?_)
    clear c1
    rintro e w1 ⟨rfl, hm1, ho1⟩
    have hb1 := HK.out _ _ hb0 ho1
    have c2 := told_is HV.out hm1 H2.out
    go_wp2_with fail
    (with_reducible refine c2.mono ?_)
    clear c2
    rintro e w2 ⟨rfl, hm2, ho2⟩
    have hb2 := HK.out _ _ hb1 ho2
    have c3 := told_is HV.out hm2 H3.out
    go_wp2_with fail
    (with_reducible refine c3.mono ?_)
    clear c3
    rintro e w3 ⟨rfl, hm3, ho3⟩
    have hb3 := HK.out _ _ hb2 ho3
    have f0 : w3.frozen? ⟨w.heap.size, 0, none⟩ = false := hb3.frozen 0
    have f1 : w3.frozen? ⟨w.heap.size, 1, none⟩ = false := hb3.frozen 1
    have f2 : w3.frozen? ⟨w.heap.size, 2, none⟩ = false := hb3.frozen 2
    obtain ⟨k0, k1, k2⟩ := hb3.three
    have ho := ((((Only.refl S w).alloc (.cells (plArr 0 0 0) PlT)).trans ho1).trans ho2).trans ho3
    clear hm1 ho1 ho2 hb0 hb1 hb2 ho3
    go_wp2_with fail
    refine bodyPost_ret (v := .agg (plArr _ _ _)) (by simp [results, Try.results48, go_sem, k0, k1, k2, plArr]) rfl ⟨rfl, ?_, ?_⟩
    · exact HV.out.put (HV.out.put (HV.out.put hm3 HR.out _ _) HR.out _ _) HR.out _ _
    · exact ((ho.setCell (.inr (Nat.le_refl _)) _).setCell (.inr (Nat.le_refl _)) _).setCell (.inr (Nat.le_refl _)) _
theorem place_rng (V : VOk M T v fR fW Mem Ok S R) (hs : Ok s) {i a b c : Int} {s1 : σ} (h : (placeP i).run M s = ((a, b, c), s1)) : (-1 ≤ a ∧ a ≤ 95) ∧ (-1 ≤ b ∧ b ≤ 95) ∧ (-1 ≤ c ∧ c ≤ 95) := by
  unfold placeP at h
  obtain ⟨p, sa, h1⟩ : ∃ p sa, (toldP i 1).run M s = (p, sa) := ⟨_, _, rfl⟩
  rw [Vp.run_bind_is h1] at h
  have r1 := told_rng V hs h1
  by_cases hp : p = -1
  · rw [Vp.run_yes hp, Vp.run_ret] at h
    cases h
    omega
  · rw [Vp.run_no hp] at h
    have hs1 := told_ok V hs h1
    obtain ⟨n, sb, h2⟩ : ∃ n sb, (toldP i 3).run M sa = (n, sb) := ⟨_, _, rfl⟩
    rw [Vp.run_bind_is h2] at h
    have r2 := told_rng V hs1 h2
    have hs2 := told_ok V hs1 h2
    obtain ⟨q, sc, h3⟩ : ∃ q sc, (toldP i 4).run M sb = (q, sc) := ⟨_, _, rfl⟩
    rw [Vp.run_bind_is h3, Vp.run_ret] at h
    have r3 := told_rng V hs2 h3
    cases h
    exact ⟨r1, r2, r3⟩
theorem place_ok (V : VOk M T v fR fW Mem Ok S R) (hs : Ok s) {i : Int} {u : Int × Int × Int} {s1 : σ} (h : (placeP i).run M s = (u, s1)) : Ok s1 := by
  unfold placeP at h
  obtain ⟨p, sa, h1⟩ : ∃ p sa, (toldP i 1).run M s = (p, sa) := ⟨_, _, rfl⟩
  rw [Vp.run_bind_is h1] at h
  have hs1 := told_ok V hs h1
  by_cases hp : p = -1
  · rw [Vp.run_yes hp, Vp.run_ret] at h
    cases h
    exact hs1
  · rw [Vp.run_no hp] at h
    obtain ⟨n, sb, h2⟩ : ∃ n sb, (toldP i 3).run M sa = (n, sb) := ⟨_, _, rfl⟩
    rw [Vp.run_bind_is h2] at h
    have hs2 := told_ok V hs1 h2
    obtain ⟨q, sc, h3⟩ : ∃ q sc, (toldP i 4).run M sb = (q, sc) := ⟨_, _, rfl⟩
    rw [Vp.run_bind_is h3, Vp.run_ret] at h
    have hs3 := told_ok V hs2 h3
    cases h
    exact hs3
theorem beside_is (V : VOk M T v fR fW Mem Ok S R) (hm : Mem w s) {p n q nx pv : Int} {s1 : σ} (ha : -1 ≤ nx ∧ nx ≤ 95) (hb : -1 ≤ pv ∧ pv ≤ 95) (h : (besideP p n q nx pv).run M s = ((), s1)) :
    Calls Try.prog 49 #[.iface T v, .agg (plArr p n q), .int .i64 nx, .int .i64 pv] w fun e w' => e = .returned (.tuple #[]) ∧ Mem w' s1 ∧ Only S w w' := by
  unfold besideP at h
  have hg := V.freshS hm (Nat.le_refl w.heap.size)
  have hb0 := Blk.new w PlT (plArr p n q)
  have hm0 := V.only0 hm ((Only.refl [] w).alloc (.cells (plArr p n q) PlT))
  have K : ∀ {W W' : World}, Blk W w.heap.size PlT (plArr p n q) → Only S W W' → Blk W' w.heap.size PlT (plArr p n q) := fun u o => o.blk u hg
  have HK := Lib.hid (fun W W' => @K W W')
  have HV := Lib.hid V
  by_cases hq : q = -1
  · rw [if_pos hq] at h
    obtain ⟨sa, h1⟩ : ∃ sa, (tellP p 2 nx).run M s = ((), sa) := ⟨_, rfl⟩
    rw [Vp.run_bind_is h1] at h
    have c1 := tell_is V hm0 ha.1 ha.2 h1
    have HB := Lib.hid (And.intro hb h)
    clear h1 h hm hm0 hg K ha hb V
    subst hq
    go_enter Try.func49, Try.ntmps49
    go_wp2_with fail
    (with_reducible refine c1.mono ?_)
    clear c1
    rintro e w1 ⟨rfl, hm1, ho1⟩
    obtain ⟨k0, k1, k2⟩ := (HK.out _ _ hb0 ho1).three
    have c2 := tell_is HV.out hm1 HB.out.1.1 HB.out.1.2 HB.out.2
    go_wp2_with fail
    (with_reducible refine c2.mono ?_)
    clear c2 k0 k1 k2
    rintro e w2 ⟨rfl, hm2, ho2⟩
    go_wp2_with fail
    go_end0
    exact ⟨rfl, hm2, (((Only.refl _ _).alloc _).trans ho1).trans ho2⟩
  · rw [if_neg hq] at h
    obtain ⟨sa, h1⟩ : ∃ sa, (tellP q 3 nx).run M s = ((), sa) := ⟨_, rfl⟩
    rw [Vp.run_bind_is h1] at h
    have c1 := tell_is V hm0 ha.1 ha.2 h1
    have HB := Lib.hid (And.intro hb h)
    clear h1 h hm hm0 hg K ha hb V
    have hq' : (q == -1) = false := by simp [hq]
    clear hq
    go_enter Try.func49, Try.ntmps49
    go_wp2_with fail
    (with_reducible refine c1.mono ?_)
    clear c1
    rintro e w1 ⟨rfl, hm1, ho1⟩
    obtain ⟨k0, k1, k2⟩ := (HK.out _ _ hb0 ho1).three
    have c2 := tell_is HV.out hm1 HB.out.1.1 HB.out.1.2 HB.out.2
    go_wp2_with fail
    (with_reducible refine c2.mono ?_)
    clear c2 k0 k1 k2
    rintro e w2 ⟨rfl, hm2, ho2⟩
    go_wp2_with fail
    go_end0
    exact ⟨rfl, hm2, (((Only.refl _ _).alloc _).trans ho1).trans ho2⟩
end
end Go.Proofs.Ytlhcigpllkigdaa
