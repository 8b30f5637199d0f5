/- 738 words of one's own, as they are made (layers 9 and up). -/
import Derived.Test.YtdkjfalhalepgaaJ3
import Derived.Test.YtdkjfalhalepgaaJ14
import Derived.Test.YtdkjfalhalepgaaCsNode
import Derived.Test.YtdkjfalhalepgaaCsSet
import Derived.Test.YtdkjfalhalepgaaJ11
namespace Go.Proofs.Ytdkjfalhalepgaa
open Go.RowKit
abbrev PwT : TypeId := 27
/-- the cells of 738 zeros -/
def zerosA : Array Value := flat u64row (List.replicate 738 0)
theorem memP_new (W : World) : MemP W.heap.size 738 UT (W.alloc (.cells zerosA UT)) zeros := ⟨zeros_len, rowU_flat (Blk.new W UT zerosA), zeros_us⟩
theorem MemP.blkG {g n : Nat} {w : World} {L : List Int} (h : MemP g n UT w L) : ∃ cur, Blk w g UT cur := by
  obtain ⟨cur, hb, -⟩ := h.row
  exact ⟨cur, hb⟩
end Go.Proofs.Ytdkjfalhalepgaa
/- What package tcb's calls do (layer 17), to any view. -/
namespace Go.Proofs.Ytdkjfalhalepgaa
open Go.RowKit
section
variable {σ : Type} {M : Mach σ} {T : TypeId} {v : Value} {fR fW : FuncId} {Mem : World → σ → Prop} {Ok : σ → Prop} {S R : List Nat} {w : World} {s : σ}
theorem tis_is (V : VOk M T v fR fW Mem Ok S R) (hm : Mem w s) {t : Int} {q : Bool} {s1 : σ} (h : (isP t 5).run M s = (q, s1)) :
    Calls Try.prog 36 #[.iface T v, .int .i64 t] w fun e w' => e = .returned (.bool q) ∧ Mem w' s1 ∧ Only S w w' := by
  have c := is_is V hm (by decide) h
  clear h hm
  go_enter Try.func36, Try.ntmps36
  go_wp2_with ((with_reducible refine c.mono ?_); clear c; rintro e w1 ⟨rfl, hm1, ho1⟩)
  go_ret
  exact ⟨rfl, hm1, ho1⟩
theorem tprio_in (V : VOk M T v fR fW Mem Ok S R) (hm : Mem w s) {t x : Int} {s1 : σ} (h : (tprioP t).run M s = (x, s1)) : 0 ≤ x ∧ x ≤ 255 := by
  unfold tprioP at h
  obtain ⟨n, s2, h2⟩ : ∃ n s2, (fieldP t 5).run M s = (n, s2) := ⟨_, _, rfl⟩
  rw [Vp.run_bind_is h2, Vp.run_ret] at h
  have := field_in V hm h2
  cases h
  omega
theorem tprio_is (V : VOk M T v fR fW Mem Ok S R) (hm : Mem w s) {t x : Int} {s1 : σ} (h : (tprioP t).run M s = (x, s1)) :
    Calls Try.prog 44 #[.iface T v, .int .i64 t] w fun e w' => e = .returned (.int .i64 x) ∧ Mem w' s1 ∧ Only S w w' := by
  unfold tprioP at h
  obtain ⟨n, s2, h2⟩ : ∃ n s2, (fieldP t 5).run M s = (n, s2) := ⟨_, _, rfl⟩
  rw [Vp.run_bind_is h2, Vp.run_ret] at h
  obtain ⟨hn0, hn1⟩ := field_in V hm h2
  have c := field_is V hm h2
  have hx := Int.tmod_eq_emod_of_nonneg (b := 256) hn0
  cases h
  clear h2 hm V
  go_enter Try.func44, Try.ntmps44
  go_wp2_with ((with_reducible refine c.mono ?_); clear c; rintro e w1 ⟨rfl, hm1, ho1⟩)
  go_ret
  exact ⟨rfl, hm1, ho1⟩
theorem vtsus_is (V : VOk M T v fR fW Mem Ok S R) (hm : Mem w s) {t x : Int} {s1 : σ} (h : (tsusP t).run M s = (x, s1)) (ht : (isP t 5).run M s ≠ (true, ((isP t 5).run M s).2) ∨ (0 ≤ t ∧ t ≤ 4611686018427387904)) :
    Calls Try.prog 9 #[.iface T v, .int .i64 t] w fun e w' => e = .returned (errV x) ∧ Mem w' s1 ∧ Only S w w' := by
  unfold tsusP at h
  obtain ⟨q, s2, h2⟩ : ∃ q s2, (isP t 5).run M s = (q, s2) := ⟨_, _, rfl⟩
  rw [Vp.run_bind_is h2] at h
  rw [h2] at ht
  have c := tis_is V hm h2
  have HV := Lib.hid V
  clear h2 hm V
  cases q with
  | false =>
    rw [if_neg (by simp), Vp.run_ret] at h
    cases h
    go_enter Try.func9, Try.ntmps9
    go_wp2_with ((with_reducible refine c.mono ?_); clear c; rintro e w1 ⟨rfl, hm1, ho1⟩)
    go_ret
    exact ⟨rfl, hm1, ho1⟩
  | true =>
    have ht' : 0 ≤ t ∧ t ≤ 4611686018427387904 := ht.elim (fun e => absurd rfl e) id
    rw [if_pos rfl] at h
    obtain ⟨n, s3, h3⟩ : ∃ q s3, (fieldP t 1).run M s2 = (q, s3) := ⟨_, _, rfl⟩
    rw [Vp.run_bind_is h3] at h
    have H3 := Lib.hid h3
    clear h3 ht
    by_cases hn : n = 0
    · subst hn
      rw [if_pos rfl, Vp.run_ret] at h
      cases h
      go_enter Try.func9, Try.ntmps9
      go_wp2_with ((with_reducible refine c.mono ?_); clear c; rintro e w1 ⟨rfl, hm1, ho1⟩)
      have c := estt_is HV.out hm1 H3.out
      (with_reducible refine c.mono ?_)
      clear c
      rintro e w2 ⟨rfl, hm2, ho2⟩
      go_wp2_with fail
      go_ret
      exact ⟨rfl, hm2, ho1.trans ho2⟩
    · rw [if_neg hn] at h
      obtain ⟨s4, h4⟩ : ∃ s4, (ecancP t).run M s3 = ((), s4) := ⟨_, rfl⟩
      rw [Vp.run_bind_is h4, Vp.run_ret] at h
      cases h
      have H4 := Lib.hid h4
      clear h4
      go_enter Try.func9, Try.ntmps9
      go_wp2_with ((with_reducible refine c.mono ?_); clear c; rintro e w1 ⟨rfl, hm1, ho1⟩)
      have c := estt_is HV.out hm1 H3.out
      (with_reducible refine c.mono ?_)
      clear c
      rintro e w2 ⟨rfl, hm2, ho2⟩
      have c := ecanc_is HV.out hm2 ht'.1 ht'.2 H4.out
      go_wp2_with fail
      (with_reducible refine c.mono ?_)
      clear c
      rintro e w3 ⟨rfl, hm3, ho3⟩
      go_wp2_with fail
      go_ret
      exact ⟨rfl, hm3, (ho1.trans ho2).trans ho3⟩
theorem vtres_is (V : VOk M T v fR fW Mem Ok S R) (hm : Mem w s) {t x : Int} {s1 : σ} (h : (tresP t).run M s = (x, s1)) :
    Calls Try.prog 11 #[.iface T v, .int .i64 t] w fun e w' => e = .returned (errV x) ∧ Mem w' s1 ∧ Only S w w' := by
  unfold tresP at h
  obtain ⟨q, s2, h2⟩ : ∃ q s2, (isP t 5).run M s = (q, s2) := ⟨_, _, rfl⟩
  rw [Vp.run_bind_is h2] at h
  have c := tis_is V hm h2
  have HV := Lib.hid V
  clear h2 hm V
  cases q with
  | false =>
    rw [if_neg (by simp), Vp.run_ret] at h
    cases h
    go_enter Try.func11, Try.ntmps11
    go_wp2_with ((with_reducible refine c.mono ?_); clear c; rintro e w1 ⟨rfl, hm1, ho1⟩)
    go_ret
    exact ⟨rfl, hm1, ho1⟩
  | true =>
    rw [if_pos rfl] at h
    obtain ⟨n, s3, h3⟩ : ∃ q s3, (fieldP t 1).run M s2 = (q, s3) := ⟨_, _, rfl⟩
    rw [Vp.run_bind_is h3] at h
    have H3 := Lib.hid h3
    clear h3
    by_cases hn : n = 0
    · subst hn
      rw [if_pos rfl] at h
      obtain ⟨s4, h4⟩ : ∃ s4, (ewakeP t 0 0).run M s3 = ((), s4) := ⟨_, rfl⟩
      rw [Vp.run_bind_is h4, Vp.run_ret] at h
      cases h
      have H4 := Lib.hid h4
      clear h4
      go_enter Try.func11, Try.ntmps11
      go_wp2_with ((with_reducible refine c.mono ?_); clear c; rintro e w1 ⟨rfl, hm1, ho1⟩)
      have c := estt_is HV.out hm1 H3.out
      (with_reducible refine c.mono ?_)
      clear c
      rintro e w2 ⟨rfl, hm2, ho2⟩
      have c := ewk_is HV.out hm2 (by decide) (by decide) H4.out
      go_wp2_with fail
      (with_reducible refine c.mono ?_)
      clear c
      rintro e w3 ⟨rfl, hm3, ho3⟩
      go_wp2_with fail
      go_ret
      exact ⟨rfl, hm3, (ho1.trans ho2).trans ho3⟩
    · rw [if_neg hn, Vp.run_ret] at h
      cases h
      go_enter Try.func11, Try.ntmps11
      go_wp2_with ((with_reducible refine c.mono ?_); clear c; rintro e w1 ⟨rfl, hm1, ho1⟩)
      have c := estt_is HV.out hm1 H3.out
      (with_reducible refine c.mono ?_)
      clear c
      rintro e w2 ⟨rfl, hm2, ho2⟩
      go_wp2_with fail
      go_ret
      exact ⟨rfl, hm2, ho1.trans ho2⟩
theorem vtpri_is (V : VOk M T v fR fW Mem Ok S R) (hm : Mem w s) {t n x : Int} {s1 : σ} (h : (tpriP t n).run M s = (x, s1)) :
    Calls Try.prog 13 #[.iface T v, .int .i64 t, .int .i64 n] w fun e w' => e = .returned (errV x) ∧ Mem w' s1 ∧ Only S w w' := by
  unfold tpriP at h
  obtain ⟨q, s2, h2⟩ : ∃ q s2, (isP t 5).run M s = (q, s2) := ⟨_, _, rfl⟩
  rw [Vp.run_bind_is h2] at h
  have c := tis_is V hm h2
  have HV := Lib.hid V
  clear h2 hm V
  cases q with
  | false =>
    rw [if_neg (by simp), Vp.run_ret] at h
    cases h
    go_enter Try.func13, Try.ntmps13
    go_wp2_with ((with_reducible refine c.mono ?_); clear c; rintro e w1 ⟨rfl, hm1, ho1⟩)
    go_ret
    exact ⟨rfl, hm1, ho1⟩
  | true =>
    rw [if_pos rfl] at h
    by_cases h0 : n < 0
    · rw [if_pos (.inl h0), Vp.run_ret] at h
      cases h
      go_enter Try.func13, Try.ntmps13
      go_wp2_with ((with_reducible refine c.mono ?_); clear c; rintro e w1 ⟨rfl, hm1, ho1⟩)
      go_ret
      exact ⟨rfl, hm1, ho1⟩
    by_cases h1 : 255 < n
    · rw [if_pos (.inr h1), Vp.run_ret] at h
      cases h
      go_enter Try.func13, Try.ntmps13
      go_wp2_with ((with_reducible refine c.mono ?_); clear c; rintro e w1 ⟨rfl, hm1, ho1⟩)
      go_ret
      exact ⟨rfl, hm1, ho1⟩
    rw [if_neg (by omega)] at h
    obtain ⟨y, s3, h3⟩ : ∃ q s3, (fieldP t 5).run M s2 = (q, s3) := ⟨_, _, rfl⟩
    rw [Vp.run_bind_is h3] at h
    obtain ⟨z, s4, h4⟩ : ∃ q s', (tprioP t).run M s3 = (q, s') := ⟨_, _, rfl⟩
    rw [Vp.run_bind_is h4] at h
    obtain ⟨s5, h5⟩ : ∃ s5, (putP t 5 (y - z + n)).run M s4 = ((), s5) := ⟨_, rfl⟩
    rw [Vp.run_bind_is h5, Vp.run_ret] at h
    cases h
    have H := Lib.hid (And.intro h3 (And.intro h4 h5))
    clear h3 h4 h5
    go_enter Try.func13, Try.ntmps13
    go_wp2_with ((with_reducible refine c.mono ?_); clear c; rintro e w1 ⟨rfl, hm1, ho1⟩)
    have c := field_is HV.out hm1 H.out.1
    obtain ⟨y0, y1⟩ := field_in HV.out hm1 H.out.1
    go_wp2_with fail
    (with_reducible refine c.mono ?_)
    clear c
    rintro e w2 ⟨rfl, hm2, ho2⟩
    have c := tprio_is HV.out hm2 H.out.2.1
    obtain ⟨z0, z1⟩ := tprio_in HV.out hm2 H.out.2.1
    have HO := Lib.hid (ho1.trans ho2)
    clear hm1 ho1 hm2 ho2
    go_wp2_with fail
    (with_reducible refine c.mono ?_)
    clear c
    rintro e w3 ⟨rfl, hm3, ho3⟩
    have c := put_is HV.out hm3 (by omega) H.out.2.2
    go_wp2_with fail
    (with_reducible refine c.mono ?_)
    clear c
    rintro e w4 ⟨rfl, hm4, ho4⟩
    go_wp2_with fail
    go_ret
    exact ⟨rfl, hm4, (HO.out.trans ho3).trans ho4⟩
end
end Go.Proofs.Ytdkjfalhalepgaa
/- What wordOf, capOf, SetRoot, Root of package tcb do (layer 17), to any view. -/
namespace Go.Proofs.Ytdkjfalhalepgaa
open Go.RowKit
theorem one_us {x : Int} (h : U64 x) : Us [x] := fun y hy => by
  rw [List.mem_singleton.1 hy]
  exact h
theorem one_cap {x : Int} : (capP 0).run machP [x] = (getC x, [x]) := by
  rw [capP_plain]
  rfl
theorem one_set {c : Cp} (h : c.may) : (csetP 0 c).run machP [0] = (0, [c.word]) := by
  unfold csetP
  rw [if_pos (slotB_yes.2 (by decide)), if_pos h, Vp.run_wrP, Vp.run_ret]
  rfl
theorem one_not {c : Cp} (h : ¬ c.may) : (csetP 0 c).run machP [0] = (1, [0]) := by
  unfold csetP
  rw [if_pos (slotB_yes.2 (by decide)), if_neg h, Vp.run_ret]
theorem memP_one (w : World) {x : Int} (h : U64 x) : MemP w.heap.size 1 UT (w.alloc (.cells #[.int .u64 x] UT)) [x] where
  len := rfl
  row := rowU_flat (Blk.new w UT #[.int .u64 x])
  us := one_us h
theorem u64_in {x : Int} (h0 : 0 ≤ x) (h1 : x ≤ 4611686018427387904) : U64 x := ⟨h0, by omega⟩
theorem twd_yes (w : World) {c : Cp} (h : c.may) :
    Calls Try.prog 45 #[c.v] w fun e w' => e = .returned (.tuple #[.int .i64 c.word, .bool true]) ∧ Only [] w w' := by
  obtain ⟨h0, h1⟩ := may_word h
  have e := one_set h
  have hm := memP_one (w.alloc (.cells c.arr CpT)) (x := 0) (u64_in (by decide) (by decide))
  rw [show (w.alloc (.cells c.arr CpT)).heap.size = w.heap.size + 1 by simp] at hm
  have cS := cset_is (viewP (w.heap.size + 1) 1 1 UT) hm e
  rw [errV_nil] at cS
  have o0 : Only [] w ((w.alloc (.cells c.arr CpT)).alloc (.cells #[.int .u64 0] UT)) := ((Only.refl [] w).alloc _).alloc _
  have HO := Lib.hid o0
  clear e hm h o0
  go_enter Try.func45, Try.ntmps45
  go_wp2_with fail
  (with_reducible refine cS.mono ?_)
  clear cS
  rintro e w1 ⟨rfl, hm1, ho1⟩
  have k0 : w1.cell? ⟨w.heap.size + 1, 0, none⟩ = some (.int .u64 c.word) := hm1.cell (m := 0) (by decide)
  have ho := HO.out.then ho1 (fun y hy => .inr (by simp at hy; omega))
  have hw : IntKind.i64.wrap c.word = c.word := IntWalk.i64_in _ (by omega)
  clear hm1 ho1
  go_wp2_with fail
  go_quiet (fail)
  go_wp2_with fail
  go_ret2
  exact ⟨rfl, ho.drewN _⟩
theorem twd_no (w : World) {c : Cp} (h : ¬ c.may) :
    Calls Try.prog 45 #[c.v] w fun e w' => e = .returned (.tuple #[.int .i64 0, .bool false]) ∧ Only [] w w' := by
  have e := one_not h
  have hm := memP_one (w.alloc (.cells c.arr CpT)) (x := 0) (u64_in (by decide) (by decide))
  rw [show (w.alloc (.cells c.arr CpT)).heap.size = w.heap.size + 1 by simp] at hm
  have cS := cset_is (viewP (w.heap.size + 1) 1 1 UT) hm e
  rw [show errV 1 = .iface 70 (.int .i64 1) from rfl] at cS
  have o0 : Only [] w ((w.alloc (.cells c.arr CpT)).alloc (.cells #[.int .u64 0] UT)) := ((Only.refl [] w).alloc _).alloc _
  have HO := Lib.hid o0
  clear e hm h o0
  go_enter Try.func45, Try.ntmps45
  go_wp2_with fail
  (with_reducible refine cS.mono ?_)
  clear cS
  rintro e w1 ⟨rfl, hm1, ho1⟩
  have k0 : w1.cell? ⟨w.heap.size + 1, 0, none⟩ = some (.int .u64 0) := hm1.cell (m := 0) (by decide)
  have ho := HO.out.then ho1 (fun y hy => .inr (by simp at hy; omega))
  clear hm1 ho1
  go_wp2_with fail
  go_quiet (fail)
  go_wp2_with fail
  go_ret2
  exact ⟨rfl, ho.drewN _⟩
theorem tcap_is (w : World) {x : Int} (h0 : 0 ≤ x) (h1 : x ≤ 4611686018427387904) :
    Calls Try.prog 64 #[.int .i64 x] w fun e w' => e = .returned (getC x).v ∧ Only [] w w' := by
  have hm := memP_one (w.alloc (.cells zeroA CpT)) (u64_in h0 h1)
  rw [show (w.alloc (.cells zeroA CpT)).heap.size = w.heap.size + 1 by simp] at hm
  have cS := ccap_is (viewP (w.heap.size + 1) 1 1 UT) hm (one_cap (x := x))
  have hb0 := (Blk.new w CpT zeroA).alloc (.cells #[.int .u64 x] UT)
  have HO := Lib.hid (And.intro hb0 (((Only.refl [] w).alloc (.cells zeroA CpT)).alloc (.cells #[.int .u64 x] UT)))
  have hw : IntKind.u64.wrap x = x := IntWalk.u64_in _ (by omega)
  clear hm hb0
  generalize getC x = c at *
  go_enter Try.func64, Try.ntmps64
  go_wp2_with fail
  (with_reducible refine cS.mono ?_)
  clear cS
  rintro e w1 ⟨rfl, hm1, ho1⟩
  have ho := HO.out.2.then ho1 (fun y hy => .inr (by simp at hy; omega))
  have hb1 := ho1.blk HO.out.1 (by simp)
  have f0 : w1.frozen? ⟨w.heap.size, 0, none⟩ = false := hb1.frozen 0
  have f1 : w1.frozen? ⟨w.heap.size, 1, none⟩ = false := hb1.frozen 1
  have f2 : w1.frozen? ⟨w.heap.size, 2, none⟩ = false := hb1.frozen 2
  have f3 : w1.frozen? ⟨w.heap.size, 3, none⟩ = false := hb1.frozen 3
  have f4 : w1.frozen? ⟨w.heap.size, 4, none⟩ = false := hb1.frozen 4
  have f5 : w1.frozen? ⟨w.heap.size, 5, none⟩ = false := hb1.frozen 5
  obtain ⟨k0, k1, k2, k3, k4, k5⟩ := hb1.cap
  have HH := Lib.hid ho
  clear hm1 ho1 hb1 ho
  go_wp2_with fail
  refine bodyPost_ret (v := c.v) (by simp [results, Try.results64, go_sem, k0, k1, k2, k3, k4, k5]) rfl ⟨rfl, ?_⟩
  exact (((((HH.out.setCell (.inr (Nat.le_refl _)) _).setCell (.inr (Nat.le_refl _)) _).setCell (.inr (Nat.le_refl _)) _).setCell (.inr (Nat.le_refl _)) _).setCell (.inr (Nat.le_refl _)) _).setCell (.inr (Nat.le_refl _)) _
section
variable {σ : Type} {M : Mach σ} {T : TypeId} {v : Value} {fR fW : FuncId} {Mem : World → σ → Prop} {Ok : σ → Prop} {S R : List Nat} {w : World} {s : σ}
theorem vtroot_is (V : VOk M T v fR fW Mem Ok S R) (hm : Mem w s) {t : Int} {c : Cp} {s1 : σ} (h : (trootP t).run M s = (c, s1)) :
    Calls Try.prog 28 #[.iface T v, .int .i64 t] w fun e w' => e = .returned c.v ∧ Mem w' s1 ∧ Only S w w' := by
  unfold trootP at h
  have hR := V.fresh hm (Nat.le_refl w.heap.size)
  have hg := V.freshS hm (Nat.le_refl w.heap.size)
  have hb0 := Blk.new w CpT zeroA
  have hm0 := V.only0 hm ((Only.refl [] w).alloc (.cells zeroA CpT))
  have HB := Lib.hid (And.intro hb0 (And.intro ((Only.refl S w).alloc (.cells zeroA CpT)) (And.intro hg hR)))
  obtain ⟨q, s2, h2⟩ : ∃ q s2, (isP t 5).run M s = (q, s2) := ⟨_, _, rfl⟩
  rw [Vp.run_bind_is h2] at h
  have k := tis_is V hm0 h2
  have HV := Lib.hid V
  clear h2 hm V hb0 hm0 hg hR
  cases q with
  | false =>
    rw [if_neg (by simp), Vp.run_ret] at h
    cases h
    go_enter Try.func28, Try.ntmps28
    go_wp2_with fail
    (with_reducible refine k.mono ?_)
    clear k
    rintro e w1 ⟨rfl, hm1, ho1⟩
    have hb1 := ho1.blk HB.out.1 HB.out.2.2.1
    have HH := Lib.hid (And.intro hm1 (HB.out.2.1.trans ho1))
    have f0 : w1.frozen? ⟨w.heap.size, 0, none⟩ = false := hb1.frozen 0
    have f1 : w1.frozen? ⟨w.heap.size, 1, none⟩ = false := hb1.frozen 1
    have f2 : w1.frozen? ⟨w.heap.size, 2, none⟩ = false := hb1.frozen 2
    have f3 : w1.frozen? ⟨w.heap.size, 3, none⟩ = false := hb1.frozen 3
    have f4 : w1.frozen? ⟨w.heap.size, 4, none⟩ = false := hb1.frozen 4
    have f5 : w1.frozen? ⟨w.heap.size, 5, none⟩ = false := hb1.frozen 5
    obtain ⟨k0, k1, k2, k3, k4, k5⟩ := hb1.cap
    clear hm1 ho1 hb1
    go_wp2_with fail
    refine bodyPost_ret (v := Cp.zero.v) (by simp [results, Try.results28, go_sem, k0, k1, k2, k3, k4, k5, Cp.zero]) rfl ⟨rfl, ?_, ?_⟩
    · exact HV.out.put (HV.out.put (HV.out.put (HV.out.put (HV.out.put (HV.out.put HH.out.1 HB.out.2.2.2 _ _) HB.out.2.2.2 _ _) HB.out.2.2.2 _ _) HB.out.2.2.2 _ _) HB.out.2.2.2 _ _) HB.out.2.2.2 _ _
    · exact (((((HH.out.2.setCell (.inr (Nat.le_refl _)) _).setCell (.inr (Nat.le_refl _)) _).setCell (.inr (Nat.le_refl _)) _).setCell (.inr (Nat.le_refl _)) _).setCell (.inr (Nat.le_refl _)) _).setCell (.inr (Nat.le_refl _)) _
  | true =>
    rw [if_pos rfl] at h
    obtain ⟨n, s3, h3⟩ : ∃ q s3, (fieldP t 7).run M s2 = (q, s3) := ⟨_, _, rfl⟩
    rw [Vp.run_bind_is h3, Vp.run_ret] at h
    cases h
    obtain ⟨c, hc⟩ : ∃ c, getC n = c := ⟨_, rfl⟩
    rw [hc]
    have H3 := Lib.hid h3
    have HC := Lib.hid hc
    clear h3 hc
    go_enter Try.func28, Try.ntmps28
    go_wp2_with fail
    (with_reducible refine k.mono ?_)
    clear k
    rintro e w1 ⟨rfl, hm1, ho1⟩
    have k := field_is HV.out hm1 H3.out
    obtain ⟨n0, n1⟩ := field_in HV.out hm1 H3.out
    go_wp2_with fail
    (with_reducible refine k.mono ?_)
    clear k
    rintro e w2 ⟨rfl, hm2, ho2⟩
    have k := tcap_is w2 n0 n1
    rw [HC.out] at k
    go_wp2_with fail
    (with_reducible refine k.mono ?_)
    clear k
    rintro e w3 ⟨rfl, ho3⟩
    have hm3 := HV.out.only0 hm2 ho3
    have ho := (ho1.trans ho2).trans (ho3.more (S' := S) (fun _ _ hx => absurd hx List.not_mem_nil))
    have hb1 := ho.blk HB.out.1 HB.out.2.2.1
    have HH := Lib.hid (And.intro hm3 (HB.out.2.1.trans ho))
    have f0 : w3.frozen? ⟨w.heap.size, 0, none⟩ = false := hb1.frozen 0
    have f1 : w3.frozen? ⟨w.heap.size, 1, none⟩ = false := hb1.frozen 1
    have f2 : w3.frozen? ⟨w.heap.size, 2, none⟩ = false := hb1.frozen 2
    have f3 : w3.frozen? ⟨w.heap.size, 3, none⟩ = false := hb1.frozen 3
    have f4 : w3.frozen? ⟨w.heap.size, 4, none⟩ = false := hb1.frozen 4
    have f5 : w3.frozen? ⟨w.heap.size, 5, none⟩ = false := hb1.frozen 5
    obtain ⟨k0, k1, k2, k3, k4, k5⟩ := hb1.cap
    clear hm1 hm2 ho1 ho2 ho3 hm3 ho hb1
    go_wp2_with fail
    refine bodyPost_ret (v := c.v) (by simp [results, Try.results28, go_sem, k0, k1, k2, k3, k4, k5]) rfl ⟨rfl, ?_, ?_⟩
    · exact HV.out.put (HV.out.put (HV.out.put (HV.out.put (HV.out.put (HV.out.put HH.out.1 HB.out.2.2.2 _ _) HB.out.2.2.2 _ _) HB.out.2.2.2 _ _) HB.out.2.2.2 _ _) HB.out.2.2.2 _ _) HB.out.2.2.2 _ _
    · exact (((((HH.out.2.setCell (.inr (Nat.le_refl _)) _).setCell (.inr (Nat.le_refl _)) _).setCell (.inr (Nat.le_refl _)) _).setCell (.inr (Nat.le_refl _)) _).setCell (.inr (Nat.le_refl _)) _).setCell (.inr (Nat.le_refl _)) _
theorem vtset_is (V : VOk M T v fR fW Mem Ok S R) (hm : Mem w s) {t x : Int} {c : Cp} {s1 : σ} (h : (tsetP t c).run M s = (x, s1)) :
    Calls Try.prog 15 #[.iface T v, .int .i64 t, c.v] w fun e w' => e = .returned (errV x) ∧ Mem w' s1 ∧ Only S w w' := by
  have hg := V.freshS hm (Nat.le_refl w.heap.size)
  have hm0 := V.only0 hm ((Only.refl [] w).alloc (.cells c.arr CpT))
  have ho0 := (Only.refl S w).alloc (.cells c.arr CpT)
  have hb0 := Blk.new w CpT c.arr
  unfold tsetP at h
  obtain ⟨q, s2, h2⟩ : ∃ q s2, (isP t 5).run M s = (q, s2) := ⟨_, _, rfl⟩
  rw [Vp.run_bind_is h2] at h
  have k := tis_is V hm0 h2
  have HV := Lib.hid V
  have HB := Lib.hid (And.intro ho0 (And.intro hb0 hg))
  clear h2 hm V hm0 ho0 hb0 hg
  cases q with
  | false =>
    rw [if_neg (by simp), Vp.run_ret] at h
    cases h
    go_enter Try.func15, Try.ntmps15
    go_wp2_with fail
    (with_reducible refine k.mono ?_)
    clear k
    rintro e w1 ⟨rfl, hm1, ho1⟩
    go_wp2_with fail
    go_ret
    exact ⟨rfl, hm1, HB.out.1.trans ho1⟩
  | true =>
    rw [if_pos rfl] at h
    by_cases hc : c.may
    · rw [if_pos hc] at h
      obtain ⟨f, s3, h3⟩ : ∃ q s3, (fineP c).run M s2 = (q, s3) := ⟨_, _, rfl⟩
      rw [Vp.run_bind_is h3] at h
      have H3 := Lib.hid h3
      have hW := may_word hc
      have cW := Lib.hid fun W => twd_yes W hc
      clear h3 hc
      cases f with
      | false =>
        rw [if_neg (by simp), Vp.run_ret] at h
        cases h
        go_enter Try.func15, Try.ntmps15
        go_wp2_with fail
        (with_reducible refine k.mono ?_)
        clear k
        rintro e w1 ⟨rfl, hm1, ho1⟩
        obtain ⟨k0, k1, k2, k3, k4, k5⟩ := (ho1.blk HB.out.2.1 HB.out.2.2).cap
        have k := cW.out w1
        go_wp2_with fail
        (with_reducible refine k.mono ?_)
        clear k
        rintro e w2 ⟨rfl, ho2⟩
        have hb2 := ho2.blk (ho1.blk HB.out.2.1 HB.out.2.2) (by simp)
        have hm2 := HV.out.only0 hm1 ho2
        have HO := Lib.hid ((HB.out.1.trans ho1).trans (ho2.more (S' := S) (fun _ _ hx => absurd hx List.not_mem_nil)))
        clear k0 k1 k2 k3 k4 k5
        obtain ⟨k0, k1, k2, k3, k4, k5⟩ := hb2.cap
        have k := cfine_is HV.out hm2 H3.out
        clear hm1 ho1 hm2 ho2 hb2
        go_wp2_with fail
        (with_reducible refine k.mono ?_)
        clear k
        rintro e w3 ⟨rfl, hm3, ho3⟩
        go_wp2_with fail
        go_ret
        exact ⟨rfl, hm3, HO.out.trans ho3⟩
      | true =>
        rw [if_pos rfl] at h
        obtain ⟨s4, h4⟩ : ∃ s4, (putP t 7 c.word).run M s3 = ((), s4) := ⟨_, rfl⟩
        rw [Vp.run_bind_is h4, Vp.run_ret] at h
        cases h
        have H4 := Lib.hid h4
        clear h4
        go_enter Try.func15, Try.ntmps15
        go_wp2_with fail
        (with_reducible refine k.mono ?_)
        clear k
        rintro e w1 ⟨rfl, hm1, ho1⟩
        obtain ⟨k0, k1, k2, k3, k4, k5⟩ := (ho1.blk HB.out.2.1 HB.out.2.2).cap
        have k := cW.out w1
        go_wp2_with fail
        (with_reducible refine k.mono ?_)
        clear k
        rintro e w2 ⟨rfl, ho2⟩
        have hb2 := ho2.blk (ho1.blk HB.out.2.1 HB.out.2.2) (by simp)
        have hm2 := HV.out.only0 hm1 ho2
        have HO := Lib.hid ((HB.out.1.trans ho1).trans (ho2.more (S' := S) (fun _ _ hx => absurd hx List.not_mem_nil)))
        clear k0 k1 k2 k3 k4 k5
        obtain ⟨k0, k1, k2, k3, k4, k5⟩ := hb2.cap
        have k := cfine_is HV.out hm2 H3.out
        clear hm1 ho1 hm2 ho2 hb2
        go_wp2_with fail
        (with_reducible refine k.mono ?_)
        clear k
        rintro e w3 ⟨rfl, hm3, ho3⟩
        have k := put_is HV.out hm3 (by omega) H4.out
        have HO3 := Lib.hid (HO.out.trans ho3)
        clear hm3 ho3
        go_wp2_with fail
        (with_reducible refine k.mono ?_)
        clear k
        rintro e w4 ⟨rfl, hm4, ho4⟩
        go_wp2_with fail
        go_ret
        exact ⟨rfl, hm4, HO3.out.trans ho4⟩
    · rw [if_neg hc, Vp.run_ret] at h
      cases h
      have cW := Lib.hid fun W => twd_no W hc
      clear hc
      go_enter Try.func15, Try.ntmps15
      go_wp2_with fail
      (with_reducible refine k.mono ?_)
      clear k
      rintro e w1 ⟨rfl, hm1, ho1⟩
      obtain ⟨k0, k1, k2, k3, k4, k5⟩ := (ho1.blk HB.out.2.1 HB.out.2.2).cap
      have k := cW.out w1
      go_wp2_with fail
      (with_reducible refine k.mono ?_)
      clear k
      rintro e w2 ⟨rfl, ho2⟩
      have hm2 := HV.out.only0 hm1 ho2
      have HO := Lib.hid ((HB.out.1.trans ho1).trans (ho2.more (S' := S) (fun _ _ hx => absurd hx List.not_mem_nil)))
      go_wp2_with fail
      go_ret
      exact ⟨rfl, hm2, HO.out⟩
end
end Go.Proofs.Ytdkjfalhalepgaa
