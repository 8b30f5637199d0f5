/- What slotsOf, fresh, put, give of package untyped answer and do (layer 13), of any view. -/
import Derived.Test.YtffoajakkghlbaaUntA
import Derived.Test.YtffoajakkghlbaaCsSet
import Derived.Test.YtffoajakkghlbaaCdtLink
import Derived.Test.YtffoajakkghlbaaLayPut
import Derived.Test.YtffoajakkghlbaaJ7
namespace Go.Proofs.Ytffoajakkghlbaa
open Go.RowKit
abbrev UntObT : TypeId := 73
/-- the cells of an object as it is made -/
abbrev obA (F : Nat → Int) : Array Value := #[.int .i64 (F 0), .int .i64 (F 1), .int .i64 (F 2), .int .i64 (F 3), .int .i64 (F 4), .int .i64 (F 5), .int .i64 (F 6), .int .i64 (F 7)]
section
variable {σ : Type} {M : Mach σ} {T : TypeId} {v : Value} {fR fW : FuncId} {Mem : World → σ → Prop} {Ok : σ → Prop} {S R : List Nat} {w : World} {s : σ}
set_option maxRecDepth 100000 in
theorem ugive_is (V : VOk M T v fR fW Mem Ok S R) (hm : Mem w s) {f t n : Int} {c : Cp} {s1 : σ} (h : (ugiveP f t c).run M s = (n, s1)) :
    Calls Try.prog 31 #[.iface T v, .int .i64 f, .int .i64 t, c.v] w fun e w' => e = .returned (errV n) ∧ Mem w' s1 ∧ Only S w w' := by
  unfold ugiveP at h
  obtain ⟨p, s2, h2⟩ : ∃ p s2, (linkP t f).run M s = (p, s2) := ⟨_, _, rfl⟩
  rw [Vp.run_bind_is h2] at h
  have hg := V.freshS hm (Nat.le_refl w.heap.size)
  have hb0 := Blk.new w CpT c.arr
  have hm0 := V.only0 hm ((Only.refl [] w).alloc (.cells c.arr CpT))
  have ho0 := (Only.refl S w).alloc (.cells c.arr CpT)
  have c2 := link_is V hm0 h2
  have HV := Lib.hid V
  clear hm hm0 h2 V
  by_cases hp : p ≠ 0
  · rw [Vp.run_yes hp, Vp.run_ret] at h
    cases h
    rw [errV_some hp] at c2 ⊢
    clear hp
    go_enter Try.func31, Try.ntmps31
    go_wp2_with ((with_reducible refine c2.mono ?_); clear c2; rintro e w2 ⟨rfl, hm2, ho2⟩)
    go_ret
    exact ⟨rfl, hm2, ho0.trans ho2⟩
  · rw [Vp.run_no hp] at h
    obtain rfl : p = 0 := by simpa using hp
    rw [errV_nil] at c2
    have H := Lib.hid h
    clear hp h
    go_enter Try.func31, Try.ntmps31
    go_wp2_with ((with_reducible refine c2.mono ?_); clear c2; rintro e w2 ⟨rfl, hm2, ho2⟩; have hb2 := ho2.blk hb0 hg; obtain ⟨k0, k1, k2, k3, k4, k5⟩ := hb2.cap; have c3 := cset_is HV.out hm2 H.out; clear hb0 hb2 hm2)
    (with_reducible refine c3.mono ?_)
    clear c3
    rintro e w3 ⟨rfl, hm3, ho3⟩
    go_wp2_with fail
    go_ret
    exact ⟨rfl, hm3, (ho0.trans ho2).trans ho3⟩
theorem uputs_succ {o : Int} {F : Nat → Int} {j n : Nat} {s1 : σ} (h : (uputsP o F j (n + 1)).run M s = ((), s1)) : ∃ s2, (putP o j (F j)).run M s = ((), s2) ∧ (uputsP o F (j + 1) n).run M s2 = ((), s1) := by
  obtain ⟨s2, h2⟩ : ∃ s2, (putP o j (F j)).run M s = ((), s2) := ⟨_, rfl⟩
  exact ⟨s2, h2, by rw [uputsP, Vp.run_bind_is h2] at h; exact h⟩
set_option maxRecDepth 100000 in
set_option maxHeartbeats 1000000 in
theorem uput_is (V : VOk M T v fR fW Mem Ok S R) (hm : Mem w s) {o : Int} {F : Nat → Int} {s1 : σ} (hF : ∀ j : Nat, F j ≤ 9223372036854775807) (h : (uputsP o F 0 8).run M s = ((), s1)) :
    Calls Try.prog 28 #[.iface T v, .int .i64 o, .agg (obA F)] w fun e w' => e = .returned (.tuple #[]) ∧ Mem w' s1 ∧ Only S w w' := by
  have hb0 := Blk.new w UntObT (obA F)
  have hm0 := V.only0 hm ((Only.refl [] w).alloc (.cells (obA F) UntObT))
  have ho0 := (Only.refl S w).alloc (.cells (obA F) UntObT)
  have HV := Lib.hid V
  have HF := Lib.hid hF
  have H := Lib.hid h
  have HM := Lib.hid (And.intro hm0 ho0)
  clear hm hm0 ho0 V hF h
  go_enter Try.func28, Try.ntmps28
  go_wp2_with fail
  go_loopw [9] (fun i wr => ∃ (k : Nat) (z : Int) (sr : σ), k ≤ 8 ∧ z = k ∧ i = .int .i64 z ∧ Mem wr sr ∧ Only S w wr ∧ (uputsP o F k (8 - k)).run M sr = ((), s1)) (fun i _ => 8 - (intOf i).toNat)
  case atStart => exact ⟨0, 0, s, by omega, rfl, rfl, HM.out.1, HM.out.2, H.out⟩
  case round =>
    obtain ⟨k, z, sr, hk, hz, rfl, hmr, hor, hr⟩ := hrel
    by_cases hlt : k < 8
    · have e8 : 8 - k = (8 - (k + 1)) + 1 := by omega
      rw [e8] at hr
      obtain ⟨s2, h2, h3⟩ := uputs_succ hr
      have c1 := put_is HV.out hmr (HF.out k) h2
      rw [← hz] at c1
      have H3 := Lib.hid h3
      clear h2 h3 hr hmr e8
      have hk' : (z = 0 ∧ k = 0) ∨ (z = 1 ∧ k = 1) ∨ (z = 2 ∧ k = 2) ∨ (z = 3 ∧ k = 3) ∨ (z = 4 ∧ k = 4) ∨ (z = 5 ∧ k = 5) ∨ (z = 6 ∧ k = 6) ∨ (z = 7 ∧ k = 7) := by omega
      have ix : ∀ (n : Nat) (W : World), n < 8 → (Instr.index UntObT (.agg #[.int .i64 (F 0), .int .i64 (F 1), .int .i64 (F 2), .int .i64 (F 3), .int .i64 (F 4), .int .i64 (F 5), .int .i64 (F 6), .int .i64 (F 7)]) (.int .i64 n)).run Try.prog W = .ok (.int .i64 (F n)) W := fun n W hn => match n, hn with
        | 0, _ => by kernel_rfl
        | 1, _ => by kernel_rfl
        | 2, _ => by kernel_rfl
        | 3, _ => by kernel_rfl
        | 4, _ => by kernel_rfl
        | 5, _ => by kernel_rfl
        | 6, _ => by kernel_rfl
        | 7, _ => by kernel_rfl
      have iz := fun W => ix k W (by omega)
      rw [← hz] at iz
      clear hlt hk ix hz
      rcases hk' with ⟨rfl, rfl⟩ | ⟨rfl, rfl⟩ | ⟨rfl, rfl⟩ | ⟨rfl, rfl⟩ | ⟨rfl, rfl⟩ | ⟨rfl, rfl⟩ | ⟨rfl, rfl⟩ | ⟨rfl, rfl⟩ <;>
      · go_wp2_with ((with_reducible refine c1.mono ?_); clear c1; rintro e w2 ⟨rfl, hm2, ho2⟩)
        go_roundw
        case rel => exact ⟨_, _, s2, by omega, by rfl, rfl, hm2, hor.trans ho2, H3.out⟩
        case measure => simp [intOf]
    · obtain rfl : k = 8 := by omega
      obtain rfl : z = 8 := by omega
      clear hz
      have e : sr = s1 := by rw [show 8 - 8 = 0 from rfl, uputsP, Vp.run_ret] at hr; cases hr; rfl
      subst e
      clear hr hlt hk
      go_wp2
      go_end0
      exact ⟨rfl, hmr, hor⟩
set_option maxRecDepth 100000 in
set_option maxHeartbeats 1000000 in
theorem ufresh_is {k b sl : Int} {F : Nat → Int} (hc : ¬ costZ k b < 0) (h : newF k b sl = F) (w : World) :
    Calls Try.prog 29 #[.int .i64 k, .int .i64 b, .int .i64 sl] w fun e w' => e = .returned (.agg (obA F)) ∧ Only [] w w' := by
  subst h
  obtain ⟨hk, hb⟩ := costZ_kind hc
  have hp := pow_le b hb.1 hb.2
  have hmin : min b.toNat 64 = b.toNat := by omega
  have hb0 : 0 ≤ b := hb.1
  have hw1 : IntKind.i64.wrap (2 ^ b.toNat) = 2 ^ b.toNat := IntWalk.i64_in _ (by omega)
  by_cases h1 : k = 1
  · subst h1
    have e : obA (newF 1 b sl) = #[.int .i64 1, .int .i64 (2 ^ b.toNat), .int .i64 0, .int .i64 0, .int .i64 0, .int .i64 0, .int .i64 0, .int .i64 0] := by
      have e1 : newF 1 b sl 1 = 2 ^ b.toNat := by
        show costZ 1 b - 1 = _
        unfold costZ
        rw [if_neg (by omega), if_pos rfl]; omega
      rw [obA, e1]; rfl
    rw [e]
    clear e hc hk hb
    go_enter Try.func29, Try.ntmps29
    go_wp2
    exact bodyPost_ret (v := .agg #[.int .i64 1, .int .i64 (2 ^ b.toNat), .int .i64 0, .int .i64 0, .int .i64 0, .int .i64 0, .int .i64 0, .int .i64 0]) (by simp [results, Try.results29, go_sem]) rfl ⟨rfl, ((Only.refl _ _).alloc _).alloc _⟩
  by_cases h2 : k = 2
  · subst h2
    have e : obA (newF 2 b sl) = #[.int .i64 2, .int .i64 sl, .int .i64 b, .int .i64 0, .int .i64 0, .int .i64 0, .int .i64 0, .int .i64 0] := rfl
    rw [e]
    clear e hc hk hb hp hw1 hmin
    go_enter Try.func29, Try.ntmps29
    go_wp2
    exact bodyPost_ret (v := .agg #[.int .i64 2, .int .i64 sl, .int .i64 b, .int .i64 0, .int .i64 0, .int .i64 0, .int .i64 0, .int .i64 0]) (by simp [results, Try.results29, go_sem]) rfl ⟨rfl, ((Only.refl _ _).alloc _).alloc _⟩
  · have e : obA (newF k b sl) = #[.int .i64 k, .int .i64 0, .int .i64 0, .int .i64 0, .int .i64 0, .int .i64 0, .int .i64 0, .int .i64 0] := by
      have e1 : newF k b sl 1 = 0 := by unfold newF; rw [if_neg (by decide), if_neg (fun e => h1 e.1), if_neg (fun e => h2 e.1), if_neg (fun e => h2 e.1)]
      have e2 : newF k b sl 2 = 0 := by unfold newF; rw [if_neg (by decide), if_neg (fun e => h1 e.1), if_neg (fun e => h2 e.1), if_neg (fun e => h2 e.1)]
      have e3 : ∀ n, 3 ≤ n → newF k b sl n = 0 := fun n hn => by unfold newF; rw [if_neg (by omega), if_neg (fun e => h1 e.1), if_neg (fun e => h2 e.1), if_neg (fun e => h2 e.1)]
      rw [obA, e1, e2, e3 3 (by omega), e3 4 (by omega), e3 5 (by omega), e3 6 (by omega), e3 7 (by omega)]
      rfl
    rw [e]
    clear e hc hk hb hp hw1 hmin
    go_enter Try.func29, Try.ntmps29
    go_wp2
    exact bodyPost_ret (v := .agg #[.int .i64 k, .int .i64 0, .int .i64 0, .int .i64 0, .int .i64 0, .int .i64 0, .int .i64 0, .int .i64 0]) (by simp [results, Try.results29, go_sem]) rfl ⟨rfl, ((Only.refl _ _).alloc _).alloc _⟩
end
end Go.Proofs.Ytffoajakkghlbaa
