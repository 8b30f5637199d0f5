/- What is, told, tell, Parent, nowhere of package cdt answer and do (layer 10), of any view. -/
import Derived.Test.YtffoajakkghlbaaJ6
import Derived.Test.YtffoajakkghlbaaJ5
import Derived.Test.YtffoajakkghlbaaJ1
import Derived.Test.YtffoajakkghlbaaRows
import Derived.WalkKit
namespace Go.Proofs.Ytffoajakkghlbaa
open Go.RowKit
theorem cis_any (i : Int) (w : World) : Calls Try.prog 51 #[.int .i64 i] w fun e w' => e = .returned (.bool (slotB i 0)) ∧ w' = w := by
  go_enter Try.func51, Try.ntmps51
  go_wp2_with (go_at_call 46; (with_reducible refine (slot_any _ _ _).mono ?_); rintro e w' ⟨rfl, rfl⟩)
  go_ret
  exact ⟨rfl, rfl⟩
theorem cis_is {i : Int} {q : Bool} (h : slotB i 0 = q) (w : World) : Calls Try.prog 51 #[.int .i64 i] w fun e w' => e = .returned (.bool q) ∧ w = w' := h ▸ (cis_any i w).mono fun _ _ ⟨he, hw⟩ => ⟨he, hw.symm⟩
abbrev PlT : TypeId := 92
abbrev plArr (a b c : Int) : Array Value := #[.int .i64 a, .int .i64 b, .int .i64 c]
section
variable {σ : Type} {M : Mach σ} {T : TypeId} {v : Value} {fR fW : FuncId} {Mem : World → σ → Prop} {Ok : σ → Prop} {S R : List Nat} {w : World} {s : σ}
theorem told_any (V : VOk M T v fR fW Mem Ok S R) (hm : Mem w s) (i f : Int) :
    Calls Try.prog 48 #[.iface T v, .int .i64 i, .int .i64 f] w fun e w' => e = .returned (.int .i64 ((toldP i f).run M s).1) ∧ Mem w' ((toldP i f).run M s).2 ∧ Only S w w' := by
  have mR := V.mR
  have nR := V.nR
  have eR := V.eR
  unfold toldP
  obtain ⟨a, ha⟩ : ∃ a, slotI i f = a := ⟨_, rfl⟩
  cases hb : slotB i f with
  | false =>
    have cO := Lib.hid (slot_is ha hb)
    clear hb ha
    go_enter Try.func48, Try.ntmps48
    go_wp2_with (go_at_call 46; (with_reducible refine (cO.out _).mono ?_); rintro e w' ⟨rfl, rfl⟩)
    go_ret
    exact ⟨rfl, hm, Only.refl _ _⟩
  | true =>
    rw [Vp.run_yes rfl, Vp.run_rd, Vp.run_ret, ha]
    have hr := V.rng s a (V.ok w s hm)
    have cR := V.rd w s a hm
    obtain ⟨x, s1, hrd⟩ : ∃ x s1, M.rd s a = (x, s1) := ⟨_, _, rfl⟩
    rw [hrd] at hr cR ⊢
    have cO := Lib.hid (slot_is ha hb)
    have h0 : 0 ≤ x := hr.1
    have h1 : x ≤ 18446744073709551615 := hr.2
    clear hb ha hm hrd hr
    by_cases hx : 96 < x
    · have HN : Hid (toldI x = -1) := Lib.hid (by simp [toldI, hx])
      go_enter Try.func48, Try.ntmps48
      go_wp2_with (first | (go_at_call 46; (with_reducible refine (cO.out _).mono ?_); rintro e w' ⟨rfl, rfl⟩) | ((with_reducible refine cR.mono ?_); clear cR; rintro e w1 ⟨rfl, hm1, ho1⟩))
      go_ret
      exact ⟨by rw [HN.out]; rfl, hm1, ho1⟩
    · have HN : Hid (toldI x = x - 1) := Lib.hid (by simp [toldI, hx])
      have hx' : x ≤ 96 := by omega
      clear hx
      go_enter Try.func48, Try.ntmps48
      go_wp2_with (first | (go_at_call 46; (with_reducible refine (cO.out _).mono ?_); rintro e w' ⟨rfl, rfl⟩) | ((with_reducible refine cR.mono ?_); clear cR; rintro e w1 ⟨rfl, hm1, ho1⟩))
      go_ret
      exact ⟨by rw [HN.out]; go_num, hm1, ho1⟩
theorem told_is (V : VOk M T v fR fW Mem Ok S R) (hm : Mem w s) {i f x : Int} {s1 : σ} (h : (toldP i f).run M s = (x, s1)) :
    Calls Try.prog 48 #[.iface T v, .int .i64 i, .int .i64 f] w fun e w' => e = .returned (.int .i64 x) ∧ Mem w' s1 ∧ Only S w w' := by
  have q := told_any V hm i f
  rwa [h] at q
theorem told_rng (V : VOk M T v fR fW Mem Ok S R) (hs : Ok s) {i f x : Int} {s1 : σ} (h : (toldP i f).run M s = (x, s1)) : -1 ≤ x ∧ x ≤ 95 := by
  unfold toldP at h
  split at h
  · rw [Vp.run_rd, Vp.run_ret] at h
    cases h
    exact toldI_rng (V.rng s _ hs)
  · cases h
    omega
theorem cparent_is (V : VOk M T v fR fW Mem Ok S R) (hm : Mem w s) {i x : Int} {s1 : σ} (h : (toldP i 1).run M s = (x, s1)) :
    Calls Try.prog 39 #[.iface T v, .int .i64 i] w fun e w' => e = .returned (.int .i64 x) ∧ Mem w' s1 ∧ Only S w w' := by
  have c := told_is V hm h
  clear hm
  go_enter Try.func39, Try.ntmps39
  go_wp2_with (go_at_call 48; (with_reducible refine c.mono ?_); clear c; rintro e w1 ⟨rfl, hm1, ho1⟩)
  go_ret
  exact ⟨rfl, hm1, ho1⟩
theorem tell_is (V : VOk M T v fR fW Mem Ok S R) (hm : Mem w s) {i f n : Int} {s1 : σ} (h0 : -1 ≤ n) (h1 : n ≤ 95) (h : (tellP i f n).run M s = ((), s1)) :
    Calls Try.prog 52 #[.iface T v, .int .i64 i, .int .i64 f, .int .i64 n] w fun e w' => e = .returned (.tuple #[]) ∧ Mem w' s1 ∧ Only S w w' := by
  have mW := V.mW
  have nW := V.nW
  have eW := V.eW
  unfold tellP at h
  obtain ⟨a, ha⟩ : ∃ a, slotI i f = a := ⟨_, rfl⟩
  cases hb : slotB i f with
  | false =>
    rw [hb, Vp.run_no (by simp), Vp.run_ret] at h
    cases h
    have cO := Lib.hid (slot_is ha hb)
    clear hb ha
    go_enter Try.func52, Try.ntmps52
    go_wp2_with (go_at_call 46; (with_reducible refine (cO.out _).mono ?_); rintro e w' ⟨rfl, rfl⟩)
    go_end0
    exact ⟨rfl, hm, Only.refl _ _⟩
  | true =>
    rw [hb, Vp.run_yes rfl, Vp.run_wr, Vp.run_ret, ha] at h
    have cW := V.wr w s a (n + 1) hm ⟨by omega, by omega⟩
    rw [show M.wr s a (n + 1) = s1 from by cases h; rfl] at cW
    have cO := Lib.hid (slot_is ha hb)
    clear hb ha hm h
    go_enter Try.func52, Try.ntmps52
    go_wp2_with (first | (go_at_call 46; (with_reducible refine (cO.out _).mono ?_); rintro e w' ⟨rfl, rfl⟩) | ((with_reducible refine cW.mono ?_); clear cW; rintro e w1 ⟨rfl, hm1, ho1⟩))
    go_end0
    exact ⟨rfl, hm1, ho1⟩
end
end Go.Proofs.Ytffoajakkghlbaa
/- What stand, placeOf, beside of package cdt do and answer (layer 10), to any view: where a slot stands. -/
namespace Go.Proofs.Ytffoajakkghlbaa
open Go.RowKit
/-- a place's three cells -/
theorem Blk.three {w : World} {g : Nat} {a b c : Int} (h : Blk w g PlT (plArr a b c)) : w.cell? ⟨g, 0, none⟩ = some (.int .i64 a) ∧ w.cell? ⟨g, 1, none⟩ = some (.int .i64 b) ∧ w.cell? ⟨g, 2, none⟩ = some (.int .i64 c) := ⟨h.cell 0, h.cell 1, h.cell 2⟩
section
variable {σ : Type} {M : Mach σ} {T : TypeId} {v : Value} {fR fW : FuncId} {Mem : World → σ → Prop} {Ok : σ → Prop} {S R : List Nat} {w : World} {s : σ}
theorem stand_is (V : VOk M T v fR fW Mem Ok S R) (hm : Mem w s) {i a b c : Int} {s1 : σ} (ha : -1 ≤ a ∧ a ≤ 95) (hb : -1 ≤ b ∧ b ≤ 95) (hc : -1 ≤ c ∧ c ≤ 95) (h : (standP i a b c).run M s = ((), s1)) :
    Calls Try.prog 53 #[.iface T v, .int .i64 i, .agg (plArr a b c)] w fun e w' => e = .returned (.tuple #[]) ∧ Mem w' s1 ∧ Only S w w' := by
  unfold standP at h
  obtain ⟨sa, h1⟩ : ∃ sa, (tellP i 1 a).run M s = ((), sa) := ⟨_, rfl⟩
  rw [Vp.run_bind_is h1] at h
  obtain ⟨sb, h2⟩ : ∃ sb, (tellP i 3 b).run M sa = ((), sb) := ⟨_, rfl⟩
  rw [Vp.run_bind_is h2] at h
  have hg := V.freshS hm (Nat.le_refl w.heap.size)
  have hb0 := Blk.new w PlT (plArr a b c)
  have hm0 := V.only0 hm ((Only.refl [] w).alloc (.cells (plArr a b c) PlT))
  have c1 := tell_is V hm0 ha.1 ha.2 h1
  have K : ∀ {W W' : World}, Blk W w.heap.size PlT (plArr a b c) → Only S W W' → Blk W' w.heap.size PlT (plArr a b c) := fun q o => o.blk q hg
  have HK := Lib.hid (fun W W' => @K W W')
  have HV := Lib.hid V
  have H2 := Lib.hid h2
  have H3 := Lib.hid h
  have HA := Lib.hid (And.intro ha (And.intro hb hc))
  clear h1 h2 h hm hm0 hg K ha hb hc V
  go_enter Try.func53, Try.ntmps53
  go_wp2_with fail
  (with_reducible refine c1.mono ?_)
  clear c1
  rintro e w1 ⟨rfl, hm1, ho1⟩
  have hb1 := HK.out _ _ hb0 ho1
  obtain ⟨k0, k1, k2⟩ := hb1.three
  have c2 := tell_is HV.out hm1 HA.out.2.1.1 HA.out.2.1.2 H2.out
  go_wp2_with fail
  (with_reducible refine c2.mono ?_)
  clear c2 k0 k1 k2
  rintro e w2 ⟨rfl, hm2, ho2⟩
  have hb2 := HK.out _ _ hb1 ho2
  obtain ⟨k0, k1, k2⟩ := hb2.three
  have c3 := tell_is HV.out hm2 HA.out.2.2.1 HA.out.2.2.2 H3.out
  go_wp2_with fail
  (with_reducible refine c3.mono ?_)
  clear c3 k0 k1 k2
  rintro e w3 ⟨rfl, hm3, ho3⟩
  go_wp2_with fail
  go_end0
  exact ⟨rfl, hm3, ((((Only.refl _ _).alloc _).trans ho1).trans ho2).trans ho3⟩
theorem told_ok (V : VOk M T v fR fW Mem Ok S R) (hs : Ok s) {i f x : Int} {s1 : σ} (h : (toldP i f).run M s = (x, s1)) : Ok s1 := by
  unfold toldP at h
  split at h
  · rw [Vp.run_rd, Vp.run_ret] at h
    cases h
    exact V.okR s _ hs
  · cases h
    exact hs
end
end Go.Proofs.Ytffoajakkghlbaa
/- An error by its number. -/
namespace Go.Proofs.Ytffoajakkghlbaa
open Go.RowKit
/-- an error of that number; 0: none -/
def errV (n : Int) : Value := if n = 0 then .nilIface else .iface 67 (.int .i64 n)
theorem errV_nil : errV 0 = .nilIface := rfl
theorem errV_some {n : Int} (h : n ≠ 0) : errV n = .iface 67 (.int .i64 n) := if_neg h
end Go.Proofs.Ytffoajakkghlbaa
