/- What Set of package cspace does (layer 11), to any view: a slot's capability is put. -/
import Derived.Test.YtdkjfalhalepgaaCsCap
import Derived.Test.YtdkjfalhalepgaaPackPut
namespace Go.Proofs.Ytdkjfalhalepgaa
open Go.RowKit
section
variable {σ : Type} {M : Mach σ} {T : TypeId} {v : Value} {fR fW : FuncId} {Mem : World → σ → Prop} {Ok : σ → Prop} {S R : List Nat} {w : World} {s : σ}
set_option maxHeartbeats 1000000 in
theorem cset_is (V : VOk M T v fR fW Mem Ok S R) (hm : Mem w s) {i n : Int} {c : Cp} {s1 : σ} (h : (csetP i c).run M s = (n, s1)) :
    Calls Try.prog 71 #[.iface T v, .int .i64 i, c.v] w fun e w' => e = .returned (errV n) ∧ Mem w' s1 ∧ Only S w w' := by
  have mW := V.mW
  have nW := V.nW
  have eW := V.eW
  unfold csetP at h
  have hm0 := V.only0 hm ((Only.refl [] w).alloc (.cells c.arr CpT))
  have ho0 := (Only.refl S w).alloc (.cells c.arr CpT)
  obtain ⟨a, ha⟩ : ∃ a, slotI i 0 = a := ⟨_, rfl⟩
  cases hb : slotB i 0 with
  | false =>
    rw [hb, Vp.run_no (by simp), Vp.run_ret] at h
    cases h
    have cO := Lib.hid (slot_is ha hb)
    have HH := Lib.hid (And.intro hm0 ho0)
    clear hb ha V hm0 ho0 hm
    go_enter Try.func71, Try.ntmps71
    go_wp2_with (go_at_call 83; (with_reducible refine (cO.out _).mono ?_); rintro e w' ⟨rfl, hw⟩; replace hw := hw.symm; subst hw)
    go_ret
    exact ⟨rfl, HH.out⟩
  | true =>
    rw [hb, Vp.run_yes rfl, ha] at h
    have cO := Lib.hid (slot_is ha hb)
    have HV := Lib.hid V
    have HH := Lib.hid (And.intro hm0 ho0)
    by_cases hc : c.may
    · rw [Vp.run_yes hc, Vp.run_wr, Vp.run_ret] at h
      cases h
      have cP := Lib.hid fun W : World => put_yes c W hc
      have hu := word_u64 hc
      have HU := Lib.hid hu
      clear hb ha V hm0 ho0 hm hc hu
      go_enter Try.func71, Try.ntmps71
      go_wp2_with (go_at_call 83; (with_reducible refine (cO.out _).mono ?_); rintro e w' ⟨rfl, hw⟩; replace hw := hw.symm; subst hw)
      (with_reducible refine (cP.out _).mono ?_)
      rintro e w1 ⟨rfl, ho1⟩
      have hm1 := HV.out.only0 HH.out.1 ho1
      have cW := HV.out.wr w1 s a c.word hm1 HU.out
      have HO := Lib.hid (HH.out.2.trans (ho1.more (S' := S) (fun _ _ hx => absurd hx List.not_mem_nil)))
      clear hm1 ho1
      go_wp2_with fail
      (with_reducible refine cW.mono ?_)
      clear cW
      rintro e w2 ⟨rfl, hm2, ho2⟩
      go_wp2_with fail
      go_ret
      exact ⟨rfl, hm2, HO.out.trans ho2⟩
    · rw [Vp.run_no hc, Vp.run_ret] at h
      cases h
      have cP := Lib.hid fun W : World => put_no c W hc
      clear hb ha V hm0 ho0 hm hc
      go_enter Try.func71, Try.ntmps71
      go_wp2_with (go_at_call 83; (with_reducible refine (cO.out _).mono ?_); rintro e w' ⟨rfl, hw⟩; replace hw := hw.symm; subst hw)
      (with_reducible refine (cP.out _).mono ?_)
      rintro e w1 ⟨rfl, ho1⟩
      have hm1 := HV.out.only0 HH.out.1 ho1
      have HO := Lib.hid (And.intro hm1 (HH.out.2.trans (ho1.more (S' := S) (fun _ _ hx => absurd hx List.not_mem_nil))))
      clear hm1 ho1
      go_wp2_with fail
      go_ret
      exact ⟨rfl, HO.out⟩
end
end Go.Proofs.Ytdkjfalhalepgaa
