/- Unlink of the document's state (layer 10). -/
import Derived.Test.YtffoajakkghlbaaRefLink
namespace Go.Proofs.Ytffoajakkghlbaa
open Go.RowKit
section
variable {w : World} {p gs go : Nat} {S : RSt}
set_option maxRecDepth 100000 in
set_option maxHeartbeats 2000000 in
theorem runlink_ok (h : RefM w p gs go S) (hs : S.Short) (a q : Nat) (ha : a < 96) (hq : q < 96) (hp : S.par a = q) :
    Calls Try.prog 23 #[.pointer (some ⟨p, 0, none⟩), .int .i64 a] w fun e w' => e = .returned (.int .i64 0) ∧ RefM w' p gs go { S with kids := setF S.kids q ((S.kids q).erase a), par := setF S.par a (-1) } ∧ Only [gs] w w' := by
  obtain ⟨cs, c0⟩ := h.cSlots
  have c1 := h.cPar ha
  rw [hp] at c1
  obtain ⟨A, cp, cK, hR⟩ := h.cKids hq
  have hpz := h.ltP
  have hgz := h.ltS
  have haI : (a : Int) < 96 := by omega
  have hqI : (q : Int) < 96 := by omega
  have hq0 : (0 : Int) ≤ (q : Int) := by omega
  have sA := Lib.hid (rslot_is (slotOk_yes.2 (show 0 ≤ (a : Int) ∧ (a : Int) < 96 by omega)))
  have cW := without_any (w := w.drew) cp (a : Int) (hR.only (w' := w.drew) ((Only.refl [] w).drewN 1) (fun _ _ _ => by simp)) (by have := hs q; omega)
  have HH := Lib.hid fun W (ho : Only [] w W) => h.only0 ho
  clear h hp hR
  go_enter Try.func23, Try.ntmps23
  go_wp2_with fail
  (with_reducible refine (sA.out _).mono ?_)
  rintro e w1 ⟨rfl, rfl⟩
  go_upto_region 6 with fail
  go_region_law (first | (go_simp; go_at_call 36; (with_reducible refine cW.mono ?_); clear cW; rintro e w5 ⟨v5, rfl, ⟨A5, cp5, rfl, hR5⟩, ho5'⟩; have ho5 := ((Only.refl [] w1).drewN 1).trans ho5'; have hr5 := HH.out w5 ho5; have hz5 := ho5.size; have k0 := ho5.cell (p := ⟨p, 0, none⟩) hpz (by simp); have k5 := ho5.cell (p := ⟨gs, q * 8 + 7, none⟩) hgz (by simp); have k6 := ho5.cell (p := ⟨gs, a * 8 + 6, none⟩) hgz (by simp); rw [c0] at k0; rw [cK] at k5; rw [c1] at k6; have f5 := hr5.frozenS (q * 8 + 7)))
  all_goals
    have h6 := hr5.setKids (by decide) (by decide) (by decide) hq (v := .slice A5 ((S.kids q).erase (a : Int)).length cp5) (l := (S.kids q).erase (a : Int)) ⟨A5, cp5, rfl, hR5⟩
    have o6 := ((ho5.more (S' := [gs]) (fun _ _ hm => absurd hm (List.not_mem_nil))).setCell (p := ⟨gs, q * 8 + 7, none⟩) (.inl (by simp)) (.slice A5 ((S.kids q).erase (a : Int)).length cp5))
    clear hr5 k0 k5 k6 f5 ho5 ho5' hR5 HH cK c0 c1 hz5 hpz hgz
    generalize w5.setCell ⟨gs, q * 8 + 7, none⟩ (.slice A5 ((S.kids q).erase (a : Int)).length cp5) = w6 at h6 o6 ⊢
    obtain ⟨cs6, c06⟩ := h6.cSlots
    have c16 := h6.cPar ha
    have f16 := h6.frozenS (a * 8 + 6)
    have h7 := h6.setPar (by decide) (by decide) (by decide) ha (-1)
    have o7 := o6.setCell (p := ⟨gs, a * 8 + 6, none⟩) (.inl (by simp)) (.int .i64 (-1))
    have H7 := Lib.hid (And.intro h7 o7)
    clear h6 o6 h7 o7
    go_wp2_with fail
    go_ret
    exact ⟨rfl, H7.out.1, H7.out.2⟩
set_option maxRecDepth 100000 in
set_option maxHeartbeats 2000000 in
theorem runlink_any (h : RefM w p gs go S) (hs : S.Short) (hP : S.Pars) (a : Int) :
    Calls Try.prog 23 #[.pointer (some ⟨p, 0, none⟩), .int .i64 a] w fun e w' => e = .returned (.int .i64 (unlinkN a)) ∧ RefM w' p gs go (unlinkS S a) ∧ Only [gs] w w' := by
  cases h1 : slotOk a with
  | false =>
    have hN : unlinkN a = 2 := by rw [unlinkN, if_pos h1]
    have hS : unlinkS S a = S := by rw [unlinkS, if_neg (by simp [h1])]
    rw [hN, hS]
    have sA := Lib.hid (rslot_is h1)
    clear hN hS h1
    go_enter Try.func23, Try.ntmps23
    go_wp2_with ((with_reducible refine (sA.out _).mono ?_); rintro e w1 ⟨rfl, rfl⟩)
    go_ret
    exact ⟨rfl, h, Only.refl _ _⟩
  | true =>
    have ia := slotOk_yes.1 h1
    have hN : unlinkN a = 0 := by rw [unlinkN, if_neg (by simp [h1])]
    obtain ⟨k, rfl⟩ : ∃ k : Nat, a = k := ⟨a.toNat, by omega⟩
    have hk : k < 96 := by omega
    by_cases h2 : 0 ≤ S.par k
    · obtain ⟨q, hq⟩ : ∃ q : Nat, S.par k = q := ⟨(S.par k).toNat, by omega⟩
      have hq9 : q < 96 := by have := hP k; omega
      rw [hN, unlinkS, if_pos ⟨h1, h2⟩, hq]
      exact runlink_ok h hs k q hk hq9 hq
    · have hS : unlinkS S k = S := by rw [unlinkS, if_neg (fun hh => h2 hh.2)]
      rw [hN, hS]
      obtain ⟨cs, c0⟩ := h.cSlots
      have c1 := h.cPar hk
      have hkI : (k : Int) < 96 := by omega
      have h2' : S.par k < 0 := by omega
      have sA := Lib.hid (rslot_is h1)
      clear hN hS h1 h2
      go_enter Try.func23, Try.ntmps23
      go_wp2_with ((with_reducible refine (sA.out _).mono ?_); rintro e w1 ⟨rfl, rfl⟩)
      go_ret
      exact ⟨rfl, h, Only.refl _ _⟩
end
end Go.Proofs.Ytffoajakkghlbaa
