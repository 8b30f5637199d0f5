/- What a step of the document's own descriptor does (layer 7). -/
import Derived.Test.YtgkjkmdenmighaaRefRsv
import Derived.Test.YtgkjkmdenmighaaRefRsvB
import Derived.Test.YtgkjkmdenmighaaRefRsvC
import Derived.Test.YtgkjkmdenmighaaRefRsvD
import Derived.Test.YtgkjkmdenmighaaRefRsvE
namespace Go.Proofs.Ytgkjkmdenmighaa
open Go.RowKit
section
variable {w : World} {p ps g : Nat} {A : Option Addr} {cap : Nat} {d : De} {s : St}
set_option maxRecDepth 100000 in
set_option maxHeartbeats 2000000 in
theorem over_ref (h : RescAt w p A cap d) (hs : StoreAt w RT ps g s) (ho : d.over = true) :
    Calls Try.prog 10 #[.pointer (some ⟨p, 0, none⟩), .pointer (some ⟨ps, 0, none⟩)] w fun r w' =>
      r = .returned (.int .i64 0) ∧ RescAt w' p A cap d ∧ StoreAt w' RT ps g s ∧ Only [p, g] w w' := by
  have cO := rover_any h
  rw [ho] at cO
  have H := Lib.hid (And.intro h hs)
  clear h hs ho
  go_enter Try.func10, Try.ntmps10
  go_wp2_with (go_at_call 13; (with_reducible refine cO.mono ?_); clear cO; rintro r w1 ⟨rfl, q, hw⟩; have hE : Only [] w w1 := (by rw [hw]; exact (Only.refl _ _).drewN _); clear hw)
  go_ret
  exact ⟨rfl, H.out.1.only0 hE, H.out.2.only hE (by simp) (by simp), hE.in0⟩
theorem step_ref (h : RescAt w p A cap d) (hs : StoreAt w RT ps g s) :
    Calls Try.prog 10 #[.pointer (some ⟨p, 0, none⟩), .pointer (some ⟨ps, 0, none⟩)] w fun r w' =>
      r = .returned (.int .i64 (stepD d s).1) ∧ RescAt w' p A cap (stepD d s).2.1 ∧ StoreAt w' RT ps g (stepD d s).2.2 ∧ Only [p, g] w w' := by
  have hp := h.ok.pos
  by_cases hk : d.pos < d.L.length
  · obtain ⟨e, he⟩ : ∃ e, d.L[d.pos]? = some e := ⟨_, List.getElem?_eq_getElem hk⟩
    by_cases h0 : d.st = 0
    · have hR : stepD d s = rsvD d e s := by simp only [stepD, he]; rw [if_pos h0]
      rw [hR]
      by_cases hr : e.cell < 0 ∨ (s.L.length : Int) ≤ e.cell
      · exact rsv_none h hs he h0 hr
      · obtain ⟨k, c, hkc, hkl, hc⟩ := St.get_some hr
        by_cases h4 : c.mark ≠ 0 ∧ c.mark ≠ d.mark
        · exact rsv_tell h hs he h0 hkc hkl hc h4
        · by_cases hv : c.ver = e.ver
          · by_cases hw : e.wr = true
            · by_cases hl : c.ver = s.lim
              · exact rsv_spent h hs he h0 hkc hkl hc h4 hv ⟨hw, hl⟩
              · exact rsv_write h hs he h0 hkc hkl hc h4 hv ⟨hw, hl⟩
            · exact rsv_read h hs he h0 hkc hkl hc h4 hv (by simpa using hw)
          · exact rsv_ver h hs he h0 hkc hkl hc h4 hv
    · have hR : stepD d s = (0, { d with pos := d.pos + 1 }, relD d e s) := by simp only [stepD, he]; rw [if_neg h0]
      rw [hR]
      exact release_ref h hs he h0
  · have hn : d.L[d.pos]? = none := List.getElem?_eq_none (by omega)
    by_cases h0 : d.st = 0
    · have hR : stepD d s = (0, { d with st := 1, pos := 0 }, s) := by simp only [stepD, hn]; rw [if_pos h0]
      rw [hR]
      exact done_ref h hs (by omega) h0
    · have hR : stepD d s = (0, d, s) := by simp only [stepD, hn]; rw [if_neg h0]
      rw [hR]
      exact over_ref h hs (by simp [De.over, h0]; omega)
end
end Go.Proofs.Ytgkjkmdenmighaa
