/- What the document's own answer for layer 3 answers: Has, Within, of numbers from 0 to 7. -/
import Derived.Test.YtpbajcligjlehaaRefBoth
namespace Go.Proofs.Ytpbajcligjlehaa
open Go.RowKit
theorem refHas_any (c : Cp) (n : Int) (w : World) (hr0 : 0 ≤ c.rights) (hr : c.rights ≤ 7) (hn0 : 0 ≤ n) (hn : n ≤ 7) : Calls Try.prog 15 #[c.v, .int .i64 n] w fun e w' => e = .returned (.bool (hasB c.rights n)) ∧ Only [] w w' := by
  have H := Lib.hid (hasB_eq hr0 hr hn0 hn)
  go_enter Try.func15, Try.ntmps15
  go_wp2_with (go_at_call 21; refine (refBoth_any _ _ _ hr0 hr hn0 hn).mono ?_; rintro e w' ⟨rfl, rfl⟩)
  go_ret
  exact ⟨by rw [← H.out]; rfl, (Only.refl _ _).alloc _⟩
section
variable (c d : Cp) (w : World)
theorem refWithin_k (h0 : (c.kind == d.kind) = false) : Calls Try.prog 17 #[c.v, d.v] w (MbPost w false) := by
  go_enter Try.func17, Try.ntmps17
  go_wp2
  go_quiet (fail)
  go_wp2
  go_ret
  exact ⟨rfl, (((Only.refl _ _).alloc _).alloc _).drewN _⟩
theorem refWithin_o (h0 : (c.kind == d.kind) = true) (h1 : (c.obj == d.obj) = false) : Calls Try.prog 17 #[c.v, d.v] w (MbPost w false) := by
  go_enter Try.func17, Try.ntmps17
  go_wp2
  go_quiet (fail)
  go_wp2
  go_ret
  exact ⟨rfl, (((Only.refl _ _).alloc _).alloc _).drewN _⟩
theorem refWithin_h (hc0 : 0 ≤ c.rights) (hc : c.rights ≤ 7) (hd0 : 0 ≤ d.rights) (hd : d.rights ≤ 7) (h0 : (c.kind == d.kind) = true) (h1 : (c.obj == d.obj) = true) (h2 : (andR c.rights d.rights == c.rights) = false) : Calls Try.prog 17 #[c.v, d.v] w (MbPost w false) := by
  go_enter Try.func17, Try.ntmps17
  go_wp2
  go_quiet ((go_at_call 21; exact Calls.quiet_of_same (refBoth_any _ _ _ hc0 hc hd0 hd)))
  go_wp2
  go_ret
  exact ⟨rfl, (((Only.refl _ _).alloc _).alloc _).drewN _⟩
theorem refWithin_z (hc0 : 0 ≤ c.rights) (hc : c.rights ≤ 7) (hd0 : 0 ≤ d.rights) (hd : d.rights ≤ 7) (h0 : (c.kind == d.kind) = true) (h1 : (c.obj == d.obj) = true) (h2 : (andR c.rights d.rights == c.rights) = true) (h3 : (d.badge == 0) = true) : Calls Try.prog 17 #[c.v, d.v] w (MbPost w true) := by
  go_enter Try.func17, Try.ntmps17
  go_wp2
  go_quiet ((go_at_call 21; exact Calls.quiet_of_same (refBoth_any _ _ _ hc0 hc hd0 hd)))
  go_wp2
  go_ret
  exact ⟨rfl, (((Only.refl _ _).alloc _).alloc _).drewN _⟩
theorem refWithin_b (hc0 : 0 ≤ c.rights) (hc : c.rights ≤ 7) (hd0 : 0 ≤ d.rights) (hd : d.rights ≤ 7) (h0 : (c.kind == d.kind) = true) (h1 : (c.obj == d.obj) = true) (h2 : (andR c.rights d.rights == c.rights) = true) (h3 : (d.badge == 0) = false) (h4 : (c.badge == d.badge) = true) : Calls Try.prog 17 #[c.v, d.v] w (MbPost w true) := by
  go_enter Try.func17, Try.ntmps17
  go_wp2
  go_quiet ((go_at_call 21; exact Calls.quiet_of_same (refBoth_any _ _ _ hc0 hc hd0 hd)))
  go_wp2
  go_ret
  exact ⟨rfl, (((Only.refl _ _).alloc _).alloc _).drewN _⟩
theorem refWithin_n (hc0 : 0 ≤ c.rights) (hc : c.rights ≤ 7) (hd0 : 0 ≤ d.rights) (hd : d.rights ≤ 7) (h0 : (c.kind == d.kind) = true) (h1 : (c.obj == d.obj) = true) (h2 : (andR c.rights d.rights == c.rights) = true) (h3 : (d.badge == 0) = false) (h4 : (c.badge == d.badge) = false) : Calls Try.prog 17 #[c.v, d.v] w (MbPost w false) := by
  go_enter Try.func17, Try.ntmps17
  go_wp2
  go_quiet ((go_at_call 21; exact Calls.quiet_of_same (refBoth_any _ _ _ hc0 hc hd0 hd)))
  go_wp2
  go_ret
  exact ⟨rfl, (((Only.refl _ _).alloc _).alloc _).drewN _⟩
theorem refWithin_any (hc0 : 0 ≤ c.rights) (hc : c.rights ≤ 7) (hd0 : 0 ≤ d.rights) (hd : d.rights ≤ 7) : Calls Try.prog 17 #[c.v, d.v] w fun e w' => e = .returned (.bool (withinB c d)) ∧ Only [] w w' := by
  have e : withinB c d = ((c.kind == d.kind) && (c.obj == d.obj) && (andR c.rights d.rights == c.rights) && ((d.badge == 0) || (c.badge == d.badge))) := by
    rw [hasB_eq' hd0 hd hc0 hc]; rfl
  rw [e]
  clear e
  by_cases h0 : (c.kind == d.kind) = true
  · by_cases h1 : (c.obj == d.obj) = true
    · by_cases h2 : (andR c.rights d.rights == c.rights) = true
      · by_cases h3 : (d.badge == 0) = true
        · rw [h0, h1, h2, h3]; exact refWithin_z c d w hc0 hc hd0 hd h0 h1 h2 h3
        · have h3' := Bool.eq_false_iff.2 h3
          by_cases h4 : (c.badge == d.badge) = true
          · rw [h0, h1, h2, h3', h4]; exact refWithin_b c d w hc0 hc hd0 hd h0 h1 h2 h3' h4
          · have h4' := Bool.eq_false_iff.2 h4
            rw [h0, h1, h2, h3', h4']; exact refWithin_n c d w hc0 hc hd0 hd h0 h1 h2 h3' h4'
      · have h2' := Bool.eq_false_iff.2 h2
        rw [h0, h1, h2']; exact refWithin_h c d w hc0 hc hd0 hd h0 h1 h2'
    · have h1' := Bool.eq_false_iff.2 h1
      rw [h0, h1']; exact refWithin_o c d w h0 h1'
  · have h0' := Bool.eq_false_iff.2 h0
    rw [h0']; exact refWithin_k c d w h0'
end
end Go.Proofs.Ytpbajcligjlehaa
