/- What Has, Derive, Mint, Mutate, Within of package rights answer (layer 3): for every capability and every number. -/
import Derived.Test.YtpbajcligjlehaaPackMay
import Derived.Test.YtpbajcligjlehaaRightsM
namespace Go.Proofs.Ytpbajcligjlehaa
open Go.RowKit
/-- an error of that number; 0: none -/
def errV (n : Int) : Value := if n = 0 then .nilIface else .iface 38 (.int .i64 n)
theorem has_any (c : Cp) (n : Int) (w : World) : Calls Try.prog 14 #[c.v, .int .i64 n] w fun e w' => e = .returned (.bool (hasB c.rights n)) ∧ Only [] w w' := by
  go_enter Try.func14, Try.ntmps14
  go_wp2
  go_ret
  exact ⟨rfl, (Only.refl _ _).alloc _⟩
theorem mask_any (m : Int) (w : World) : Calls Try.prog 19 #[.int .i64 m] w fun e w' => e = .returned (.bool (maskB m)) ∧ w' = w := by
  go_enter Try.func19, Try.ntmps19
  go_wp2
  all_goals go_ret
  · have h : 0 ≤ m := by assumption
    exact ⟨by simp [maskB, upToB, h], rfl⟩
  · have h : m < 0 := by assumption
    exact ⟨by unfold maskB; rw [upToB_no (by omega)]; rfl, rfl⟩
section
variable (c : Cp) (w : World)
theorem some_any : Calls Try.prog 18 #[c.v] w fun e w' => e = .returned (.bool (someB c)) ∧ Only [] w w' := by
  by_cases hk : c.kind = 0
  · have hd : (c.kind != 0) = false := by simp [hk]
    have e : someB c = false := by unfold someB; simp [hk]
    rw [e]
    clear e hk
    go_enter Try.func18, Try.ntmps18
    go_wp2
    go_ret
    exact ⟨rfl, (Only.refl _ _).alloc _⟩
  · have hd : (c.kind != 0) = true := by simpa using hk
    have e : someB c = c.mayB := by unfold someB; simp [hk]
    rw [e]
    clear e hk
    go_enter Try.func18, Try.ntmps18
    go_wp2_with (go_at_call 20; refine (may_any _ _).mono ?_; rintro e w' ⟨rfl, ho1⟩)
    go_ret
    exact ⟨rfl, ((Only.refl _ _).alloc _).trans ho1⟩
theorem within_any (d : Cp) : Calls Try.prog 16 #[c.v, d.v] w fun e w' => e = .returned (.bool (withinB c d)) ∧ Only [] w w' := by
  have hd : withinB c d = ((c.kind == d.kind) && (c.obj == d.obj) && hasB d.rights c.rights && ((d.badge == 0) || (c.badge == d.badge))) := rfl
  have H := Lib.hid hd
  clear hd
  have hb0 := (Blk.new w 23 c.arr).alloc (.cells d.arr 23)
  have hb1 := Blk.new (w.alloc (.cells c.arr 23)) 23 d.arr
  rw [show (w.alloc (.cells c.arr 23)).heap.size = w.heap.size + 1 by simp] at hb1
  go_enter Try.func16, Try.ntmps16
  go_wp2_with (go_at_call 14; refine (has_any _ _ _).mono ?_; rintro e w' ⟨rfl, ho1⟩; obtain ⟨k0, k1, k2, k3, k4, k5⟩ := (ho1.blk hb0 (by simp)).six; obtain ⟨l0, l1, l2, l3, l4, l5⟩ := (ho1.blk hb1 (by simp)).six)
  all_goals go_ret
  all_goals refine ⟨by rw [H.out]; simp [*], ?_⟩
  all_goals first
    | exact (((Only.refl _ _).alloc _).alloc _).trans ho1
    | exact ((Only.refl _ _).alloc _).alloc _
end
end Go.Proofs.Ytpbajcligjlehaa
