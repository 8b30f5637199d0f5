/- LayApart's walk, of one and the same field: for all numbers. -/
import Derived.Test.YtlnealbnkplfmaaLayUp
import Derived.Test.YtlnealbnkplfmaaLayWords
import Derived.Test.YtlnealbnkplfmaaLayField
import Derived.Test.YtlnealbnkplfmaaLayPut
import Derived.Test.YtlnealbnkplfmaaLayApartM
namespace Go.Proofs.Ytlnealbnkplfmaa
open Go.RowKit
set_option maxRecDepth 100000 in
set_option maxHeartbeats 4000000 in
theorem apart_same (i f n : Int) (w : World) :
    Calls Try.prog 6 #[.int .i64 i, .int .i64 f, .int .i64 i, .int .i64 f, .int .i64 n] w fun e w' => e = .returned (.bool true) ∧ Only [] w w' := by
  have ha := (slotI_lt i f).2
  have hc := (objI_lt i f).2
  have hac := fun (h1 : slotB i f = true) (h2 : objB i f = true) => apart_so h1 h2
  obtain ⟨a, xa⟩ : ∃ a, slotI i f = a := ⟨_, rfl⟩
  obtain ⟨c, xc⟩ : ∃ c, objI i f = c := ⟨_, rfl⟩
  obtain ⟨p, xp⟩ : ∃ p, slotB i f = p := ⟨_, rfl⟩
  obtain ⟨r, xr⟩ : ∃ r, objB i f = r := ⟨_, rfl⟩
  have cA := Lib.hid (slot_is xa xp)
  have cC := Lib.hid (obj_is xc xr)
  have cB := cA
  have cD := cC
  rw [xa, xc, xp, xr] at hac
  rw [xa] at ha
  rw [xc] at hc
  have HAC := Lib.hid hac
  clear xa xc xp xr hac
  go_enter Try.func6, Try.ntmps6
  go_wp2_with fail
  (with_reducible refine (up_any _).mono ?_)
  rintro e w' ⟨rfl, rfl⟩
  go_wp2_with fail
  (with_reducible refine (cA.out _).mono ?_)
  rintro e w' ⟨rfl, rfl⟩
  go_wp2_with fail
  (with_reducible refine (cB.out _).mono ?_)
  rintro e w' ⟨rfl, rfl⟩
  go_wp2_with fail
  (with_reducible refine (cC.out _).mono ?_)
  rintro e w' ⟨rfl, rfl⟩
  go_wp2_with fail
  (with_reducible refine (cD.out _).mono ?_)
  rintro e w' ⟨rfl, rfl⟩
  go_wp2_with fail
  (with_reducible refine (size_any _).mono ?_)
  rintro e w' ⟨rfl, rfl⟩
  cases p <;> cases r
  all_goals
    first
      | (have q1 := HAC.out rfl rfl)
      | skip
    go_wp2_with fail
    go_ret
    exact ⟨rfl, Only.refl _ _⟩
end Go.Proofs.Ytlnealbnkplfmaa
