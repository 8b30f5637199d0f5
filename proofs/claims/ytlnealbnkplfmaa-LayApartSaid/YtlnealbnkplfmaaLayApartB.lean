/- LayApart's walk, of unlike slots, or objects: for all numbers. -/
import Derived.Test.YtlnealbnkplfmaaLayUp
import Derived.Test.YtlnealbnkplfmaaLayWords
import Derived.Test.YtlnealbnkplfmaaLayField
import Derived.Test.YtlnealbnkplfmaaLayPut
import Derived.Test.YtlnealbnkplfmaaLayApartM
namespace Go.Proofs.Ytlnealbnkplfmaa
open Go.RowKit
set_option maxRecDepth 100000 in
set_option maxHeartbeats 4000000 in
theorem apart_ik (i f k o : Int) (hik : i ≠ k) (n : Int) (w : World) :
    Calls Try.prog 6 #[.int .i64 i, .int .i64 f, .int .i64 k, .int .i64 o, .int .i64 n] w fun e w' => e = .returned (.bool true) ∧ Only [] w w' := by
  have hq : (i == k) = false := by simpa using hik
  have hne : i ≠ k ∨ f ≠ o := .inl hik
  have ha := (slotI_lt i f).2
  have hc := (objI_lt i f).2
  have had := fun (h1 : slotB i f = true) (h2 : objB k o = true) => apart_so h1 h2
  have hbc := fun (h1 : slotB k o = true) (h2 : objB i f = true) => apart_so h1 h2
  have hab := fun (h1 : slotB i f = true) (h2 : slotB k o = true) => apart_ss h1 h2 hne
  have hcd := fun (h1 : objB i f = true) (h2 : objB k o = true) => apart_oo h1 h2 hne
  have hFF := Lib.hid fun (h1 : objB i f = true) (h2 : objB k o = true) (h3 : 0 ≤ n) (h4 : n ≤ 1099511627776) => apart_fields zeros_len h1 h2 hne h3 h4
  obtain ⟨a, xa⟩ : ∃ a, slotI i f = a := ⟨_, rfl⟩
  obtain ⟨b, xb⟩ : ∃ b, slotI k o = b := ⟨_, rfl⟩
  obtain ⟨c, xc⟩ : ∃ c, objI i f = c := ⟨_, rfl⟩
  obtain ⟨d, xd⟩ : ∃ d, objI k o = d := ⟨_, rfl⟩
  obtain ⟨p, xp⟩ : ∃ p, slotB i f = p := ⟨_, rfl⟩
  obtain ⟨q, xq⟩ : ∃ q, slotB k o = q := ⟨_, rfl⟩
  obtain ⟨r, xr⟩ : ∃ r, objB i f = r := ⟨_, rfl⟩
  obtain ⟨s, xs⟩ : ∃ s, objB k o = s := ⟨_, rfl⟩
  have cA := Lib.hid (slot_is xa xp)
  have cB := Lib.hid (slot_is xb xq)
  have cC := Lib.hid (obj_is xc xr)
  have cD := Lib.hid (obj_is xd xs)
  rw [xa, xd, xp, xs] at had
  rw [xb, xc, xq, xr] at hbc
  rw [xa, xb, xp, xq] at hab
  rw [xc, xd, xr, xs] at hcd
  rw [xr, xs] at hFF
  rw [xa] at ha
  rw [xc] at hc
  have HAD := Lib.hid had
  have HBC := Lib.hid hbc
  have HAB := Lib.hid hab
  have HCD := Lib.hid hcd
  clear xa xb xc xd xp xq xr xs had hbc hab hcd hne
  go_enter Try.func6, Try.ntmps6
  go_wp2_with fail
  (with_reducible refine (up_any _).mono ?_)
  rintro e w' ⟨rfl, rfl⟩
  go_wp2_with fail
  (with_reducible refine (cA.out _).mono ?_)
  rintro e w' ⟨rfl, rfl⟩
  go_wp2_with fail
  (with_reducible refine (cB.out _).mono ?_)
  rintro e w' ⟨rfl, rfl⟩
  go_wp2_with fail
  (with_reducible refine (cC.out _).mono ?_)
  rintro e w' ⟨rfl, rfl⟩
  go_wp2_with fail
  (with_reducible refine (cD.out _).mono ?_)
  rintro e w' ⟨rfl, rfl⟩
  go_wp2_with fail
  (with_reducible refine (size_any _).mono ?_)
  rintro e w' ⟨rfl, rfl⟩
  by_cases hrs : r = true ∧ s = true
  · obtain ⟨rfl, rfl⟩ := hrs
    rcases (by omega : n < 0 ∨ (0 ≤ n ∧ 1099511627776 < n) ∨ (0 ≤ n ∧ n ≤ 1099511627776)) with n0 | ⟨n0, n1⟩ | ⟨n0, n1⟩
    · cases p <;> cases q
      all_goals
        first
          | (have q1 := HAD.out rfl rfl)
          | skip
        first
          | (have q2 := HBC.out rfl rfl)
          | skip
        first
          | (have q3 := HAB.out rfl rfl)
          | skip
        first
          | (have q4 := HCD.out rfl rfl)
          | skip
        go_wp2_with fail
        go_ret
        exact ⟨rfl, Only.refl _ _⟩
    · cases p <;> cases q
      all_goals
        first
          | (have q1 := HAD.out rfl rfl)
          | skip
        first
          | (have q2 := HBC.out rfl rfl)
          | skip
        first
          | (have q3 := HAB.out rfl rfl)
          | skip
        first
          | (have q4 := HCD.out rfl rfl)
          | skip
        go_wp2_with fail
        go_ret
        exact ⟨rfl, Only.refl _ _⟩
    · obtain ⟨k1, k2⟩ := hFF.out rfl rfl n0 n1
      have HP1 : Hid ((putP k o 7).run machP zeros = ((), putL zeros k o 7)) := Lib.hid putP_plain
      have HP2 : Hid ((putP i f n).run machP (putL zeros k o 7) = ((), putL (putL zeros k o 7) i f n)) := Lib.hid putP_plain
      have HF1 : Hid ((fieldP k o).run machP (putL (putL zeros k o 7) i f n) = (7, putL (putL zeros k o 7) i f n)) := Lib.hid (by rw [fieldP_plain, k1])
      have HF2 : Hid ((fieldP i f).run machP (putL (putL zeros k o 7) i f n) = (n, putL (putL zeros k o 7) i f n)) := Lib.hid (by rw [fieldP_plain, k2])
      have n2 : n ≤ 9223372036854775807 := by omega
      clear k1 k2 hFF
      cases p <;> cases q
      all_goals
        first
          | (have q1 := HAD.out rfl rfl)
          | skip
        first
          | (have q2 := HBC.out rfl rfl)
          | skip
        first
          | (have q3 := HAB.out rfl rfl)
          | skip
        first
          | (have q4 := HCD.out rfl rfl)
          | skip
        go_wp2_with fail
        (with_reducible refine (words_nil _).mono ?_)
        rintro e w1 ⟨rfl, hm1, ho1⟩
        go_wp2_with fail
        (with_reducible refine (put_is (viewP _ _ _ _) hm1 (by decide) HP1.out).mono ?_)
        rintro e w2 ⟨rfl, hm2, ho2⟩
        go_wp2_with fail
        (with_reducible refine (put_is (viewP _ _ _ _) hm2 n2 HP2.out).mono ?_)
        rintro e w3 ⟨rfl, hm3, ho3⟩
        go_wp2_with fail
        (with_reducible refine (field_is (viewP _ _ _ _) hm3 HF1.out).mono ?_)
        rintro e w4 ⟨rfl, hm4, ho4⟩
        go_wp2_with fail
        (with_reducible refine (field_is (viewP _ _ _ _) hm4 HF2.out).mono ?_)
        rintro e w5 ⟨rfl, hm5, ho5⟩
        go_wp2_with fail
        go_ret
        exact ⟨rfl, ho1.then (((ho2.trans ho3).trans ho4).trans ho5) (fun y hy => .inr (by simp at hy; omega))⟩
  · have hrs' : Hid (¬ (r = true ∧ s = true)) := Lib.hid hrs
    clear hrs
    cases p <;> cases q <;> cases r <;> cases s
    all_goals first
      | exact absurd ⟨rfl, rfl⟩ hrs'.out
      | skip
    all_goals
      first
        | (have q1 := HAD.out rfl rfl)
        | skip
      first
        | (have q2 := HBC.out rfl rfl)
        | skip
      first
        | (have q3 := HAB.out rfl rfl)
        | skip
      first
        | (have q4 := HCD.out rfl rfl)
        | skip
      clear hrs'
      go_wp2_with fail
      go_ret
      exact ⟨rfl, Only.refl _ _⟩
end Go.Proofs.Ytlnealbnkplfmaa
