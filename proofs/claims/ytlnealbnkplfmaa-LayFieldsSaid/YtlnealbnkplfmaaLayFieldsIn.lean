/- LayFields' walk, of a field that is one: for all numbers. -/
import Derived.Test.YtlnealbnkplfmaaLayFields
namespace Go.Proofs.Ytlnealbnkplfmaa
open Go.RowKit
theorem memP_cell {g : Nat} {t : TypeId} {w : World} {L : List Int} {nn m : Nat} {x : Int} (h : MemP g nn t w L) (hx : L[m]? = some x) : w.cell? ⟨g, m, none⟩ = some (.int .u64 x) := by
  obtain ⟨b, off, e0, -, hc⟩ := h.row.wds m x hx
  injection e0 with e0
  injection e0 with e1 e2 _
  subst e1 e2
  rw [Nat.zero_add] at hc
  exact hc
theorem memP_set {g : Nat} {t : TypeId} {w : World} {L : List Int} {nn m : Nat} {x : Int} (h : MemP g nn t w L) (hm : m < nn) (hx : U64 x) : MemP g nn t (w.setCell ⟨g, m, none⟩ (.int .u64 x)) (setL L m x) :=
  ⟨by rw [setL_length]; exact h.len, h.row.set_ (by rw [h.len]; exact hm) x, h.us.set m hx⟩
theorem set_get {L : List Int} {m : Nat} {x : Int} (hm : m < L.length) : (setL L m x)[m]? = some x := by
  rw [setL_in x hm, List.getElem?_set_self hm]
set_option maxRecDepth 100000 in
set_option maxHeartbeats 4000000 in
theorem fields_in (i f x n k : Int) (hx : U64 x) (hn : n ≤ 9223372036854775807) (hk : k ≤ 9223372036854775807) (hb : objB i f = true) (w : World) :
    Calls Try.prog 4 #[.int .i64 i, .int .i64 f, .int .u64 x, .int .i64 n, .int .i64 k] w fun e w' => e = .returned (.bool true) ∧ Only [] w w' := by
  obtain ⟨i0, i1, f0, f1⟩ := objB_yes.1 hb
  obtain ⟨m, hm⟩ : ∃ m : Nat, 480 + 8 * i + f = m := ⟨(480 + 8 * i + f).toNat, by omega⟩
  have hm1 : m < 738 := by omega
  have hHM := Lib.hid hm
  have hz := zeros_get hm1
  have hL : Hid ((setL zeros m x)[m]? = some x) := Lib.hid (set_get (by rw [zeros_len]; exact hm1))
  have hA : atL (setL zeros m x) m = x := atL_in hL.out
  obtain ⟨L1, hL1⟩ : ∃ L1, Hid (setL zeros m x = L1) := ⟨_, Lib.hid rfl⟩
  rw [hL1.out] at hL hA
  obtain ⟨u, hu⟩ : ∃ u, Hid (numI x = u) := ⟨_, Lib.hid rfl⟩
  have hF : Hid ((fieldP i f).run machP L1 = (u, L1)) := Lib.hid (by rw [fieldP_plain]; simp only [fieldL, hb, if_true, hm, hA, hu.out])
  have hI : f = 0 → 0 ≤ k → (isP i k).run machP L1 = ((x == k), L1) := fun e h => by
    subst e
    rw [Int.add_zero] at hm
    rw [isP_plain, isL, hm, hA, hb]
    simp [h]
  have hI' : k < 0 → (isP i k).run machP L1 = (false, L1) := fun h => by
    rw [isP_plain, isL]
    simp [Int.not_le.2 h]
  have hP : 0 ≤ n → (putP i f n).run machP L1 = ((), setL L1 m n) := fun h => by rw [putP_plain]; simp only [putL, hb, h, and_self, if_true, hm]
  have hP' : n < 0 → (putP i f n).run machP L1 = ((), L1) := fun h => by rw [putP_plain]; simp [putL, Int.not_le.2 h]
  have hu0 := numI_rng hx
  rw [hu.out] at hu0
  obtain ⟨u0, u1⟩ := hu0
  have hR : (refP i f).run machP L1 = (if belowB (u - 1) 32 = true then (u - 1, true) else (0, false), L1) := by
    unfold refP
    rw [Vp.run_bind_is hF.out, Vp.run_ret]
  have hl1 : Hid (L1.length = 738) := Lib.hid (by rw [← hL1.out, setL_length, zeros_len])
  have HX := Lib.hid hx
  have HI := Lib.hid hI
  have HI' := Lib.hid hI'
  have HP := Lib.hid hP
  have HP' := Lib.hid hP'
  have HR := Lib.hid hR
  have HZ := Lib.hid hz
  clear hb hA hI hI' hP hP' hx hR hz
  go_enter Try.func4, Try.ntmps4
  go_wp2_with fail
  (with_reducible refine (up_any _).mono ?_)
  rintro e w' ⟨rfl, rfl⟩
  go_wp2_with fail
  (with_reducible refine (words_nil _).mono ?_)
  rintro e w1 ⟨rfl, hp1, ho1⟩
  have hc := memP_cell hp1 HZ.out
  have hf := hp1.row.frozen m
  have hp2 := memP_set hp1 hm1 HX.out
  rw [hL1.out] at hp2
  have ho2 := ho1.setCell (p := ⟨w'.heap.size, m, none⟩) (.inr (Nat.le_refl _)) (.int .u64 x)
  have HB := Lib.hid (And.intro hp2 ho2)
  have hlt := hp1.row.lt
  clear hp1 ho1 hp2 ho2
  go_wp2_with fail
  have hRw : (u < 1 ∧ u = 0 ∧ belowB (u - 1) 32 = false) ∨ (1 ≤ u ∧ u ≤ 32 ∧ belowB (u - 1) 32 = true) ∨ (1 ≤ u ∧ 32 < u ∧ belowB (u - 1) 32 = false) := by
    rw [belowB_yes, belowB_no]
    omega
  rcases hRw with ⟨h1, hu0', hbl⟩ | ⟨h1, h2, hbl⟩ | ⟨h1, h2, hbl⟩
  all_goals
    have hR := HR.out
    rw [hbl] at hR
    have HR2 := Lib.hid hR
    clear hR hbl HR
    (with_reducible refine (ref_is (viewP _ _ _ _) HB.out.1 HR2.out).mono ?_)
    rintro e w2 ⟨rfl, hp2, ho2⟩
    have HB2 := Lib.hid (And.intro hp2 (HB.out.2.then ho2 (fun y hy => .inr (by simp at hy; omega))))
    clear HB hp2 ho2 hc hf
    go_wp2_with fail
    (with_reducible refine (number_is HX.out hu.out _).mono ?_)
    rintro e w9 ⟨rfl, rfl⟩
    go_wp2_with fail
    (with_reducible refine (field_is (viewP _ _ _ _) HB2.out.1 hF.out).mono ?_)
    rintro e w3 ⟨rfl, hp3, ho3⟩
    have HB3 := Lib.hid (And.intro hp3 (HB2.out.2.then ho3 (fun y hy => .inr (by simp at hy; omega))))
    clear HB2 hp3 ho3
    rcases (by omega : f = 0 ∨ 1 ≤ f) with hf0 | hf0
    · subst hf0
      go_wp2_with fail
      rcases (by omega : k < 0 ∨ 0 ≤ k) with hk0 | hk0
      · have hi4 := Lib.hid (HI'.out hk0)
        (with_reducible refine (is_is (viewP _ _ _ _) HB3.out.1 hk (hi4.out)).mono ?_)
        rintro e w4 ⟨rfl, hp4, ho4⟩
        have HB4 := Lib.hid (And.intro hp4 (HB3.out.2.then ho4 (fun y hy => .inr (by simp at hy; omega))))
        clear HB3 hp4 ho4
        go_wp2_with fail
        rcases (by omega : 0 ≤ n ∨ n < 0) with hn0 | hn0
        · (with_reducible refine (put_is (viewP _ _ _ _) HB4.out.1 hn (HP.out hn0)).mono ?_)
          rintro e w5 ⟨rfl, hp5, ho5⟩
          have hoz := HB4.out.2.then ho5 (fun y hy => .inr (by simp at hy; omega))
          have hc5 := memP_cell hp5 (set_get (x := n) (by rw [hl1.out]; exact hm1))
          clear hp5 ho5 HB4
          go_wp2_with fail
          go_ret
          exact ⟨rfl, hoz⟩
        · (with_reducible refine (put_is (viewP _ _ _ _) HB4.out.1 hn (HP'.out hn0)).mono ?_)
          rintro e w5 ⟨rfl, hp5, ho5⟩
          have hoz := HB4.out.2.then ho5 (fun y hy => .inr (by simp at hy; omega))
          have hc5 := memP_cell hp5 hL.out
          clear hp5 ho5 HB4
          go_wp2_with fail
          go_ret
          exact ⟨rfl, hoz⟩
      · have hi4 := Lib.hid (HI.out (by trivial) hk0)
        (with_reducible refine (is_is (viewP _ _ _ _) HB3.out.1 hk (hi4.out)).mono ?_)
        rintro e w4 ⟨rfl, hp4, ho4⟩
        have HB4 := Lib.hid (And.intro hp4 (HB3.out.2.then ho4 (fun y hy => .inr (by simp at hy; omega))))
        clear HB3 hp4 ho4
        go_wp2_with fail
        rcases (by omega : 0 ≤ n ∨ n < 0) with hn0 | hn0
        · (with_reducible refine (put_is (viewP _ _ _ _) HB4.out.1 hn (HP.out hn0)).mono ?_)
          rintro e w5 ⟨rfl, hp5, ho5⟩
          have hoz := HB4.out.2.then ho5 (fun y hy => .inr (by simp at hy; omega))
          have hc5 := memP_cell hp5 (set_get (x := n) (by rw [hl1.out]; exact hm1))
          clear hp5 ho5 HB4
          go_wp2_with fail
          go_ret
          exact ⟨rfl, hoz⟩
        · (with_reducible refine (put_is (viewP _ _ _ _) HB4.out.1 hn (HP'.out hn0)).mono ?_)
          rintro e w5 ⟨rfl, hp5, ho5⟩
          have hoz := HB4.out.2.then ho5 (fun y hy => .inr (by simp at hy; omega))
          have hc5 := memP_cell hp5 hL.out
          clear hp5 ho5 HB4
          go_wp2_with fail
          go_ret
          exact ⟨rfl, hoz⟩
    · go_wp2_with fail
      rcases (by omega : 0 ≤ n ∨ n < 0) with hn0 | hn0
      · (with_reducible refine (put_is (viewP _ _ _ _) HB3.out.1 hn (HP.out hn0)).mono ?_)
        rintro e w5 ⟨rfl, hp5, ho5⟩
        have hoz := HB3.out.2.then ho5 (fun y hy => .inr (by simp at hy; omega))
        have hc5 := memP_cell hp5 (set_get (x := n) (by rw [hl1.out]; exact hm1))
        clear hp5 ho5 HB3
        go_wp2_with fail
        go_ret
        exact ⟨rfl, hoz⟩
      · (with_reducible refine (put_is (viewP _ _ _ _) HB3.out.1 hn (HP'.out hn0)).mono ?_)
        rintro e w5 ⟨rfl, hp5, ho5⟩
        have hoz := HB3.out.2.then ho5 (fun y hy => .inr (by simp at hy; omega))
        have hc5 := memP_cell hp5 hL.out
        clear hp5 ho5 HB3
        go_wp2_with fail
        go_ret
        exact ⟨rfl, hoz⟩
theorem fields_any (i f x n k : Int) (hx : U64 x) (hn : n ≤ 9223372036854775807) (hk : k ≤ 9223372036854775807) (w : World) :
    Calls Try.prog 4 #[.int .i64 i, .int .i64 f, .int .u64 x, .int .i64 n, .int .i64 k] w fun e w' => e = .returned (.bool true) ∧ Only [] w w' := by
  cases hb : objB i f with
  | false => exact fields_out i f x n k hn hk hb w
  | true => exact fields_in i f x n k hx hn hk hb w
end Go.Proofs.Ytlnealbnkplfmaa
