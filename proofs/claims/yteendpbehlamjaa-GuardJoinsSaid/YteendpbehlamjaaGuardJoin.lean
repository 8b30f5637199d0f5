/- What Join of package guard answers (layer 4): for all lists that are not long. -/
import Derived.Test.YteendpbehlamjaaGuardA
import Derived.Test.YteendpbehlamjaaErr
import Derived.Test.YteendpbehlamjaaIntsA
namespace Go.Proofs.Yteendpbehlamjaa
open Go.RowKit
section
variable {A B : Option Addr} {P Q : List Int} {x n : Int} (cp cq : Nat) (w : World)
set_option maxHeartbeats 1000000 in
theorem join_eq (hP : Ints w A P) (hQ : Ints w B Q) (hl : P.length ≤ 50) (hn : P.length = Q.length) (h : joinGo P Q 0 16 = (x, n)) : Calls Try.prog 12 #[.slice A P.length cp, .slice B P.length cq] w fun e w' => e = .returned (.tuple #[.int .i64 x, errV n]) ∧ w' = w := by
  have hN := Lib.hid hn
  clear hn
  go_enter Try.func12, Try.ntmps12
  go_wp2_with fail
  go_loop [6, 7, 18] (fun a l i => ∃ (k : Nat) (s r : Int), k ≤ P.length ∧ a = .int .i64 s ∧ l = .int .i64 r ∧ i = .int .i64 k ∧ Jd s r ∧ joinGo (P.drop k) (Q.drop k) s r = (x, n)) (fun _ _ i => P.length - (intOf i).toNat)
  case atStart => exact ⟨0, 0, 16, by omega, rfl, rfl, rfl, Jd.start, h⟩
  case round =>
    obtain ⟨k, s, r, hk, rfl, rfl, rfl, hJ, hG⟩ := hrel
    have J := Lib.hid hJ
    have G := Lib.hid hG
    obtain ⟨r0, r1, -, -, -⟩ := hJ
    clear hG h
    by_cases hlt : k < P.length
    · obtain ⟨p, hp⟩ : ∃ p, P[k]? = some p := ⟨_, List.getElem?_eq_getElem hlt⟩
      obtain ⟨b, hb⟩ : ∃ b, Q[k]? = some b := ⟨_, List.getElem?_eq_getElem (by have := hN.out; omega)⟩
      obtain ⟨B1, o1, rfl, hB1, hc1⟩ := hP.at_ k p hp
      obtain ⟨B2, o2, rfl, hB2, hc2⟩ := hQ.at_ k b hb
      have hp' := Lib.hid hp
      have hb' := Lib.hid hb
      clear hp hb hP hQ
      have stop : (b < 0 ∨ r < b ∨ p < 0 ∨ 2 ^ b.toNat ≤ p) → x = 0 ∧ n = 1 := fun bad => by
        have e := (joinGo_bad hp'.out hb'.out bad).symm.trans G.out
        injection e with e1 e2
        exact ⟨e1.symm, e2.symm⟩
      by_cases b0 : b < 0
      · obtain ⟨rfl, rfl⟩ := stop (.inl b0)
        clear stop
        go_wp2_with fail
        go_ret2
        exact ⟨rfl, rfl⟩
      by_cases b1 : r < b
      · obtain ⟨rfl, rfl⟩ := stop (.inr (.inl b1))
        have b0' : 0 ≤ b := by omega
        clear stop b0
        go_wp2_with fail
        go_ret2
        exact ⟨rfl, rfl⟩
      have b0' : 0 ≤ b := by omega
      have b1' : b ≤ r := by omega
      clear b0 b1
      cases hF : fitsB p b with
      | false =>
        obtain ⟨rfl, rfl⟩ := stop (.inr (.inr ((fitsB_no p b).1 hF)))
        have F := Lib.hid hF
        clear stop hF
        go_wp2_with (go_at_call 18; (refine (fits_is (by omega) (by omega) F.out _).mono ?_); rintro e w' ⟨rfl, rfl⟩)
        go_ret2
        exact ⟨rfl, rfl⟩
      | true =>
        have F := Lib.hid hF
        have hF' := (fitsB_iff p b).1 hF
        have J' := Lib.hid (J.out.next b0' b1' hF'.1 hF'.2)
        have O := Lib.hid (J.out.or b0' b1' hF'.1 hF'.2)
        obtain ⟨q0, q1⟩ := J.out.part b0' b1' hF'.1 hF'.2
        have q2 := (pw16 r1).2
        have q3 := pw_pos (r - b).toNat
        have G' := Lib.hid ((joinGo_good hp'.out hb'.out (by omega)).symm.trans G.out)
        clear stop hF hF' J G hp' hb'
        go_wp2_with (go_at_call 18; (refine (fits_is (by omega) (by omega) F.out _).mono ?_); rintro e w' ⟨rfl, rfl⟩)
        go_round
        case rel => exact ⟨k + 1, _, _, by omega, by rw [O.out], rfl, by go_num, J'.out, G'.out⟩
        case measure => simp [intOf]; omega
    · obtain rfl : k = P.length := by omega
      have e := (joinGo_end (ps := P) (bs := Q) (k := P.length) (a := s) (l := r)).symm.trans G.out
      injection e with e1 e2
      subst e1 e2
      clear G J
      go_wp2_with fail
      go_ret2
      exact ⟨rfl, rfl⟩
theorem join_is (hP : Ints w A P) (hQ : Ints w B Q) (hl : P.length ≤ 50) (_hl' : Q.length ≤ 50) (h : joinI P Q = (x, n)) : Calls Try.prog 12 #[.slice A P.length cp, .slice B Q.length cq] w fun e w' => e = .returned (.tuple #[.int .i64 x, errV n]) ∧ w' = w := by
  by_cases hn : P.length = Q.length
  · unfold joinI at h
    rw [if_pos hn] at h
    rw [← hn]
    exact join_eq cp cq w hP hQ hl hn h
  · unfold joinI at h
    rw [if_neg hn] at h
    injection h with e1 e2
    subst e1 e2
    have hd : ((P.length : Int) != (Q.length : Int)) = true := by simp; omega
    clear hn
    go_enter Try.func12, Try.ntmps12
    go_wp2_with fail
    go_ret2
    exact ⟨rfl, rfl⟩
end
end Go.Proofs.Yteendpbehlamjaa
