/- What the document's own answer for layer 4 answers: Join, for all lists that are not long. -/
import Derived.Test.YteendpbehlamjaaRefTwo
import Derived.Test.YteendpbehlamjaaGuardM
import Derived.Test.YteendpbehlamjaaIntsA
import Derived.Deep.LoopGhost
namespace Go.Proofs.Yteendpbehlamjaa
open Go.RowKit
section
variable {A B : Option Addr} {P Q : List Int} {x n : Int} (cp cq : Nat) (w : World)
set_option maxHeartbeats 1000000 in
theorem rjoin_eq (hP : Ints w A P) (hQ : Ints w B Q) (hl : P.length ≤ 50) (hn : P.length = Q.length) (h : joinGo P Q 0 16 = (x, n)) : Calls Try.prog 13 #[.slice A P.length cp, .slice B P.length cq] w fun e w' => e = .returned (.tuple #[.int .i64 x, .int .i64 n]) ∧ Only [] w w' := by
  have hN := Lib.hid hn
  clear hn
  go_enter Try.func13, Try.ntmps13
  go_wp2_with fail
  go_loopg [6, 7, 8] P.length (fun gk a l i wr => ∃ (k : Nat) (s r : Int), k ≤ P.length ∧ gk = P.length - k ∧ a = .int .i64 s ∧ l = .int .i64 r ∧ i = .int .i64 k ∧ Jd s r ∧ joinGo (P.drop k) (Q.drop k) s r = (x, n) ∧ Only [] w wr)
  case atStart => exact ⟨0, 0, 16, by omega, by omega, rfl, rfl, rfl, Jd.start, h, Only.refl _ _⟩
  case round =>
    obtain ⟨k, s, r, hk, rfl, rfl, rfl, rfl, hJ, hG, hO⟩ := hrel
    have J := Lib.hid hJ
    have G := Lib.hid hG
    obtain ⟨r0, r1, s0, s1, -⟩ := hJ
    clear hG h
    by_cases hlt : k < P.length
    · obtain ⟨p, hp⟩ : ∃ p, P[k]? = some p := ⟨_, List.getElem?_eq_getElem hlt⟩
      obtain ⟨b, hb⟩ : ∃ b, Q[k]? = some b := ⟨_, List.getElem?_eq_getElem (by have := hN.out; omega)⟩
      obtain ⟨B1, o1, rfl, hB1, hc1⟩ := (hP.only hO).at_ k p hp
      obtain ⟨B2, o2, rfl, hB2, hc2⟩ := (hQ.only hO).at_ k b hb
      have hp' := Lib.hid hp
      have hb' := Lib.hid hb
      clear hp hb hP hQ
      have stop : (b < 0 ∨ r < b ∨ p < 0 ∨ 2 ^ b.toNat ≤ p) → x = 0 ∧ n = 1 := fun bad => by
        have e := (joinGo_bad hp'.out hb'.out bad).symm.trans G.out
        injection e with e1 e2
        exact ⟨e1.symm, e2.symm⟩
      by_cases b0 : b < 0
      · obtain ⟨rfl, rfl⟩ := stop (.inl b0)
        clear stop
        go_wp2_with fail
        go_ret2
        exact ⟨rfl, hO⟩
      by_cases b1 : r < b
      · obtain ⟨rfl, rfl⟩ := stop (.inr (.inl b1))
        have b0' : 0 ≤ b := by omega
        clear stop b0
        go_wp2_with fail
        go_ret2
        exact ⟨rfl, hO⟩
      have b0' : 0 ≤ b := by omega
      have b1' : b ≤ r := by omega
      clear b0 b1
      by_cases p0 : p < 0
      · obtain ⟨rfl, rfl⟩ := stop (.inr (.inr (.inl p0)))
        clear stop
        go_wp2_with fail
        go_ret2
        exact ⟨rfl, hO⟩
      have p0' : 0 ≤ p := by omega
      clear p0
      by_cases p1 : 2 ^ b.toNat ≤ p
      · obtain ⟨rfl, rfl⟩ := stop (.inr (.inr (.inr p1)))
        clear stop
        go_wp2_with fail
        go_quiet ((go_at_call 17; exact Calls.quiet_of_same (two_any _ _ (by omega))))
        go_wp2_with fail
        go_ret2
        exact ⟨rfl, hO.drewN _⟩
      · have p1' : p < 2 ^ b.toNat := by omega
        clear p1
        have J' := Lib.hid (J.out.next b0' b1' p0' p1')
        obtain ⟨q0, q1⟩ := J.out.part b0' b1' p0' p1'
        have q2 := (pw16 r1).2
        have q3 := pw_pos (r - b).toNat
        have q4 := (pw16 (b := r - b) (by omega)).2
        have q5 := (pw16 (b := b) (by omega)).2
        have G' := Lib.hid ((joinGo_good hp'.out hb'.out (by omega)).symm.trans G.out)
        clear stop J G hp' hb'
        go_wp2_with fail
        go_quiet ((go_at_call 17; exact Calls.quiet_of_same (two_any _ _ (by omega))))
        go_wp2_with fail
        have hrb : r - b ≤ 62 := by omega
        go_quiet ((go_at_call 17; exact (two_any (r - b) _ hrb).mono (fun _ _ ⟨he, hw⟩ => ⟨he, _, hw⟩)))
        go_wp2_with fail
        go_roundg (P.length - (k + 1))
        case measure => omega
        case rel => exact ⟨k + 1, _, _, by omega, rfl, rfl, rfl, by go_num, J'.out, G'.out, hO.drewN _⟩
    · obtain rfl : k = P.length := by omega
      have e := (joinGo_end (ps := P) (bs := Q) (k := P.length) (a := s) (l := r)).symm.trans G.out
      injection e with e1 e2
      subst e1 e2
      clear G J
      go_wp2_with fail
      go_ret2
      exact ⟨rfl, hO⟩
theorem rjoin_is (hP : Ints w A P) (hQ : Ints w B Q) (hl : P.length ≤ 50) (_hl' : Q.length ≤ 50) (h : joinI P Q = (x, n)) : Calls Try.prog 13 #[.slice A P.length cp, .slice B Q.length cq] w fun e w' => e = .returned (.tuple #[.int .i64 x, .int .i64 n]) ∧ Only [] w w' := by
  by_cases hn : P.length = Q.length
  · unfold joinI at h
    rw [if_pos hn] at h
    rw [← hn]
    exact rjoin_eq cp cq w hP hQ hl hn h
  · unfold joinI at h
    rw [if_neg hn] at h
    injection h with e1 e2
    subst e1 e2
    have hd : ((P.length : Int) != (Q.length : Int)) = true := by simp; omega
    clear hn
    go_enter Try.func13, Try.ntmps13
    go_wp2_with fail
    go_ret2
    exact ⟨rfl, Only.refl _ _⟩
end
end Go.Proofs.Yteendpbehlamjaa
