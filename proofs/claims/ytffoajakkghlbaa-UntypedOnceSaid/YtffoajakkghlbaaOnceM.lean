/- Memory of a boot state made into objects, one behind the other (layer 13): what is numbered, what is used; as mathematics. -/
import Derived.Test.YtffoajakkghlbaaJ16
namespace Go.Proofs.Ytffoajakkghlbaa
open Go.RowKit
/-- a state whose slot 8 is memory of size z (object 3), spent of it used, the next object's number next -/
structure Once (S : RSt) (next spent z : Int) : Prop where
  uok : Uok S
  no : S.no = next
  cap : S.cap 8 = fullC 1 3
  ob : S.ob 3 = { RObj.fresh 1 with size := z, used := spent }
section
variable {S : RSt} {next spent z t k b : Int}
theorem Once.spentR (h : Once S next spent z) : 0 ≤ spent ∧ spent ≤ z ∧ z ≤ 1000 := by
  have q := h.uok.mem 3 (by decide) (by rw [show ((3 : Nat) : Int) = 3 from rfl, h.ob]; rfl)
  rw [show ((3 : Nat) : Int) = 3 from rfl, h.ob] at q
  exact q
theorem Once.nextR (h : Once S next spent z) : 0 ≤ next ∧ next ≤ 32 := by
  rw [← h.no]
  exact h.uok.no
theorem Once.left (h : Once S next spent z) : leftZ S 3 = z - spent := by
  unfold leftZ isO
  rw [if_pos (decide_eq_true ⟨by decide, by decide, by rw [h.ob]; rfl⟩), h.ob]
theorem Once.bad (h : Once S next spent z) (h0 : retN S 8 t k b ≠ 0) : Once (retS S 8 t k b) next spent z := by
  unfold retS
  rw [if_neg h0]
  exact h
theorem Once.ok (h : Once S next spent z) (h0 : retN S 8 t k b = 0) (ht : t ≠ 8) : Once (retS S 8 t k b) (next + 1) (spent + costZ k b) z ∧ ¬ costZ k b < 0 := by
  have hc := (retN_ok h0).2.2.2.2.1
  obtain ⟨-, m, n, hm, hn, hm32, hn32, hmn, -⟩ := h.uok.mid h0
  rw [h.cap] at hm
  have hm3 : m = 3 := by
    have : (3 : Int) = m := hm
    omega
  subst hm3
  have e1 : ∀ X : RSt, ∀ c, (belowS X 8 t c).no = X.no ∧ (belowS X 8 t c).ob = X.ob ∧ (belowS X 8 t c).cap 8 = X.cap 8 := fun X c => by
    unfold belowS
    split
    · unfold linkS
      split
      · exact ⟨rfl, rfl, by show setF _ t c 8 = _; rw [setF_ne (fun e => ht e.symm)]⟩
      · exact ⟨rfl, rfl, by show setF _ t c 8 = _; rw [setF_ne (fun e => ht e.symm)]⟩
    · exact ⟨rfl, rfl, rfl⟩
  have hr : retS S 8 t k b = belowS (midS S 8 k b) 8 t (fullC k S.no) := by
    unfold retS
    rw [if_pos h0, retOk_mid]
  obtain ⟨q1, q2, q3⟩ := e1 (midS S 8 k b) (fullC k S.no)
  refine ⟨⟨h.uok.ret 8 t k b, ?_, ?_, ?_⟩, hc⟩
  · rw [hr, q1]
    show S.no + 1 = _
    rw [h.no]
  · rw [hr, q3]
    exact h.cap
  · rw [hr, q2]
    show setF (setF S.ob (S.cap 8).obj { S.ob (S.cap 8).obj with used := (S.ob (S.cap 8).obj).used + costZ k b }) S.no (newO S k b) 3 = _
    rw [setF_ne (by omega), h.cap]
    show setF S.ob 3 { S.ob 3 with used := (S.ob 3).used + costZ k b } 3 = _
    rw [setF_self, h.ob]
theorem boot_once (hz : 0 ≤ z ∧ z ≤ 1000) : Once (bootU 1 z) 9 0 z where
  uok := bootU_uok (by decide) hz
  no := rfl
  cap := rfl
  ob := by rw [bootU_ob, if_pos (by decide)]; rfl
end
/-- a number modulo 80, as the statements pick -/
def pk80 (c : Int) : Int := if c < 0 then (-(c + 1)) % 80 else c % 80
theorem pk80_rng (c : Int) : 0 ≤ pk80 c ∧ pk80 c ≤ 79 := by
  unfold pk80
  split <;> omega
end Go.Proofs.Ytffoajakkghlbaa
