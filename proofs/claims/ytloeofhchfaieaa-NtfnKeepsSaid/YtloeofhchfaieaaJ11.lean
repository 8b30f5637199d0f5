/- What Send, Recv, Answer of package endp come to on words that tell a sound state (layers 15 to 21), as mathematics. No dump is read here. -/
import Derived.Test.YtloeofhchfaieaaJ10
import Derived.Test.YtloeofhchfaieaaJ1
import Derived.Test.YtloeofhchfaieaaJ6
import Derived.Test.YtloeofhchfaieaaJ9
namespace Go.Proofs.Ytloeofhchfaieaa
open Go.RowKit
section
variable {L L' : List Int} {S : RSt} {t o n b r c ep x : Int} {l : List Int} {f : RObj → RObj}
theorem Eok.wok (h : Eok S) : Wok (wordsG S) S := Wok.of h.sok h.ei.qf
end
end Go.Proofs.Ytloeofhchfaieaa
/- Bits of two numbers of 16 bits, together (layers 16 to 23), as mathematics. No dump is read here. -/
namespace Go.Proofs.Ytloeofhchfaieaa
open Go.RowKit
def orI (a b : Int) : Int := ((a.toNat ||| b.toNat : Nat) : Int)
section
variable {a b c : Int} {j : Nat}
theorem orI_rng (ha : 0 ≤ a ∧ a < 65536) (hb : 0 ≤ b ∧ b < 65536) : 0 ≤ orI a b ∧ orI a b < 65536 := by
  unfold orI
  have : a.toNat ||| b.toNat < 2 ^ 16 := Nat.or_lt_two_pow (by omega) (by omega)
  omega
theorem orI_zero (ha : 0 ≤ a) : orI a 0 = a := by
  unfold orI
  rw [show (0 : Int).toNat = 0 from rfl, Nat.or_zero]
  omega
theorem orI_comm (a b : Int) : orI a b = orI b a := by unfold orI; rw [Nat.or_comm]
theorem orI_assoc (a b c : Int) : orI (orI a b) c = orI a (orI b c) := by
  unfold orI
  rw [Int.toNat_natCast, Int.toNat_natCast, Nat.or_assoc]
/-- the bits below 2^j -/
def lowI (a b : Int) (j : Nat) : Int := (((a.toNat ||| b.toNat) % 2 ^ j : Nat) : Int)
theorem lowI_zero : lowI a b 0 = 0 := by unfold lowI; rw [Nat.pow_zero, Nat.mod_one]; rfl
theorem lowI_rng : 0 ≤ lowI a b j ∧ lowI a b j < ((2 ^ j : Nat) : Int) := by
  unfold lowI
  have : (a.toNat ||| b.toNat) % 2 ^ j < 2 ^ j := Nat.mod_lt _ (Nat.two_pow_pos j)
  omega
theorem lowI_all (ha : 0 ≤ a ∧ a < 65536) (hb : 0 ≤ b ∧ b < 65536) : lowI a b 16 = orI a b := by
  unfold lowI orI
  have : a.toNat ||| b.toNat < 2 ^ 16 := Nat.or_lt_two_pow (by omega) (by omega)
  rw [Nat.mod_eq_of_lt this]
theorem bit_of (ha : 0 ≤ a) : (a / ((2 ^ j : Nat) : Int)) % 2 = ((a.toNat / 2 ^ j % 2 : Nat) : Int) := by
  obtain ⟨n, rfl⟩ : ∃ n : Nat, a = n := ⟨a.toNat, by omega⟩
  rw [Int.toNat_natCast]
  rfl
theorem lowI_succ (ha : 0 ≤ a) (hb : 0 ≤ b) : lowI a b (j + 1) = lowI a b j + (if (a / ((2 ^ j : Nat) : Int)) % 2 = 1 ∨ (b / ((2 ^ j : Nat) : Int)) % 2 = 1 then ((2 ^ j : Nat) : Int) else 0) := by
  have h := Nat.testBit_or a.toNat b.toNat j
  rw [Nat.testBit_eq_decide_div_mod_eq, Nat.testBit_eq_decide_div_mod_eq, Nat.testBit_eq_decide_div_mod_eq] at h
  have h2 : ((a.toNat ||| b.toNat) / 2 ^ j % 2 = 1) ↔ (a.toNat / 2 ^ j % 2 = 1 ∨ b.toNat / 2 ^ j % 2 = 1) := by
    by_cases e : (a.toNat ||| b.toNat) / 2 ^ j % 2 = 1
    · rw [decide_eq_true e] at h
      have h := h.symm
      rw [Bool.or_eq_true, decide_eq_true_eq, decide_eq_true_eq] at h
      exact ⟨fun _ => h, fun _ => e⟩
    · rw [decide_eq_false e] at h
      have h := h.symm
      rw [Bool.or_eq_false_iff, decide_eq_false_iff_not, decide_eq_false_iff_not] at h
      exact ⟨fun z => absurd z e, fun z => z.elim (fun z => absurd z h.1) (fun z => absurd z h.2)⟩
  unfold lowI
  rw [Nat.mod_pow_succ, bit_of ha, bit_of hb]
  by_cases e : (a.toNat ||| b.toNat) / 2 ^ j % 2 = 1
  · rw [if_pos (by have := h2.1 e; omega), e]
    omega
  · have e0 : (a.toNat ||| b.toNat) / 2 ^ j % 2 = 0 := by omega
    rw [if_neg (fun z => e (h2.2 (by omega))), e0]
    omega
end
end Go.Proofs.Ytloeofhchfaieaa
/- Untyped memory made into objects (layer 13): what the document's Cost, Retype come to, as mathematics. -/
namespace Go.Proofs.Ytloeofhchfaieaa
open Go.RowKit
/-- is it an object of that kind -/
def isO (S : RSt) (i k : Int) : Bool := decide (0 ≤ i ∧ i ≤ 31 ∧ (S.ob i).kind = k)
end Go.Proofs.Ytloeofhchfaieaa
/- Delete, One of the document's state (layer 12), as mathematics. -/
namespace Go.Proofs.Ytloeofhchfaieaa
open Go.RowKit
def rdelN (S : RSt) (i : Int) : Int := if slotOk i = false then 2 else if S.kids i ≠ [] then 9 else 0
end Go.Proofs.Ytloeofhchfaieaa
/- A state of layer 13: sound, no queues, what isn't used yet is fresh, memory has no more used than there is; what a Retype makes of it, and of its words; as mathematics. -/
namespace Go.Proofs.Ytloeofhchfaieaa
open Go.RowKit
section
variable {S : RSt} {f t k b : Int}
theorem isO_yes {i k : Int} (h : isO S i k = true) : ∃ m : Nat, i = m ∧ m < 32 ∧ (S.ob m).kind = k := by
  have e : 0 ≤ i ∧ i ≤ 31 ∧ (S.ob i).kind = k := of_decide_eq_true h
  refine ⟨i.toNat, by omega, by omega, ?_⟩
  rw [show ((i.toNat : Nat) : Int) = i by omega]
  exact e.2.2
end
end Go.Proofs.Ytloeofhchfaieaa
/- The boot state with memory of any size (layer 13), as mathematics. -/
namespace Go.Proofs.Ytloeofhchfaieaa
open Go.RowKit
theorem bootT_ob (t : Int) (i : Int) : ∀ k : Nat, (bootT t k).ob i = if 0 ≤ i ∧ i < k then thrO t else RObj.fresh 0 := by
  intro k
  induction k with
  | zero => rw [if_neg (by omega)]; rfl
  | succ k ih =>
    show setF (bootT t k).ob (k : Int) (thrO t) i = _
    by_cases e : i = k
    · rw [e, setF_self, if_pos (by omega)]
    · rw [setF_ne e, ih]
      by_cases h : 0 ≤ i ∧ i < k
      · rw [if_pos h, if_pos (by omega)]
      · rw [if_neg h, if_neg (by omega)]
theorem bootK_ob (t : Nat) (i : Int) : ∀ k : Nat, (bootK t k).ob i = if (t : Int) ≤ i ∧ i < (t : Int) + k then RObj.fresh (kindB (i - t).toNat) else (bootT t t).ob i := by
  intro k
  induction k with
  | zero => rw [if_neg (by omega)]; rfl
  | succ k ih =>
    have e1 : (bootK t (k + 1)).ob i = setF (bootK t k).ob ((t + k : Nat) : Int) (RObj.fresh (kindB k)) i := by
      rw [show bootK t (k + 1) = if 2 ≤ k then ((bootK t k).putO ((t + k : Nat) : Int) (RObj.fresh (kindB k))).putC ((6 + k : Nat) : Int) (fullC (kindB k) (t + k : Nat)) else (bootK t k).putO ((t + k : Nat) : Int) (RObj.fresh (kindB k)) from rfl]
      split <;> rfl
    rw [e1]
    by_cases e : i = ((t + k : Nat) : Int)
    · rw [e, setF_self, if_pos (by omega)]
      rw [show (((t + k : Nat) : Int) - (t : Int)).toNat = k by omega]
    · rw [setF_ne e, ih]
      by_cases h : (t : Int) ≤ i ∧ i < (t : Int) + k
      · rw [if_pos h, if_pos (by omega)]
      · rw [if_neg h, if_neg (by omega)]
theorem bootS_ob (t : Nat) (i : Int) : (bootS t).ob i = if i = ((t + 2 : Nat) : Int) then { (boot3 t).ob i with size := 200 } else (boot3 t).ob i := by
  show setF (boot3 t).ob ((t + 2 : Nat) : Int) _ i = _
  by_cases e : i = ((t + 2 : Nat) : Int)
  · rw [if_pos e, e, setF_self]
  · rw [if_neg e, setF_ne e]
theorem boot3_ob (t : Nat) {i : Int} (h0 : i ≠ ((t : Nat) : Int)) (h1 : i ≠ ((t + 1 : Nat) : Int)) : (boot3 t).ob i = (bootK t 8).ob i := by
  show setF (setF (setF (bootK t 8).ob ((t : Nat) : Int) _) ((t + 1 : Nat) : Int) _) ((t + 1 : Nat) : Int) _ i = _
  rw [setF_ne h1, setF_ne h1, setF_ne h0]
/-- what is no thread, and behind the two CNodes -/
theorem bootS_far (t : Nat) {i : Int} (h : (t : Int) + 3 ≤ i) : (bootS t).ob i = if i < (t : Int) + 8 then RObj.fresh (kindB (i - t).toNat) else RObj.fresh 0 := by
  rw [bootS_ob, if_neg (by omega), boot3_ob t (by omega) (by omega), bootK_ob]
  by_cases e : i < (t : Int) + 8
  · rw [if_pos (by omega), if_pos e]
  · rw [if_neg (by omega), if_neg e, bootT_ob, if_neg (by omega)]
theorem bootS_thr (t : Nat) {i : Int} (h0 : 0 ≤ i) (h : i < t) : (bootS t).ob i = thrO t := by
  rw [bootS_ob, if_neg (by omega), boot3_ob t (by omega) (by omega), bootK_ob, if_neg (by omega), bootT_ob, if_pos ⟨h0, h⟩]
end Go.Proofs.Ytloeofhchfaieaa
