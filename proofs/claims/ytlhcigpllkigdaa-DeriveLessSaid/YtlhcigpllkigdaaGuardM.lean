/- Layer 4's mathematics: the highest bits of what is left, a step, a join; joined, an address is walked. No dump is read here. -/
import Derived.Test.YtlhcigpllkigdaaMem
import Derived.Laws.BitsLemmas
import Derived.IntWalk
namespace Go.Proofs.Ytlhcigpllkigdaa
open Go.RowKit

theorem wraps_i64 (n : Int) (h₀ : 0 ≤ n) (h₁ : n < 2 ^ 62) : IntKind.i64.wrap n = n := by rw [IntKind.wrap_i64]; omega
theorem pw_pos (b : Nat) : 0 < (2 : Int) ^ b := Int.pow_pos (by omega)
theorem pw_le {b c : Nat} (h : b ≤ c) : (2 : Int) ^ b ≤ 2 ^ c := by
  have q : (2 : Nat) ^ b ≤ 2 ^ c := Nat.pow_le_pow_right (by omega) h
  exact_mod_cast q
theorem pw16 {b : Int} (h : b ≤ 16) : 1 ≤ (2 : Int) ^ b.toNat ∧ (2 : Int) ^ b.toNat ≤ 65536 := by
  have q := pw_pos b.toNat
  have r := pw_le (b := b.toNat) (c := 16) (by omega)
  rw [show (2 : Int) ^ 16 = 65536 by decide] at r
  omega
theorem pw_split {l b : Int} (h0 : 0 ≤ b) (h1 : b ≤ l) : (2 : Int) ^ l.toNat = 2 ^ (l - b).toNat * 2 ^ b.toNat := by
  rw [← Int.pow_add, show (l - b).toNat + b.toNat = l.toNat by omega]

/-- a number of so many bits -/
def fitsB (n b : Int) : Bool := decide (0 ≤ n) && decide (n < 2 ^ b.toNat)
theorem fitsB_iff (n b : Int) : fitsB n b = true ↔ 0 ≤ n ∧ n < 2 ^ b.toNat := by unfold fitsB; rw [Bool.and_eq_true, decide_eq_true_eq, decide_eq_true_eq]
theorem fitsB_no (n b : Int) : fitsB n b = false ↔ n < 0 ∨ 2 ^ b.toNat ≤ n := by rw [Bool.eq_false_iff, Ne, fitsB_iff]; omega
/-- an address, and what is left of it -/
def addrB (a l : Int) : Bool := fitsB a 16 && decide (0 ≤ l) && decide (l ≤ 16)
theorem addrB_iff (a l : Int) : addrB a l = true ↔ (0 ≤ a ∧ a ≤ 65535) ∧ 0 ≤ l ∧ l ≤ 16 := by
  unfold addrB; rw [Bool.and_eq_true, Bool.and_eq_true, fitsB_iff, decide_eq_true_eq, decide_eq_true_eq, show (2 : Int) ^ (16 : Int).toNat = 65536 by decide]; omega
/-- a guard, and its bits -/
def grdB (g b : Int) : Bool := decide (0 ≤ b) && decide (b ≤ 8) && fitsB g b
theorem grdB_iff (g b : Int) : grdB g b = true ↔ (0 ≤ b ∧ b ≤ 8) ∧ 0 ≤ g ∧ g < 2 ^ b.toNat := by
  unfold grdB; rw [Bool.and_eq_true, Bool.and_eq_true, fitsB_iff, decide_eq_true_eq, decide_eq_true_eq]
/-- the highest b bits of the lowest l -/
def topI (a l b : Int) : Int := a / 2 ^ (l - b).toNat % 2 ^ b.toNat
theorem topI_mod {a l b : Int} (h0 : 0 ≤ b) (h1 : b ≤ l) (ha : 0 ≤ a) : a % 2 ^ l.toNat / 2 ^ (l - b).toNat = topI a l b := by
  obtain ⟨a, rfl⟩ := Int.eq_ofNat_of_zero_le ha
  unfold topI
  rw [pw_split h0 h1]
  have q := Nat.mod_mul_right_div_self a (2 ^ (l - b).toNat) (2 ^ b.toNat)
  exact_mod_cast q
theorem topI_bits {a l b : Int} (h0 : 0 ≤ b) (h1 : b ≤ 16) (ha : 0 ≤ a) (ha' : a ≤ 65535) : bits .and .i64 (a / 2 ^ (l - b).toNat) (2 ^ b.toNat - 1) = topI a l b := by
  have q := Int.ediv_le_self (2 ^ (l - b).toNat) ha
  have q' := Int.ediv_nonneg ha (Int.le_of_lt (pw_pos (l - b).toNat))
  exact bits_mask .i64 62 (by decide) wraps_i64 b.toNat (by omega) _ q' (by omega)
theorem topI_lt (a l b : Int) : 0 ≤ topI a l b ∧ topI a l b < 2 ^ b.toNat := by
  unfold topI
  have := pw_pos b.toNat
  exact ⟨Int.emod_nonneg _ (by omega), Int.emod_lt_of_pos _ this⟩
/-- the number, and an error's number -/
def topP (a l b : Int) : Int × Int := if addrB a l = false ∨ b < 0 then (0, 1) else if l < b then (0, 4) else (topI a l b, 0)
/-- the index, what is left, and an error's number -/
def walkP (a l g n r : Int) : Int × Int × Int :=
  if addrB a l = false ∨ grdB g n = false ∨ r < 0 ∨ 5 < r then (0, 0, 1) else if l < n + r then (0, 0, 4) else if topI a l n ≠ g then (0, 0, 3) else (topI a (l - n) r, l - n - r, 0)
section
variable {a l b g n r : Int}
theorem topP_arg (h : addrB a l = false ∨ b < 0) : topP a l b = (0, 1) := if_pos h
theorem topP_deep (h : addrB a l = true) (h0 : 0 ≤ b) (h1 : l < b) : topP a l b = (0, 4) := by unfold topP; rw [if_neg (by simp [h]; omega), if_pos h1]
theorem topP_ok (h : addrB a l = true) (h0 : 0 ≤ b) (h1 : b ≤ l) : topP a l b = (topI a l b, 0) := by unfold topP; rw [if_neg (by simp [h]; omega), if_neg (by omega)]
theorem walkP_arg (h : addrB a l = false ∨ grdB g n = false ∨ r < 0 ∨ 5 < r) : walkP a l g n r = (0, 0, 1) := if_pos h
theorem walkP_deep (h : addrB a l = true) (hg : grdB g n = true) (h0 : 0 ≤ r) (h1 : r ≤ 5) (hd : l < n + r) : walkP a l g n r = (0, 0, 4) := by unfold walkP; rw [if_neg (by simp [h, hg]; omega), if_pos hd]
theorem walkP_other (h : addrB a l = true) (hg : grdB g n = true) (h0 : 0 ≤ r) (h1 : r ≤ 5) (hd : n + r ≤ l) (ht : topI a l n ≠ g) : walkP a l g n r = (0, 0, 3) := by unfold walkP; rw [if_neg (by simp [h, hg]; omega), if_neg (by omega), if_pos ht]
theorem walkP_ok (h : addrB a l = true) (hg : grdB g n = true) (h0 : 0 ≤ r) (h1 : r ≤ 5) (hd : n + r ≤ l) (ht : topI a l n = g) : walkP a l g n r = (topI a (l - n) r, l - n - r, 0) := by unfold walkP; rw [if_neg (by simp [h, hg]; omega), if_neg (by omega), if_neg (by simp [ht])]
end
theorem topP_code (a l b : Int) : (topP a l b).2 = 0 ∨ (1 ≤ (topP a l b).2 ∧ (topP a l b).2 ≤ 14) := by
  unfold topP
  repeat' split
  all_goals simp
theorem walkP_code (a l g n r : Int) : (walkP a l g n r).2.2 = 0 ∨ (1 ≤ (walkP a l g n r).2.2 ∧ (walkP a l g n r).2.2 ≤ 14) := by
  unfold walkP
  repeat' split
  all_goals simp
def joinGo : List Int → List Int → Int → Int → Int × Int
  | p :: ps, b :: bs, a, l => if b < 0 ∨ l < b ∨ p < 0 ∨ 2 ^ b.toNat ≤ p then (0, 1) else joinGo ps bs (a + p * 2 ^ (l - b).toNat) (l - b)
  | _, _, a, _ => (a, 0)
/-- the address, and an error's number -/
def joinI (ps bs : List Int) : Int × Int := if ps.length = bs.length then joinGo ps bs 0 16 else (0, 1)
theorem joinGo_code (ps bs : List Int) (a l : Int) : (joinGo ps bs a l).2 = 0 ∨ (1 ≤ (joinGo ps bs a l).2 ∧ (joinGo ps bs a l).2 ≤ 14) := by
  induction ps generalizing bs a l with
  | nil => exact .inl rfl
  | cons p ps ih =>
    cases bs with
    | nil => exact .inl rfl
    | cons b bs => unfold joinGo; split; (exact .inr ⟨by simp, by simp⟩); exact ih _ _ _
theorem joinI_code (ps bs : List Int) : (joinI ps bs).2 = 0 ∨ (1 ≤ (joinI ps bs).2 ∧ (joinI ps bs).2 ≤ 14) := by
  unfold joinI; split; (exact joinGo_code _ _ _ _); exact .inr ⟨by simp, by simp⟩
/-- so far joined: l are left, and they are 0 -/
structure Jd (a l : Int) : Prop where
  l0 : 0 ≤ l
  l1 : l ≤ 16
  a0 : 0 ≤ a
  a1 : a + 2 ^ l.toNat ≤ 65536
  low : a % 2 ^ l.toNat = 0
theorem Jd.start : Jd 0 16 := ⟨by decide, by decide, by decide, by decide, by decide⟩
section
variable {a l b p : Int}
theorem Jd.part (_h : Jd a l) (h0 : 0 ≤ b) (h1 : b ≤ l) (p0 : 0 ≤ p) (p1 : p < 2 ^ b.toNat) : 0 ≤ p * 2 ^ (l - b).toNat ∧ p * 2 ^ (l - b).toNat + 2 ^ (l - b).toNat ≤ 2 ^ l.toNat := by
  have q := pw_pos (l - b).toNat
  refine ⟨Int.mul_nonneg p0 (by omega), ?_⟩
  rw [pw_split h0 h1]
  have r : (p + 1) * 2 ^ (l - b).toNat ≤ 2 ^ b.toNat * 2 ^ (l - b).toNat := Int.mul_le_mul_of_nonneg_right (by omega) (by omega)
  rw [Int.add_mul, Int.one_mul] at r
  rw [Int.mul_comm (2 ^ (l - b).toNat)]
  exact r
theorem Jd.next (h : Jd a l) (h0 : 0 ≤ b) (h1 : b ≤ l) (p0 : 0 ≤ p) (p1 : p < 2 ^ b.toNat) : Jd (a + p * 2 ^ (l - b).toNat) (l - b) := by
  obtain ⟨q0, q1⟩ := h.part h0 h1 p0 p1
  obtain ⟨l0, l1, a0, a1, low⟩ := h
  refine ⟨by omega, by omega, by omega, by omega, ?_⟩
  rw [Int.add_mul_emod_self_right]
  rw [pw_split h0 h1] at low
  exact Int.emod_eq_zero_of_dvd (Int.dvd_trans ⟨_, rfl⟩ (Int.dvd_of_emod_eq_zero low))
theorem Jd.or (h : Jd a l) (h0 : 0 ≤ b) (h1 : b ≤ l) (p0 : 0 ≤ p) (p1 : p < 2 ^ b.toNat) : bits .or .i64 a (p * 2 ^ (l - b).toNat) = a + p * 2 ^ (l - b).toNat := by
  obtain ⟨q0, q1⟩ := h.part h0 h1 p0 p1
  have q2 := pw_pos (l - b).toNat
  have q3 := (pw16 h.l1).2
  have q4 := pw_pos l.toNat
  have q5 := h.a1
  exact bits_join .i64 62 (by decide) wraps_i64 l.toNat a _ h.a0 h.low (by omega) q0 (by omega) (by omega)
end
section
variable {ps bs : List Int} {k : Nat} {p b a l : Int}
theorem joinGo_at (hp : ps[k]? = some p) (hb : bs[k]? = some b) : joinGo (ps.drop k) (bs.drop k) a l = if b < 0 ∨ l < b ∨ p < 0 ∨ 2 ^ b.toNat ≤ p then (0, 1) else joinGo (ps.drop (k + 1)) (bs.drop (k + 1)) (a + p * 2 ^ (l - b).toNat) (l - b) := by
  obtain ⟨h1, rfl⟩ := List.getElem?_eq_some_iff.1 hp
  obtain ⟨h2, rfl⟩ := List.getElem?_eq_some_iff.1 hb
  rw [List.drop_eq_getElem_cons h1, List.drop_eq_getElem_cons h2]
  rfl
theorem joinGo_bad (hp : ps[k]? = some p) (hb : bs[k]? = some b) (h : b < 0 ∨ l < b ∨ p < 0 ∨ 2 ^ b.toNat ≤ p) : joinGo (ps.drop k) (bs.drop k) a l = (0, 1) := by rw [joinGo_at hp hb, if_pos h]
theorem joinGo_good (hp : ps[k]? = some p) (hb : bs[k]? = some b) (h : ¬ (b < 0 ∨ l < b ∨ p < 0 ∨ 2 ^ b.toNat ≤ p)) : joinGo (ps.drop k) (bs.drop k) a l = joinGo (ps.drop (k + 1)) (bs.drop (k + 1)) (a + p * 2 ^ (l - b).toNat) (l - b) := by rw [joinGo_at hp hb, if_neg h]
theorem joinGo_end : joinGo (ps.drop ps.length) (bs.drop k) a l = (a, 0) := by rw [List.drop_length]; rfl
end
/-- what is joined of a guard, an index and a rest -/
theorem joined {own n index r rest x : Int} (n0 : 0 ≤ n) (n8 : n ≤ 8) (r0 : 0 ≤ r) (r5 : r ≤ 5) (h : joinI [own, index, rest] [n, r, 16 - n - r] = (x, 0)) :
    walkP x 16 own n r = (index, 16 - n - r, 0) ∧ topP x (16 - n - r) (16 - n - r) = (rest, 0) := by
  have h' : joinGo [own, index, rest] [n, r, 16 - n - r] 0 16 = (x, 0) := h
  unfold joinGo at h'
  split at h'
  · cases h'
  rename_i c1
  unfold joinGo at h'
  split at h'
  · cases h'
  rename_i c2
  unfold joinGo at h'
  split at h'
  · cases h'
  rename_i c3
  simp only [joinGo, Prod.mk.injEq, and_true] at h'
  rw [show (16 - n - r - (16 - n - r)).toNat = 0 by omega, show (2 : Int) ^ 0 = 1 by decide] at h'
  have hx : x = own * 2 ^ (16 - n).toNat + index * 2 ^ (16 - n - r).toNat + rest := by omega
  clear h' h
  have J1 := Jd.start.next (b := n) (p := own) n0 (by omega) (by omega) (by omega)
  have J2 := J1.next (b := r) (p := index) r0 (by omega) (by omega) (by omega)
  rw [Int.zero_add] at J1 J2
  have hA : addrB x 16 = true := (addrB_iff _ _).2 ⟨by have := J2.a0; have := J2.a1; omega, by omega, by omega⟩
  have hB : addrB x (16 - n - r) = true := (addrB_iff _ _).2 ⟨by have := J2.a0; have := J2.a1; omega, by omega, by omega⟩
  have hG : grdB own n = true := (grdB_iff _ _).2 ⟨⟨n0, n8⟩, by omega, by omega⟩
  have t0 : topI x 16 n = own := by
    unfold topI
    have e : x = (index * 2 ^ (16 - n - r).toNat + rest) + own * 2 ^ (16 - n).toNat := by omega
    have P := J1.part (b := r) (p := index) r0 (by omega) (by omega) (by omega)
    rw [e, Int.add_mul_ediv_right _ _ (by have := pw_pos (16 - n).toNat; omega), Int.ediv_eq_zero_of_lt (by omega) (by omega), Int.zero_add]
    exact Int.emod_eq_of_lt (by omega) (by omega)
  have t1 : topI x (16 - n) r = index := by
    unfold topI
    have e : x = rest + (index + own * 2 ^ r.toNat) * 2 ^ (16 - n - r).toNat := by
      rw [hx, Int.add_mul, Int.mul_assoc own, Int.mul_comm (2 ^ r.toNat), ← pw_split r0 (by omega)]; omega
    rw [e, Int.add_mul_ediv_right _ _ (by have := pw_pos (16 - n - r).toNat; omega), Int.ediv_eq_zero_of_lt (by omega) (by omega), Int.zero_add, Int.add_mul_emod_self_right]
    exact Int.emod_eq_of_lt (by omega) (by omega)
  have t2 : topI x (16 - n - r) (16 - n - r) = rest := by
    unfold topI
    have e : x = rest + (index + own * 2 ^ r.toNat) * 2 ^ (16 - n - r).toNat := by
      rw [hx, Int.add_mul, Int.mul_assoc own, Int.mul_comm (2 ^ r.toNat), ← pw_split r0 (by omega)]; omega
    rw [show (16 - n - r - (16 - n - r)).toNat = 0 by omega, show (2 : Int) ^ 0 = 1 by decide, Int.ediv_one, e, Int.add_mul_emod_self_right]
    exact Int.emod_eq_of_lt (by omega) (by omega)
  constructor
  · unfold walkP
    rw [hA, hG, if_neg (by simp; omega), if_neg (by omega), if_neg (by simp [t0]), t1]
  · unfold topP
    rw [hB, if_neg (by simp; omega), if_neg (by omega), t2]
end Go.Proofs.Ytlhcigpllkigdaa
