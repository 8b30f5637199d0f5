/- Nothing is made that isn't within something, and One comes to an end (layer 12), as mathematics. -/
import Derived.Test.YtlhcigpllkigdaaDerDo
namespace Go.Proofs.Ytlhcigpllkigdaa
open Go.RowKit
/-- each capability is within one that was there -/
def Less (S S' : RSt) : Prop := ∀ k, InS k → (S'.cap k).kind ≠ 0 → ∃ j, InS j ∧ (S.cap j).kind ≠ 0 ∧ withinB (S'.cap k) (S.cap j) = true
theorem hasR_self {r : Int} (h0 : 0 ≤ r) (h7 : r ≤ 7) : hasR r r = true := by
  have := (has_and (r := r) (m := 7) h0 h7 (by decide) (by decide)).1
  have e : andR r 7 = r := by
    refine fin8 (p := fun x => andR x 7 = x) (fun i => ?_) h0 h7
    revert i
    decide
  rwa [e] at this
theorem within_self {c : Cp} (h : c.may) : withinB c c = true := by
  unfold withinB
  simp [hasR_self h.small.r0 h.small.r1]
section
variable {S S' : RSt} {f t m b gd n i : Int} {c : Cp} {mint mu : Bool} {d : D5}
theorem Less.same (h : Sok S) (e : ∀ k, S'.cap k = S.cap k) : Less S S' := fun k hk hz => ⟨k, hk, by rw [← e]; exact hz, by rw [e]; exact within_self (h.may k)⟩
/-- a capability is put that is within one that is there; others stay, or go -/
theorem Less.put (h : Sok S) (e : ∀ k, S'.cap k = S.cap k ∨ S'.cap k = Cp.zero ∨ S'.cap k = c) (hf : InS f) (hk : (S.cap f).kind ≠ 0) (hw : withinB c (S.cap f) = true) : Less S S' := fun k hk' hz => by
  rcases e k with q | q | q
  · exact ⟨k, hk', by rw [← q]; exact hz, by rw [q]; exact within_self (h.may k)⟩
  · rw [q] at hz; exact absurd rfl hz
  · exact ⟨f, hf, hk, by rw [q]; exact hw⟩
theorem derC_within (h : (derC c m b mint).2 = 0) : withinB (derC c m b mint).1 c = true := by
  unfold derC at h ⊢
  split
  · next e => rw [if_pos e] at h; exact (Cp.mint_ok h).within
  · next e => rw [if_neg e] at h; exact (Cp.derive_ok h).within.1
theorem movC_within (hc : c.may) (h : (movC c gd n mu).2 = 0) : withinB (movC c gd n mu).1 c = true := by
  unfold movC at h ⊢
  split
  · next e =>
    rw [if_pos e] at h
    unfold Cp.mutate at h ⊢
    split at h
    · simp at h
    · next h1 =>
      rw [if_neg h1]
      split at h
      · simp at h
      · next h2 =>
        rw [if_neg h2]
        split at h
        · simp at h
        · next h3 =>
          rw [if_neg h3]
          unfold withinB
          simp [hasR_self hc.small.r0 hc.small.r1]
  · exact within_self hc
theorem link_cap (S : RSt) (k p i : Int) : (linkS S k p).cap i = S.cap i := by unfold linkS; split <;> rfl
theorem unlink_cap (S : RSt) (k i : Int) : (unlinkS S k).cap i = S.cap i := by unfold unlinkS; split <;> rfl
theorem replace_cap (S : RSt) (a b i : Int) : (replaceS S a b).cap i = S.cap i := by unfold replaceS; split <;> rfl
theorem putC_cap (S : RSt) (j : Int) (c : Cp) (i : Int) : (S.putC j c).cap i = if i = j then c else S.cap i := rfl
theorem less_der (h : Dok S) (f t m b : Int) (mint : Bool) : Less S (derS S f t m b mint) := by
  unfold derS
  split
  · exact Less.same h.sok (fun _ => rfl)
  · next e0 =>
    split
    · exact Less.same h.sok (fun _ => rfl)
    · next e1 =>
      have he := endsN_ok (by simpa using e0)
      refine Less.put h.sok (f := f) (c := (derC (S.cap f) m b mint).1) (fun k => ?_) he.1 he.2.2.1 (derC_within (by simpa using e1))
      unfold belowS
      split
      · rw [putC_cap, link_cap]
        split
        · exact .inr (.inr rfl)
        · exact .inl rfl
      · exact .inl rfl
theorem less_mov (h : Dok S) (f t gd n : Int) (mu : Bool) : Less S (movS S f t gd n mu) := by
  unfold movS
  split
  · exact Less.same h.sok (fun _ => rfl)
  · next e0 =>
    split
    · exact Less.same h.sok (fun _ => rfl)
    · next e1 =>
      have he := endsN_ok (by simpa using e0)
      refine Less.put h.sok (f := f) (c := (movC (S.cap f) gd n mu).1) (fun k => ?_) he.1 he.2.2.1 (movC_within (h.sok.may f) (by simpa using e1))
      unfold overS
      split
      · rw [putC_cap, putC_cap, replace_cap]
        split
        · exact .inr (.inl rfl)
        · split
          · exact .inr (.inr rfl)
          · exact .inl rfl
      · exact .inl rfl
theorem less_del (h : Dok S) (i : Int) : Less S (delS S i) := by
  unfold delS
  split
  · intro k hk hz
    rw [putC_cap, unlink_cap] at hz ⊢
    split at hz
    · exact absurd rfl hz
    · next e => rw [if_neg e]; exact ⟨k, hk, hz, within_self (h.sok.may k)⟩
  · exact Less.same h.sok (fun _ => rfl)
theorem less_one (h : Dok S) (i : Int) : Less S (oneS S i) := by
  unfold oneS
  split
  · exact Less.same h.sok (fun _ => rfl)
  · split
    · exact Less.same h.sok (fun _ => rfl)
    · exact less_del h _
theorem step_less (h : Dok S) (d : D5) : Less S (stepS S d) := by
  unfold stepS
  repeat' split
  all_goals first | exact less_der h _ _ _ _ _ | exact less_mov h _ _ _ _ _ | exact less_del h _ | exact less_one h _
/-- how many slots are linked -/
def cntL (P : Int → Int) : Nat → Nat
  | 0 => 0
  | n + 1 => cntL P n + if P (n : Int) = -1 then 0 else 1
theorem cntL_le (P : Int → Int) : ∀ n, cntL P n ≤ n := by
  intro n
  induction n with
  | zero => exact Nat.le_refl _
  | succ n ih => unfold cntL; split <;> omega
theorem cntL_out {P : Int → Int} {l : Int} : ∀ n : Nat, (n : Int) ≤ l → cntL (setF P l (-1)) n = cntL P n := by
  intro n
  induction n with
  | zero => intro _; rfl
  | succ n ih => intro h; unfold cntL; rw [ih (by omega), setF_ne (by omega)]
theorem cntL_in {P : Int → Int} {l : Int} (h0 : 0 ≤ l) (hp : P l ≠ -1) : ∀ n : Nat, l < (n : Int) → cntL (setF P l (-1)) n + 1 = cntL P n := by
  intro n
  induction n with
  | zero => intro h; omega
  | succ n ih =>
    intro h
    unfold cntL
    by_cases e : (n : Int) = l
    · rw [e, setF_self, if_pos rfl, if_neg hp, cntL_out n (by omega)]
    · rw [setF_ne e, ← ih (by omega)]
      omega
/-- One that tells true leaves fewer that are linked -/
theorem one_fewer (h : Dok S) (hi : InS i) (hl : leafS S i ≠ i) : cntL (oneS S i).par 96 + 1 = cntL S.par 96 := by
  obtain ⟨h1, h2⟩ := h.leaf hi
  have h0 := h2.1
  have h9 := h2.2
  have hp := h.leaf_par hi hl
  have hr := h.sok.tree.par_rng h2
  have e : (oneS S i).par = setF S.par (leafS S i) (-1) := by
    unfold oneS
    rw [if_neg (by omega), if_neg hl]
    unfold delS delN
    rw [if_pos (by rw [if_neg (by rw [slotOk_in.2 h2]; simp [h.leaf_cap hi hl]), if_neg (fun e => e h1)])]
    show (unlinkS S (leafS S i)).par = _
    unfold unlinkS
    rw [if_pos ⟨slotOk_in.2 h2, by omega⟩]
  rw [e]
  exact cntL_in h0 hp 96 (by omega)
end
end Go.Proofs.Ytlhcigpllkigdaa
