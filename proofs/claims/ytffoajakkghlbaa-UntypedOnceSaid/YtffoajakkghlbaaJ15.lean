/- A state of layer 13: sound, no queues, what isn't used yet is fresh, memory has no more used than there is; what a Retype makes of it, and of its words; as mathematics. -/
import Derived.Test.YtffoajakkghlbaaJ14
import Derived.Test.YtffoajakkghlbaaJ6
import Derived.Test.YtffoajakkghlbaaCdtPl
namespace Go.Proofs.Ytffoajakkghlbaa
open Go.RowKit
structure Uok (S : RSt) : Prop where
  sok : Sok S
  noq : S.NoQ
  ns : 0 ≤ S.ns ∧ S.ns ≤ 96
  no : 0 ≤ S.no ∧ S.no ≤ 32
  free : ∀ i : Nat, i < 32 → S.no ≤ (i : Int) → S.ob i = RObj.fresh 0
  mem : ∀ i : Nat, i < 32 → (S.ob i).kind = 1 → 0 ≤ (S.ob i).used ∧ (S.ob i).used ≤ (S.ob i).size ∧ (S.ob i).size ≤ 1000
/-- a state with the memory used, the object made, before it is linked -/
def midS (S : RSt) (f k b : Int) : RSt := { (useS S (S.cap f).obj (costZ k b)).putO S.no (newO S k b) with ns := S.ns + slotsZ k b, no := S.no + 1 }
theorem retOk_mid (S : RSt) (f t k b : Int) : retOk S f t k b = belowS (midS S f k b) f t (fullC k S.no) := rfl
/-- the fields of a new object -/
theorem fldW_new {S : RSt} {k b : Int} (hk : 1 ≤ k ∧ k ≤ 7) {f : Nat} (hf : f < 8) : fldW (newO S k b) f = if f = 0 then k else if k = 1 ∧ f = 1 then costZ k b - 1 else if k = 2 ∧ f = 1 then S.ns else if k = 2 ∧ f = 2 then b else 0 := by
  have hf8 : f = 0 ∨ f = 1 ∨ f = 2 ∨ f = 3 ∨ f = 4 ∨ f = 5 ∨ f = 6 ∨ f = 7 := by omega
  have hk7 : k = 1 ∨ k = 2 ∨ k = 3 ∨ k = 4 ∨ k = 5 ∨ k = 6 ∨ k = 7 := by omega
  rcases hk7 with rfl | rfl | rfl | rfl | rfl | rfl | rfl <;> rcases hf8 with rfl | rfl | rfl | rfl | rfl | rfl | rfl | rfl <;>
    simp [fldW, newO, kindF, threadF, spaceF, pageF, putF, ow, RObj.fresh, RObj.pg, addU, Cp.zero, Cp.word]
theorem fldW_used {x : RObj} {u : Int} (hk : x.kind = 1) {f : Nat} (hf : f < 8) : fldW { x with used := u } f = if f = 2 then u else fldW x f := by
  have hf8 : f = 0 ∨ f = 1 ∨ f = 2 ∨ f = 3 ∨ f = 4 ∨ f = 5 ∨ f = 6 ∨ f = 7 := by omega
  rcases hf8 with rfl | rfl | rfl | rfl | rfl | rfl | rfl | rfl <;> simp [fldW, kindF, putF, ow, hk]
theorem fldW_mem {x : RObj} (hk : x.kind = 1) : fldW x 1 = x.size ∧ fldW x 2 = x.used := by constructor <;> simp [fldW, kindF, putF, ow, hk]
theorem newO_fit {S : RSt} {k b : Int} (hc : ¬ costZ k b < 0) (hn : 0 ≤ S.ns ∧ S.ns ≤ 96) : (newO S k b).FitO ∧ (newO S k b).queue = [] ∧ (newO S k b).kind = k := by
  obtain ⟨hk, hb⟩ := costZ_kind hc
  have hf := fresh_fit (k := k) ⟨by omega, by omega⟩
  have hr := costZ_rng k b
  unfold newO
  split
  · exact ⟨hf.sized ⟨by omega, by omega⟩, rfl, rfl⟩
  · split
    · exact ⟨(hf.firsted ⟨hn.1, by omega⟩).radixed ⟨hb.1, by omega⟩, rfl, rfl⟩
    · exact ⟨hf, rfl, rfl⟩
section
variable {S : RSt} {f t k b : Int}
theorem isO_yes {i k : Int} (h : isO S i k = true) : ∃ m : Nat, i = m ∧ m < 32 ∧ (S.ob m).kind = k := by
  have e : 0 ≤ i ∧ i ≤ 31 ∧ (S.ob i).kind = k := of_decide_eq_true h
  refine ⟨i.toNat, by omega, by omega, ?_⟩
  rw [show ((i.toNat : Nat) : Int) = i by omega]
  exact e.2.2
/-- what holds of the state in the midst of a Retype -/
theorem Uok.mid (h : Uok S) (h0 : retN S f t k b = 0) : Uok (midS S f k b) ∧ (∃ m n : Nat, (S.cap f).obj = m ∧ S.no = n ∧ m < 32 ∧ n < 32 ∧ m ≠ n ∧ (S.ob m).kind = 1) := by
  obtain ⟨-, ⟨-, hio⟩, -, -, hc, hle, hs, hn⟩ := retN_ok h0
  obtain ⟨m, hm, hm32, hmk⟩ := isO_yes hio
  obtain ⟨n, hnn⟩ : ∃ n : Nat, S.no = n := ⟨S.no.toNat, by have := h.no.1; omega⟩
  have hn32 : n < 32 := by omega
  have hmn : m ≠ n := fun e => by
    have q := h.free n hn32 (by omega)
    rw [e, q] at hmk
    exact absurd hmk (by decide)
  rw [hm] at hle
  have hr := costZ_rng k b
  obtain ⟨hk, hb⟩ := costZ_kind hc
  obtain ⟨q1, q2, q3⟩ := newO_fit hc h.ns
  obtain ⟨u1, u2, u3⟩ := h.mem m hm32 hmk
  have hsl : 0 ≤ slotsZ k b := by unfold slotsZ; split <;> omega
  have eo : ∀ i : Nat, (midS S f k b).ob i = if i = n then newO S k b else if i = m then { S.ob m with used := (S.ob m).used + costZ k b } else S.ob i := fun i => by
    show setF (setF S.ob (S.cap f).obj _) S.no (newO S k b) i = _
    rw [hm, hnn]
    unfold setF
    by_cases e1 : i = n
    · rw [if_pos (by omega), if_pos e1]
    · rw [if_neg (by omega), if_neg e1]
      by_cases e2 : i = m
      · rw [if_pos (by omega), if_pos e2]
      · rw [if_neg (by omega), if_neg e2]
  have hfm : ({ S.ob m with used := (S.ob m).used + costZ k b } : RObj).FitO := { h.sok.obs m hm32 with used := ⟨by show 0 ≤ (S.ob m).used + costZ k b; omega, by show (S.ob m).used + costZ k b ≤ _; omega⟩, pg := (h.sok.obs m hm32).pg, rt := (h.sok.obs m hm32).rt }
  refine ⟨⟨⟨h.sok.tree, h.sok.out, h.sok.may, fun i hi => ?_, ⟨?_, ?_⟩, ⟨?_, ?_⟩⟩, fun i hi => ?_, ⟨?_, ?_⟩, ⟨?_, ?_⟩, fun i hi hle' => ?_, fun i hi hki => ?_⟩, m, n, hm, hnn, hm32, hn32, hmn, hmk⟩
  · rw [eo]
    split
    · exact q1
    · split
      · exact hfm
      · exact h.sok.obs i hi
  · show 0 ≤ S.ns + slotsZ k b; have := h.ns; omega
  · show S.ns + slotsZ k b ≤ _; omega
  · show 0 ≤ S.no + 1; omega
  · show S.no + 1 ≤ _; omega
  · rw [eo]
    split
    · exact q2
    · split
      · exact h.noq m hm32
      · exact h.noq i hi
  · show 0 ≤ S.ns + slotsZ k b; have := h.ns; omega
  · exact hs
  · show 0 ≤ S.no + 1; omega
  · exact hn
  · have e : S.no + 1 ≤ (i : Int) := hle'
    rw [eo, if_neg (by omega)]
    have q := h.free i hi (by omega)
    rw [if_neg (fun e => by rw [e] at q; rw [q] at hmk; exact absurd hmk (by decide)), q]
  · rw [eo] at hki ⊢
    by_cases e1 : i = n
    · rw [if_pos e1] at hki ⊢
      rw [q3] at hki
      subst hki
      unfold newO
      rw [if_pos rfl]
      exact ⟨Int.le_refl _, by show 0 ≤ costZ 1 b - 1; omega, by show costZ 1 b - 1 ≤ 1000; omega⟩
    · rw [if_neg e1] at hki ⊢
      by_cases e2 : i = m
      · rw [if_pos e2]
        exact ⟨by show 0 ≤ (S.ob m).used + costZ k b; omega, by show (S.ob m).used + costZ k b ≤ (S.ob m).size; omega, u3⟩
      · rw [if_neg e2] at hki ⊢
        exact h.mem i hi hki
/-- words that have the memory used, and the object made, are the state's -/
theorem Uok.mid_words (h : Uok S) (h0 : retN S f t k b = 0) {L' : List Int} (hl : L'.length = 738) (low : ∀ j, j < 480 → atL L' j = atL (wordsG S) j)
    (hm : ∀ m : Nat, (S.cap f).obj = m → atL L' (ow m 2) = (S.ob m).used + costZ k b)
    (hn : ∀ n fd : Nat, S.no = n → fd < 8 → atL L' (ow n fd) = fldW (newO S k b) fd)
    (ho : ∀ m n i fd : Nat, (S.cap f).obj = m → S.no = n → i < 32 → fd < 8 → ¬ (i = m ∧ fd = 2) → i ≠ n → atL L' (ow i fd) = atL (wordsG S) (ow i fd))
    (hs : atL L' 736 = S.ns + slotsZ k b) (hno : atL L' 737 = S.no + 1) : L' = wordsG (midS S f k b) := by
  obtain ⟨hu, m, n, em, en, hm32, hn32, hmn, hmk⟩ := h.mid h0
  refine (h.sok.gur.objs (S' := midS S f k b) hl low rfl rfl rfl hu.noq (fun i fd hi hfd => ?_) hs hno).words hu.sok.queued
  have eo : (midS S f k b).ob i = if i = n then newO S k b else if i = m then { S.ob m with used := (S.ob m).used + costZ k b } else S.ob i := by
    show setF (setF S.ob (S.cap f).obj _) S.no (newO S k b) i = _
    rw [em, en]
    unfold setF
    by_cases e1 : i = n
    · rw [if_pos (by omega), if_pos e1]
    · rw [if_neg (by omega), if_neg e1]
      by_cases e2 : i = m
      · rw [if_pos (by omega), if_pos e2]
      · rw [if_neg (by omega), if_neg e2]
  rw [eo]
  by_cases e1 : i = n
  · rw [if_pos e1, e1]
    exact hn n fd en hfd
  · rw [if_neg e1]
    by_cases e2 : i = m
    · rw [if_pos e2, e2, fldW_used hmk hfd]
      by_cases e3 : fd = 2
      · rw [if_pos e3, e3]
        exact hm m em
      · rw [if_neg e3, ho m n m fd em en hm32 hfd (fun q => e3 q.2) (fun q => e1 (e2.trans q)), h.sok.fld h.noq hm32 hfd]
    · rw [if_neg e2, ho m n i fd em en hi hfd (fun q => e2 q.1) e1, h.sok.fld h.noq hi hfd]
/-- what is linked, and put, in the end -/
theorem Uok.ret (h : Uok S) (f t k b : Int) : Uok (retS S f t k b) := by
  unfold retS
  split
  · next h0 =>
    obtain ⟨hu, -⟩ := h.mid h0
    obtain ⟨-, -, -, -, hc, -, -, hn⟩ := retN_ok h0
    obtain ⟨hk, -⟩ := costZ_kind hc
    rw [retOk_mid]
    have hs := hu.sok.below f t (c := fullC k S.no) (fullC_may ⟨hk.1, by omega⟩ ⟨h.no.1, by omega⟩)
    have e : (belowS (midS S f k b) f t (fullC k S.no)).ob = (midS S f k b).ob ∧ (belowS (midS S f k b) f t (fullC k S.no)).ns = (midS S f k b).ns ∧ (belowS (midS S f k b) f t (fullC k S.no)).no = (midS S f k b).no := by
      unfold belowS linkS
      repeat' split
      all_goals exact ⟨rfl, rfl, rfl⟩
    exact ⟨hs, fun i hi => by rw [e.1]; exact hu.noq i hi, by rw [e.2.1]; exact hu.ns, by rw [e.2.2]; exact hu.no, fun i hi hl => by rw [e.2.2] at hl; rw [e.1]; exact hu.free i hi hl, fun i hi hl => by rw [e.1] at hl ⊢; exact hu.mem i hi hl⟩
  · exact h
theorem Uok.del (h : Uok S) (i : Int) : Uok (rdelS S i) := by
  unfold rdelS
  split
  · next h0 =>
    have hi : InS i := by
      by_cases e : slotOk i = true
      · exact slotOk_in.1 e
      · rw [rdelN, if_pos (by simpa using e)] at h0; omega
    have hs := ((h.sok.unlink i).1.putC hi zero_may).1
    have e : ((unlinkS S i).putC i Cp.zero).ob = S.ob ∧ ((unlinkS S i).putC i Cp.zero).ns = S.ns ∧ ((unlinkS S i).putC i Cp.zero).no = S.no := by
      unfold unlinkS
      split <;> exact ⟨rfl, rfl, rfl⟩
    exact ⟨hs, fun i hi => by rw [e.1]; exact h.noq i hi, by rw [e.2.1]; exact h.ns, by rw [e.2.2]; exact h.no, fun i hi hl => by rw [e.2.2] at hl; rw [e.1]; exact h.free i hi hl, fun i hi hl => by rw [e.1] at hl ⊢; exact h.mem i hi hl⟩
  · exact h
/-- what is left of an object -/
def leftZ (S : RSt) (i : Int) : Int := if isO S i 1 = true then (S.ob i).size - (S.ob i).used else 0
end
end Go.Proofs.Ytffoajakkghlbaa
/- What calls on a view come to on the words of a sound state (layers 12 to 21), as mathematics: one after the other, to be put together as the code does. -/
namespace Go.Proofs.Ytffoajakkghlbaa
open Go.RowKit
section
variable {S : RSt} {i k p a b n : Int} {c : Cp}
theorem Sok.capP (h : Sok S) (i : Int) : (Go.Proofs.Ytffoajakkghlbaa.capP i).run machP (wordsG S) = (if slotOk i = true then S.cap i else Cp.zero, wordsG S) := by
  rw [capP_plain]
  by_cases hi : InS i
  · rw [h.cap_in hi, if_pos (slotOk_in.2 hi)]
  · rw [cap_out hi, if_neg (fun e => hi (slotOk_in.1 e))]
theorem Sok.linkP (h : Sok S) (k p : Int) : (Go.Proofs.Ytffoajakkghlbaa.linkP k p).run machP (wordsG S) = (linkN S k p, wordsG (linkS S k p)) := by
  obtain ⟨-, e1, e2⟩ := h.link k p
  rw [linkP_plain, e1, e2]
theorem Sok.parP (h : Sok S) (i : Int) : (toldP i 1).run machP (wordsG S) = (S.par i, wordsG S) := by rw [toldP_plain, h.gur.par i]
theorem Sok.csetP (h : Sok S) (hi : InS i) (hc : c.may) : (Go.Proofs.Ytffoajakkghlbaa.csetP i c).run machP (wordsG S) = (0, wordsG (S.putC i c)) := by
  unfold Go.Proofs.Ytffoajakkghlbaa.csetP
  rw [if_pos (slotB_in.2 hi), if_pos hc, Vp.run_wrP, Vp.run_ret, slotI_yes (slotB_in.2 hi), Int.add_zero, (h.putC hi hc).2]
end
end Go.Proofs.Ytffoajakkghlbaa
