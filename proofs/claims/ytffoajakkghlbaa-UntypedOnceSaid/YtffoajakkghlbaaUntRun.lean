/- What package untyped's calls come to on the words of a state of layer 13, as mathematics. -/
import Derived.Test.YtffoajakkghlbaaJ6
import Derived.Test.YtffoajakkghlbaaJ15
namespace Go.Proofs.Ytffoajakkghlbaa
open Go.RowKit
theorem uslotB_ok (i : Int) : slotB i 0 = slotOk i := slotOk_is.symm
/-- so many fields put, of plain words -/
def uputsL (o : Int) (F : Nat → Int) : Nat → Nat → List Int → List Int
  | _, 0, L => L
  | j, n + 1, L => uputsL o F (j + 1) n (putL L o j (F j))
theorem uputsP_plain {o : Int} {F : Nat → Int} : ∀ (n j : Nat) (L : List Int), (uputsP o F j n).run machP L = ((), uputsL o F j n L) := by
  intro n
  induction n with
  | zero => intro j L; rfl
  | succ n ih =>
    intro j L
    rw [uputsP, Vp.run_bind_is putP_plain, ih]
    rfl
theorem atL_oput {L : List Int} {o f v j : Int} (hl : L.length = 738) (ho : 0 ≤ o ∧ o < 32) (hf : 0 ≤ f ∧ f < 8) (hv : 0 ≤ v) : (putL L o f v).length = 738 ∧ atL (putL L o f v) j = if j = 480 + 8 * o + f then v else atL L j := by
  have hb : objB o f = true := objB_yes.2 ⟨ho.1, ho.2, hf.1, hf.2⟩
  have hh : hasB L.length (480 + 8 * o + f) = true := hasB_yes.2 ⟨by omega, by omega⟩
  unfold putL
  rw [if_pos ⟨hb, hv⟩]
  refine ⟨by rw [setL_length, hl], ?_⟩
  rw [atL_setL, hh]
  simp
theorem uputsL_at {o : Int} {F : Nat → Int} (ho : 0 ≤ o ∧ o < 32) (hF : ∀ i, 0 ≤ F i) : ∀ (n j : Nat) (L : List Int), L.length = 738 → j + n ≤ 8 →
    (uputsL o F j n L).length = 738 ∧ (∀ i : Nat, j ≤ i → i < j + n → atL (uputsL o F j n L) (480 + 8 * o + i) = F i) ∧ (∀ x : Int, (∀ i : Nat, j ≤ i → i < j + n → x ≠ 480 + 8 * o + i) → atL (uputsL o F j n L) x = atL L x) := by
  intro n
  induction n with
  | zero => exact fun j L hl _ => ⟨hl, fun i h1 h2 => by omega, fun _ _ => rfl⟩
  | succ n ih =>
    intro j L hl hj
    have hq := fun x => atL_oput (L := L) (o := o) (f := (j : Int)) (v := F j) (j := x) hl ho ⟨by omega, by omega⟩ (hF j)
    obtain ⟨h1, h2, h3⟩ := ih (j + 1) (putL L o j (F j)) (hq 0).1 (by omega)
    refine ⟨h1, fun i hi1 hi2 => ?_, fun x hx => ?_⟩
    · by_cases e : i = j
      · subst e
        show atL (uputsL o F (i + 1) n (putL L o i (F i))) _ = _
        rw [h3 _ (fun k hk1 hk2 => by omega), (hq _).2, if_pos rfl]
      · exact h2 i (by omega) (by omega)
    · show atL (uputsL o F (j + 1) n (putL L o j (F j))) x = _
      rw [h3 x (fun k hk1 hk2 => hx k (by omega) (by omega)), (hq x).2, if_neg (hx j (by omega) (by omega))]
/-- an error's number, of what is between -/
def btwN (S : RSt) (f t : Int) : Int :=
  if slotOk f = false ∨ slotOk t = false then 2
  else if (S.cap f).kind ≠ 1 then 5 else if isO S (S.cap f).obj 1 = false then 5
  else if hasR (S.cap f).rights 2 = false then 6
  else if (S.cap t).kind ≠ 0 then 8 else if 0 ≤ S.par t then 8 else 0
section
variable {S : RSt} {f t k b i : Int}
theorem retN_btw (S : RSt) (f t k b : Int) : retN S f t k b = if btwN S f t ≠ 0 then btwN S f t else if costZ k b < 0 then 1 else if (S.ob (S.cap f).obj).size - (S.ob (S.cap f).obj).used < costZ k b then 14 else if 96 < S.ns + slotsZ k b ∨ 32 < S.no + 1 then 7 else 0 := by
  unfold retN btwN
  by_cases h1 : slotOk f = false ∨ slotOk t = false
  · simp [h1]
  rw [if_neg h1, if_neg h1]
  by_cases h2 : (S.cap f).kind ≠ 1
  · simp [h2]
  by_cases h3 : isO S (S.cap f).obj 1 = false
  · simp [h2, h3]
  by_cases h4 : hasR (S.cap f).rights 2 = false
  · simp [h2, h3, h4]
  by_cases h5 : (S.cap t).kind ≠ 0
  · simp [h2, h3, h4, h5]
  by_cases h6 : 0 ≤ S.par t
  · simp [h2, h3, h4, h5, h6]
  · simp [h2, h3, h4, h5, h6]
/-- is an object of a kind, of the words -/
theorem Uok.isL (h : Uok S) (i : Int) {k : Int} (hk : 0 ≤ k) : Go.Proofs.Ytffoajakkghlbaa.isL (wordsG S) i k = isO S i k := by
  unfold Go.Proofs.Ytffoajakkghlbaa.isL isO
  by_cases hi : 0 ≤ i ∧ i ≤ 31
  · obtain ⟨n, rfl⟩ : ∃ n : Nat, i = n := ⟨i.toNat, by omega⟩
    have e := h.sok.fld h.noq (i := n) (f := 0) (by omega) (by omega)
    rw [show ow n 0 = 480 + 8 * (n : Int) by unfold ow; omega] at e
    rw [objB_yes.2 ⟨hi.1, by omega, by decide, by decide⟩, e]
    show (true && decide (0 ≤ k) && ((S.ob n).kind == k)) = _
    by_cases hq : (S.ob n).kind = k
    · simp [hk, hq]; omega
    · simp [hk, hq]
  · rw [objB_no.2 (.inl (by omega))]
    simp; omega
theorem Uok.isP (h : Uok S) (i : Int) {k : Int} (hk : 0 ≤ k) : (Go.Proofs.Ytffoajakkghlbaa.isP i k).run machP (wordsG S) = (isO S i k, wordsG S) := by rw [isP_plain, h.isL i hk]
/-- the size, and what is used, of memory -/
theorem Uok.memL (h : Uok S) {m : Nat} (hm : m < 32) (hk : (S.ob m).kind = 1) : fieldL (wordsG S) m 1 = (S.ob m).size ∧ fieldL (wordsG S) m 2 = (S.ob m).used := by
  have q := h.mem m hm hk
  have e1 := h.sok.fld h.noq (i := m) (f := 1) hm (by omega)
  have e2 := h.sok.fld h.noq (i := m) (f := 2) hm (by omega)
  rw [show ow m 1 = 480 + 8 * (m : Int) + 1 by unfold ow; omega, (fldW_mem hk).1] at e1
  rw [show ow m 2 = 480 + 8 * (m : Int) + 2 by unfold ow; omega, (fldW_mem hk).2] at e2
  unfold fieldL
  rw [objB_yes.2 ⟨by omega, by omega, by decide, by decide⟩, if_pos rfl, e1, objB_yes.2 ⟨by omega, by omega, by decide, by decide⟩, if_pos rfl, e2]
  unfold numI
  exact ⟨if_neg (by omega), if_neg (by omega)⟩
theorem Uok.leftP (h : Uok S) (i : Int) : (uleftP i).run machP (wordsG S) = (leftZ S i, wordsG S) := by
  unfold uleftP leftZ
  rw [Vp.run_bind_is (h.isP i (by decide))]
  cases hq : isO S i 1 with
  | false => rfl
  | true =>
    obtain ⟨m, rfl, hm, hk⟩ := isO_yes hq
    have q := h.mem m hm hk
    rw [Vp.run_yes rfl, Vp.run_bind_is fieldP_plain, Vp.run_bind_is fieldP_plain, Vp.run_ret, (h.memL hm hk).1, (h.memL hm hk).2, if_pos rfl, Int.max_eq_right (by omega)]
theorem Uok.btwP (h : Uok S) (f t : Int) : (ubtwP f t).run machP (wordsG S) = ((if btwN S f t = 0 then (S.cap f).obj else 0, btwN S f t), wordsG S) := by
  unfold ubtwP btwN
  rw [uslotB_ok, uslotB_ok]
  by_cases h1 : slotOk f = false ∨ slotOk t = false
  · rw [Vp.run_yes h1, Vp.run_ret, if_pos h1, if_neg (by decide)]
  have hf : slotOk f = true := by cases hf : slotOk f <;> simp_all
  have ht : slotOk t = true := by cases ht : slotOk t <;> simp_all
  rw [Vp.run_no h1, if_neg h1, Vp.run_bind_is (h.sok.capP f), if_pos hf]
  by_cases h2 : (S.cap f).kind ≠ 1
  · rw [Vp.run_yes h2, Vp.run_ret, if_pos h2, if_neg (by decide)]
  rw [Vp.run_no h2, if_neg h2, Vp.run_bind_is (h.isP _ (by decide))]
  by_cases h3 : isO S (S.cap f).obj 1 = false
  · rw [Vp.run_yes h3, Vp.run_ret, if_pos h3, if_neg (by decide)]
  rw [Vp.run_no h3, if_neg h3]
  by_cases h4 : hasR (S.cap f).rights 2 = false
  · rw [Vp.run_yes h4, Vp.run_ret, if_pos h4, if_neg (by decide)]
  rw [Vp.run_no h4, if_neg h4, Vp.run_bind_is (h.sok.capP t), if_pos ht]
  by_cases h5 : (S.cap t).kind ≠ 0
  · rw [Vp.run_yes h5, Vp.run_ret, if_pos h5, if_neg (by decide)]
  rw [Vp.run_no h5, if_neg h5, Vp.run_bind_is (h.sok.parP t)]
  by_cases h6 : 0 ≤ S.par t
  · rw [Vp.run_yes h6, Vp.run_ret, if_pos h6, if_neg (by decide)]
  · rw [Vp.run_no h6, Vp.run_ret, if_neg h6, if_pos rfl]
theorem btwN_ok (h : btwN S f t = 0) : (InS f ∧ InS t) ∧ (S.cap f).kind = 1 ∧ isO S (S.cap f).obj 1 = true ∧ (S.cap t).kind = 0 ∧ S.par t < 0 := by
  unfold btwN at h
  by_cases h1 : slotOk f = false ∨ slotOk t = false
  · rw [if_pos h1] at h; omega
  rw [if_neg h1] at h
  by_cases h2 : (S.cap f).kind ≠ 1
  · rw [if_pos h2] at h; omega
  rw [if_neg h2] at h
  by_cases h3 : isO S (S.cap f).obj 1 = false
  · rw [if_pos h3] at h; omega
  rw [if_neg h3] at h
  by_cases h4 : hasR (S.cap f).rights 2 = false
  · rw [if_pos h4] at h; omega
  rw [if_neg h4] at h
  by_cases h5 : (S.cap t).kind ≠ 0
  · rw [if_pos h5] at h; omega
  rw [if_neg h5] at h
  by_cases h6 : 0 ≤ S.par t
  · rw [if_pos h6] at h; omega
  exact ⟨⟨slotOk_in.1 (by cases hf : slotOk f <;> simp_all), slotOk_in.1 (by cases ht : slotOk t <;> simp_all)⟩, by simpa using h2, by simpa using h3, by simpa using h5, by omega⟩
theorem Uok.usedL (h : Uok S) : Go.Proofs.Ytffoajakkghlbaa.usedL (wordsG S) = (S.ns, S.no) := by
  unfold Go.Proofs.Ytffoajakkghlbaa.usedL
  rw [h.sok.nsW, h.sok.noW, Int.min_eq_left h.ns.2, Int.min_eq_left h.no.2]
theorem newF_fld {sl : Int} (hk : 1 ≤ k ∧ k ≤ 7) (hs : S.ns = sl) {j : Nat} (hj : j < 8) : newF k b sl j = fldW (newO S k b) j := by rw [fldW_new hk hj, ← hs]; rfl
theorem newF_pos {c sl : Int} (hc : costZ k b = c) (h0 : ¬ c < 0) (hs : 0 ≤ sl) (j : Nat) : 0 ≤ newF k b sl j := by
  obtain ⟨hk, hb⟩ := costZ_kind (k := k) (b := b) (by omega)
  have hr := costZ_rng k b
  unfold newF
  repeat' split
  all_goals omega
/-- linked, and put, in the end -/
theorem Uok.giveP (h : Uok S) (h0 : retN S f t k b = 0) : (ugiveP f t (fullC k S.no)).run machP (wordsG (midS S f k b)) = (0, wordsG (retS S f t k b)) := by
  obtain ⟨hu, -⟩ := h.mid h0
  obtain ⟨⟨hf, ht⟩, ⟨kf, -⟩, -, ⟨kt, pt⟩, hc, -, -, hn⟩ := retN_ok h0
  obtain ⟨hk, -⟩ := costZ_kind hc
  have hne : t ≠ f := fun e => by rw [e] at kt; omega
  have hL : linkN (midS S f k b) t f = 0 := by
    unfold linkN
    rw [if_neg (by rw [slotOk_in.2 hf, slotOk_in.2 ht]; simp), if_neg (fun e => e.elim hne (fun q => by have : 0 ≤ S.par t := q; omega))]
  unfold ugiveP retS
  rw [Vp.run_bind_is (hu.sok.linkP t f), hL, Vp.run_no (by simp), (hu.sok.link t f).1.csetP ht (fullC_may ⟨hk.1, by omega⟩ ⟨h.no.1, by omega⟩), if_pos h0, retOk_mid]
  unfold belowS
  rw [if_pos hL]
theorem Uok.retP (h : Uok S) (f t k b : Int) : (uretP f t k b).run machP (wordsG S) = (retA S f t k b, wordsG (retS S f t k b)) := by
  have no : ∀ e, retN S f t k b = e → e ≠ 0 → (retA S f t k b, wordsG (retS S f t k b)) = ((0, e), wordsG S) := fun e he h0 => by
    unfold retA retS
    rw [he, if_neg h0, if_neg h0]
  have hb := retN_btw S f t k b
  unfold uretP
  rw [Vp.run_bind_is (h.btwP f t)]
  dsimp only
  by_cases h1 : btwN S f t ≠ 0
  · rw [if_pos h1] at hb
    rw [Vp.run_yes h1, Vp.run_ret, no _ hb h1]
  rw [if_neg h1] at hb
  have h1' : btwN S f t = 0 := by simpa using h1
  rw [Vp.run_no h1, if_pos h1']
  by_cases h2 : costZ k b < 0
  · rw [if_pos h2] at hb
    rw [Vp.run_yes h2, Vp.run_ret, no _ hb (by decide)]
  rw [if_neg h2] at hb
  obtain ⟨⟨hf, ht⟩, kf, io, kt, pt⟩ := btwN_ok h1'
  have hl : leftZ S (S.cap f).obj = (S.ob (S.cap f).obj).size - (S.ob (S.cap f).obj).used := if_pos io
  rw [Vp.run_no h2, Vp.run_bind_is (h.leftP _), hl]
  by_cases h3 : (S.ob (S.cap f).obj).size - (S.ob (S.cap f).obj).used < costZ k b
  · rw [if_pos h3] at hb
    rw [Vp.run_yes h3, Vp.run_ret, no _ hb (by decide)]
  rw [if_neg h3] at hb
  rw [Vp.run_no h3, Vp.run_bind_is takeP_plain]
  have hr := costZ_rng k b
  have hs : 0 ≤ slotsZ k b := by unfold slotsZ; split <;> omega
  have hA : takeA (wordsG S) (slotsZ k b) 1 = if 96 < S.ns + slotsZ k b ∨ 32 < S.no + 1 then (0, 0, 7) else (S.ns, S.no, 0) := by
    unfold takeA
    rw [if_neg (by omega), h.usedL]
    dsimp only
    by_cases q : 96 < S.ns + slotsZ k b ∨ 32 < S.no + 1
    · rw [if_pos q, if_pos (by omega)]
    · rw [if_neg q, if_neg (by omega)]
  have hT : takeL (wordsG S) (slotsZ k b) 1 = if 96 < S.ns + slotsZ k b ∨ 32 < S.no + 1 then wordsG S else setL (setL (wordsG S) 736 (S.ns + slotsZ k b)) 737 (S.no + 1) := by
    unfold takeL
    rw [if_neg (by omega), h.usedL]
    dsimp only
    by_cases q : 96 < S.ns + slotsZ k b ∨ 32 < S.no + 1
    · rw [if_pos q, if_pos (by omega)]
    · rw [if_neg q, if_neg (by omega)]
  rw [hA, hT]
  by_cases h4 : 96 < S.ns + slotsZ k b ∨ 32 < S.no + 1
  · rw [if_pos h4] at hb
    rw [if_pos h4, if_pos h4, Vp.run_yes (by decide), Vp.run_ret, no _ hb (by decide)]
  rw [if_neg h4] at hb
  rw [if_neg h4, if_neg h4]
  dsimp only
  rw [Vp.run_no (by simp)]
  have hlen : (wordsG S).length = 738 := h.sok.gur.rep.1
  have l1 : (setL (setL (wordsG S) 736 (S.ns + slotsZ k b)) 737 (S.no + 1)).length = 738 := by rw [setL_length, setL_length, hlen]
  have a1 : ∀ j, atL (setL (setL (wordsG S) 736 (S.ns + slotsZ k b)) 737 (S.no + 1)) j = if j = 737 then S.no + 1 else if j = 736 then S.ns + slotsZ k b else atL (wordsG S) j := fun j => by
    rw [atL_setL, setL_length, hlen, atL_setL, hlen]
    simp [hasB]
  generalize setL (setL (wordsG S) 736 (S.ns + slotsZ k b)) 737 (S.no + 1) = L1 at l1 a1 ⊢
  obtain ⟨hu, m, n, em, en, hm, hn, hmn, hmk⟩ := h.mid hb
  have emo : (S.ob (S.cap f).obj).used = (S.ob m).used := by rw [em]
  have qm := h.mem m hm hmk
  have hu2 : fieldL L1 m 2 = (S.ob m).used := by
    have q := (h.memL hm hmk).2
    have ho : objB (m : Int) 2 = true := objB_yes.2 ⟨by omega, by omega, by decide, by decide⟩
    unfold fieldL at q ⊢
    rw [if_pos ho] at q ⊢
    rw [a1, if_neg (by omega), if_neg (by omega)]
    exact q
  rw [em, en, Vp.run_bind_is fieldP_plain, hu2, Vp.run_bind_is (uputsP_plain 8 0 L1), Vp.run_bind_is putP_plain]
  have hk := (costZ_kind h2).1
  have hF : ∀ i, 0 ≤ newF k b S.ns i := fun i => newF_pos rfl h2 h.ns.1 i
  obtain ⟨l2, b2, c2⟩ := uputsL_at (o := (n : Int)) (F := newF k b S.ns) ⟨by omega, by omega⟩ hF 8 0 L1 l1 (by omega)
  generalize uputsL (n : Int) (newF k b S.ns) 0 8 L1 = L2 at l2 b2 c2 ⊢
  have a3 := fun j => atL_oput (L := L2) (o := (m : Int)) (f := 2) (v := (S.ob m).used + costZ k b) (j := j) l2 ⟨by omega, by omega⟩ (by decide) (by omega)
  have e3 : putL L2 m 2 ((S.ob m).used + costZ k b) = wordsG (midS S f k b) := by
    have low : ∀ j, (∀ i : Nat, i < 8 → j ≠ 480 + 8 * (n : Int) + i) → j ≠ 736 → j ≠ 737 → j ≠ 480 + 8 * (m : Int) + 2 → atL (putL L2 m 2 ((S.ob m).used + costZ k b)) j = atL (wordsG S) j := fun j h1 h2 h3 h4 => by
      rw [(a3 j).2, if_neg h4, c2 j (fun i _ hi => h1 i (by omega)), a1, if_neg h3, if_neg h2]
    refine h.mid_words hb (a3 0).1 (fun j hj => low j (fun i hi => by omega) (by omega) (by omega) (by omega)) (fun m' hm' => ?_) (fun n' fd hn' hfd => ?_) (fun m' n' i fd hm' hn' hi hfd h1 h2 => ?_) ?_ ?_
    · obtain rfl : m' = m := by omega
      rw [(a3 _).2, if_pos (by unfold ow; omega)]
    · obtain rfl : n' = n := by omega
      rw [(a3 _).2, if_neg (by unfold ow; omega), show ow n' fd = 480 + 8 * (n' : Int) + fd by unfold ow; omega, b2 fd (by omega) (by omega), newF_fld hk rfl hfd]
    · obtain rfl : m' = m := by omega
      obtain rfl : n' = n := by omega
      exact low _ (fun j hj => by unfold ow; omega) (by unfold ow; omega) (by unfold ow; omega) (by unfold ow; omega)
    · rw [(a3 _).2, if_neg (by omega), c2 _ (fun i _ hi => by omega), a1, if_neg (by decide), if_pos rfl]
    · rw [(a3 _).2, if_neg (by omega), c2 _ (fun i _ hi => by omega), a1, if_pos rfl]
  rw [e3, ← en, Vp.run_bind_is (h.giveP hb), Vp.run_no (by simp), Vp.run_ret]
  unfold retA
  rw [hb, if_pos rfl]
end
end Go.Proofs.Ytffoajakkghlbaa
