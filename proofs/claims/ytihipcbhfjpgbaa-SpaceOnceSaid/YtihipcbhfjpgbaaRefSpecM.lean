/- The document's words of objects, point by point: what each object does to a word (layers 11 to 21), as mathematics. -/
import Derived.Test.YtihipcbhfjpgbaaRefObjM
import Derived.Test.YtihipcbhfjpgbaaRefSlotsM
namespace Go.Proofs.Ytihipcbhfjpgbaa
open Go.RowKit
/-- a word is put, seen at word j -/
def putF (p v j c : Int) : Int := if j = p then v else c
section
variable {L l : List Int} {p v j c : Int} {x : RObj} {i n : Nat} {S : RSt}
theorem putF_at (v c : Int) : putF j v j c = v := if_pos rfl
theorem putF_ne (h : j ≠ p) : putF p v j c = c := if_neg h
theorem atL_put (hl : L.length = 738) (hj : 0 ≤ j ∧ j < 738) : atL (setL L p v) j = putF p v j (atL L j) := by
  rw [atL_setL, hl, putF]
  by_cases e : j = p
  · rw [if_pos e, if_pos ⟨hasB_yes.2 (by rw [← e] at *; exact hj), e⟩]
  · rw [if_neg e, if_neg (fun h => e h.2)]
def pageF (i : Nat) (x : RObj) (p : Nat) (j c : Int) : Int := if 0 ≤ x.pg p then putF (ow i (1 + p)) (8 * (x.pg p + 1) + x.rt p) j c else c
def spaceF (i : Nat) (x : RObj) (j c : Int) : Nat → Int
  | 0 => c
  | n + 1 => pageF i x n j (spaceF i x j c n)
def threadF (i : Nat) (x : RObj) (j c : Int) : Int :=
  putF (ow i 7) x.root.word j (putF (ow i 6) (x.owes + 1) j (putF (ow i 5) (x.prio + 256 * (x.on + 1)) j (putF (ow i 4) x.badge j (putF (ow i 3) x.word j (if j = ow i 2 then addU c (x.owing + 1) else putF (ow i 1) x.state j c)))))
def kindF (i : Nat) (x : RObj) (j c : Int) : Int :=
  if x.kind = 1 then putF (ow i 2) x.used j (putF (ow i 1) x.size j c)
  else if x.kind = 2 then putF (ow i 2) x.radix j (putF (ow i 1) x.first j c)
  else if x.kind = 3 then putF (ow i 1) x.wait j c
  else if x.kind = 4 then putF (ow i 1) x.word j c
  else if x.kind = 5 then threadF i x j c
  else if x.kind = 6 then putF (ow i 2) x.page j (putF (ow i 1) (x.inn + 1) j c)
  else if x.kind = 7 then spaceF i x j c 4
  else if x.kind = 8 then putF (ow i 3) x.mask j (putF (ow i 2) x.badge j (putF (ow i 1) (x.bound + 1) j c))
  else c
theorem threadL_len : (threadL i x L).length = L.length := by unfold threadL; simp only [setL_length]
theorem spaceL_len : ∀ n, (spaceL i x L n).length = L.length := by
  intro n
  induction n with
  | zero => rfl
  | succ n ih =>
    rw [show spaceL i x L (n + 1) = pageL i x (spaceL i x L n) n from rfl, pageL]
    split
    · rw [setL_length, ih]
    · exact ih
theorem kindL_len : (kindL i x L).length = L.length := by
  unfold kindL
  repeat' split
  all_goals first | with_reducible exact threadL_len | with_reducible exact spaceL_len _ | (simp only [setL_length])
theorem threadL_at (hl : L.length = 738) (hj : 0 ≤ j ∧ j < 738) : atL (threadL i x L) j = threadF i x j (atL L j) := by
  unfold threadL threadF
  rw [atL_put (by simp only [setL_length]; exact hl) hj, atL_put (by simp only [setL_length]; exact hl) hj, atL_put (by simp only [setL_length]; exact hl) hj, atL_put (by simp only [setL_length]; exact hl) hj,
    atL_put (by simp only [setL_length]; exact hl) hj, atL_put (by simp only [setL_length]; exact hl) hj, atL_put hl hj]
  congr 5
  unfold putF
  by_cases e : j = ow i 2
  · have e1 : ¬ ow i 2 = ow i 1 := by unfold ow; omega
    rw [if_pos e, if_pos e, e, atL_setL, if_neg (fun h => e1 h.2)]
  · rw [if_neg e, if_neg e]
theorem spaceL_at (hl : L.length = 738) (hj : 0 ≤ j ∧ j < 738) : ∀ n, atL (spaceL i x L n) j = spaceF i x j (atL L j) n := by
  intro n
  induction n with
  | zero => rfl
  | succ n ih =>
    rw [show spaceL i x L (n + 1) = pageL i x (spaceL i x L n) n from rfl, show spaceF i x j (atL L j) (n + 1) = pageF i x n j (spaceF i x j (atL L j) n) from rfl, pageL, pageF]
    split
    · rw [atL_put (by rw [spaceL_len]; exact hl) hj, ih]
    · exact ih
theorem kindL_at (hl : L.length = 738) (hj : 0 ≤ j ∧ j < 738) : atL (kindL i x L) j = kindF i x j (atL L j) := by
  unfold kindL kindF
  repeat' split
  all_goals first
    | with_reducible exact threadL_at hl hj
    | with_reducible exact spaceL_at hl hj 4
    | with_reducible rfl
    | rw [atL_put (by simp only [setL_length]; exact hl) hj, atL_put (by simp only [setL_length]; exact hl) hj, atL_put hl hj]
    | rw [atL_put (by simp only [setL_length]; exact hl) hj, atL_put hl hj]
    | rw [atL_put hl hj]
/-- a queue's words, seen at word j -/
def queueF (i : Nat) (l : List Int) (j c : Int) : Nat → Int
  | 0 => c
  | n + 1 =>
    if n + 1 < l.length then putF (480 + 8 * l.getD n 0 + 2) (l.getD (n + 1) 0 + 1) j (if n = 0 then putF (ow i 2) (l.getD n 0 + 1) j (queueF i l j c n) else queueF i l j c n)
    else putF (ow i 3) (l.getD n 0 + 1) j (if n = 0 then putF (ow i 2) (l.getD n 0 + 1) j (queueF i l j c n) else queueF i l j c n)
theorem qw1_len {m : Nat} : (qw1 i l m L).length = L.length := by unfold qw1; split <;> simp only [setL_length]
theorem qw2_len {m : Nat} : (qw2 i l m L).length = L.length := by unfold qw2; split <;> simp only [setL_length]
theorem queueL_len : ∀ n, (queueL i l L n).length = L.length := by
  intro n
  induction n with
  | zero => rfl
  | succ n ih => rw [queueL_two, qw2_len, qw1_len, ih]
theorem queueL_at (hl : L.length = 738) (hj : 0 ≤ j ∧ j < 738) : ∀ n, atL (queueL i l L n) j = queueF i l j (atL L j) n := by
  intro n
  induction n with
  | zero => rfl
  | succ n ih =>
    have h1 : atL (qw1 i l n (queueL i l L n)) j = if n = 0 then putF (ow i 2) (l.getD n 0 + 1) j (queueF i l j (atL L j) n) else queueF i l j (atL L j) n := by
      unfold qw1
      split
      · rw [atL_put (by rw [queueL_len]; exact hl) hj, ih]
      · exact ih
    rw [queueL_two]
    unfold qw2 queueF
    rw [← h1]
    split
    · rw [atL_put (by rw [qw1_len, queueL_len]; exact hl) hj]
    · rw [atL_put (by rw [qw1_len, queueL_len]; exact hl) hj]
/-- what object i does to word j -/
def effF (i : Nat) (x : RObj) (j c : Int) : Int := queueF i x.queue j (kindF i x j (putF (ow i 0) x.kind j c)) x.queue.length
theorem objL_len : (objL S L i).length = L.length := by unfold objL; rw [queueL_len, kindL_len, setL_length]
theorem objL_at (hl : L.length = 738) (hj : 0 ≤ j ∧ j < 738) : atL (objL S L i) j = effF i (S.ob i) j (atL L j) := by
  unfold objL effF
  rw [queueL_at (by rw [kindL_len, setL_length]; exact hl) hj, kindL_at (by rw [setL_length]; exact hl) hj, atL_put hl hj]
def effs (S : RSt) (j c : Int) : Nat → Int
  | 0 => c
  | n + 1 => effF n (S.ob n) j (effs S j c n)
theorem objsL_len : ∀ n, (objsL S L n).length = L.length := by
  intro n
  induction n with
  | zero => rfl
  | succ n ih => rw [show objsL S L (n + 1) = objL S (objsL S L n) n from rfl, objL_len, ih]
theorem objsL_at (hl : L.length = 738) (hj : 0 ≤ j ∧ j < 738) : ∀ n, atL (objsL S L n) j = effs S j (atL L j) n := by
  intro n
  induction n with
  | zero => rfl
  | succ n ih => rw [show objsL S L (n + 1) = objL S (objsL S L n) n from rfl, objL_at (by rw [objsL_len]; exact hl) hj, ih]; rfl
theorem wordsG_len (S : RSt) : (wordsG S).length = 738 := by unfold wordsG; rw [setL_length, setL_length, objsL_len, applyW_length, zeros_len]
/-- word by word -/
theorem wordsG_at (S : RSt) (hj : 0 ≤ j ∧ j < 738) : atL (wordsG S) j = putF 737 S.no j (putF 736 S.ns j (effs S j (atL (slotsL S) j) 32)) := by
  have h0 : (applyW ((List.range 96).flatMap (slotW S)) zeros).length = 738 := by rw [applyW_length, zeros_len]
  have h1 : (objsL S (applyW ((List.range 96).flatMap (slotW S)) zeros) 32).length = 738 := by rw [objsL_len]; exact h0
  unfold wordsG slotsL
  rw [atL_put (by rw [setL_length]; exact h1) hj, atL_put h1 hj, objsL_at h0 hj]
/-- an object that doesn't touch a word leaves it -/
theorem spaceF_far : ∀ n, n ≤ 4 → (∀ f : Nat, 1 ≤ f → f ≤ 4 → j ≠ ow i f) → spaceF i x j c n = c := by
  intro n
  induction n with
  | zero => intro _ _; rfl
  | succ n ih =>
    intro hn h
    rw [show spaceF i x j c (n + 1) = pageF i x n j (spaceF i x j c n) from rfl, pageF]
    split
    · rw [putF_ne (h (1 + n) (by omega) (by omega)), ih (by omega) h]
    · exact ih (by omega) h
theorem kindF_far (h : ∀ f : Nat, 1 ≤ f → f ≤ 7 → j ≠ ow i f) : kindF i x j c = c := by
  have h1 := h 1 (by omega) (by omega)
  have h2 := h 2 (by omega) (by omega)
  have h3 := h 3 (by omega) (by omega)
  have h4 := h 4 (by omega) (by omega)
  have h5 := h 5 (by omega) (by omega)
  have h6 := h 6 (by omega) (by omega)
  have h7 := h 7 (by omega) (by omega)
  unfold kindF threadF
  rw [putF_ne h7, putF_ne h6, putF_ne h5, putF_ne h4, putF_ne h3, if_neg h2, putF_ne h1, putF_ne h2, putF_ne h1, putF_ne h2, putF_ne h1, putF_ne h1, putF_ne h1, putF_ne h2, putF_ne h1, putF_ne h3, putF_ne h2, putF_ne h1,
    spaceF_far 4 (by omega) (fun f a b => h f a (by omega))]
  repeat' split
  all_goals rfl
theorem queueF_far (h2 : j ≠ ow i 2) (h3 : j ≠ ow i 3) (hq : ∀ t, t ∈ l → j ≠ 480 + 8 * t + 2) : ∀ n, n ≤ l.length → queueF i l j c n = c := by
  intro n
  induction n with
  | zero => intro _; rfl
  | succ n ih =>
    intro hn
    unfold queueF
    rw [ih (by omega), putF_ne h2]
    have hm : l.getD n 0 ∈ l := List.mem_of_getElem? (get_of (by omega))
    rw [putF_ne h3, putF_ne (hq _ hm)]
    simp
theorem effF_far (h : ∀ f : Nat, f ≤ 7 → j ≠ ow i f) (hq : ∀ t, t ∈ x.queue → j ≠ 480 + 8 * t + 2) : effF i x j c = c := by
  unfold effF
  rw [queueF_far (h 2 (by omega)) (h 3 (by omega)) hq _ (Nat.le_refl _), kindF_far (fun f _ b => h f b), putF_ne (h 0 (by omega))]
theorem effs_far {n m : Nat} (hnm : n ≤ m) (h : ∀ i : Nat, n ≤ i → i < m → ∀ d, effF i (S.ob i) j d = d) : effs S j c m = effs S j c n := by
  induction m with
  | zero => obtain rfl : n = 0 := by omega
            rfl
  | succ m ih =>
    by_cases e : n = m + 1
    · subst e; rfl
    · rw [show effs S j c (m + 1) = effF m (S.ob m) j (effs S j c m) from rfl, h m (by omega) (by omega), ih (by omega) (fun i a b => h i a (by omega))]
end
end Go.Proofs.Ytihipcbhfjpgbaa
