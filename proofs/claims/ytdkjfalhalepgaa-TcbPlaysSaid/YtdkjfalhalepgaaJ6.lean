/- The document's words of a state without capabilities and objects (layer 10) tell its tree: as mathematics. -/
import Derived.Test.YtdkjfalhalepgaaCdtRepB
import Derived.Test.YtdkjfalhalepgaaJ3
import Derived.Test.YtdkjfalhalepgaaJ4
import Derived.Test.YtdkjfalhalepgaaJ1
import Derived.Laws.BitsLemmas
import Derived.IntWalk
namespace Go.Proofs.Ytdkjfalhalepgaa
open Go.RowKit
section
variable {S : RSt} {i j k x : Int} {l : List Int}
theorem after_get (hn : l.Nodup) {m : Nat} (h : l[m]? = some x) : after x l = if m + 1 < l.length then l.getD (m + 1) 0 + 1 else 0 := by
  induction l generalizing m with
  | nil => simp at h
  | cons y l ih =>
    obtain ⟨hy, hn⟩ := List.nodup_cons.1 hn
    rw [after_cons]
    cases m with
    | zero =>
      simp only [List.getElem?_cons_zero, Option.some.injEq] at h
      rw [if_pos h]
      cases l with
      | nil => simp [headK]
      | cons z l => simp [headK]
    | succ m =>
      simp only [List.getElem?_cons_succ] at h
      have hm : x ∈ l := List.mem_of_getElem? h
      rw [if_neg (fun e : y = x => hy (by rw [e]; exact hm)), ih hn h]
      simp
theorem before_get (hx : 0 ≤ x) (hn : l.Nodup) {m : Nat} (h : l[m]? = some x) : before x l = if m = 0 then 0 else l.getD (m - 1) 0 + 1 := by
  induction l generalizing m with
  | nil => simp at h
  | cons y l ih =>
    obtain ⟨hy, hn⟩ := List.nodup_cons.1 hn
    rw [before_cons hx]
    cases m with
    | zero =>
      simp only [List.getElem?_cons_zero, Option.some.injEq] at h
      subst h
      rw [if_neg (fun e => hy (headK_mem e hx)), before_not hx hy]
      simp
    | succ m =>
      simp only [List.getElem?_cons_succ] at h
      cases m with
      | zero =>
        cases l with
        | nil => simp at h
        | cons z l =>
          simp only [List.getElem?_cons_zero, Option.some.injEq] at h
          subst h
          rw [headK_cons, if_pos rfl]
          simp
      | succ m =>
        have hne : ¬ headK l = x + 1 := fun e => by
          cases l with
          | nil => simp at h
          | cons z l =>
            rw [headK_cons] at e
            obtain rfl : z = x := by omega
            simp only [List.getElem?_cons_succ] at h
            exact (List.nodup_cons.1 hn).1 (List.mem_of_getElem? h)
        rw [if_neg hne, ih hn h]
        simp
theorem kidW_mem {i : Nat} {m : Nat} {p : Int × Int} (hp : p ∈ kidW i l m) (hm : m < l.length) : (m = 0 ∧ p = (5 * (i : Int) + 2, l.getD 0 0 + 1)) ∨ (m ≠ 0 ∧ p = (5 * l.getD m 0 + 4, l.getD (m - 1) 0 + 1)) ∨ (m + 1 < l.length ∧ p = (5 * l.getD m 0 + 3, l.getD (m + 1) 0 + 1)) := by
  unfold kidW at hp
  rcases List.mem_append.1 hp with h | h
  · split at h
    · next e => subst e; simp only [List.mem_singleton] at h; exact .inl ⟨rfl, h⟩
    · next e => simp only [List.mem_singleton] at h; exact .inr (.inl ⟨e, h⟩)
  · split at h
    · next e => simp only [List.mem_singleton] at h; exact .inr (.inr ⟨e, h⟩)
    · simp at h
theorem slotsW_mem {p : Int × Int} : p ∈ (List.range 96).flatMap (slotW S) ↔ ∃ i : Nat, i < 96 ∧ (p = (5 * (i : Int), (S.cap i).word) ∨ p = (5 * (i : Int) + 1, S.par i + 1) ∨ ∃ m, m < (S.kids i).length ∧ p ∈ kidW i (S.kids i) m) := by
  simp only [List.mem_flatMap, List.mem_range, slotW, List.mem_append, List.mem_cons, List.not_mem_nil, or_false]
  constructor
  · rintro ⟨i, hi, (h | h) | ⟨m, hm, h⟩⟩
    · exact ⟨i, hi, .inl h⟩
    · exact ⟨i, hi, .inr (.inl h)⟩
    · exact ⟨i, hi, .inr (.inr ⟨m, hm, h⟩)⟩
  · rintro ⟨i, hi, h | h | ⟨m, hm, h⟩⟩
    · exact ⟨i, hi, .inl (.inl h)⟩
    · exact ⟨i, hi, .inl (.inr h)⟩
    · exact ⟨i, hi, .inr ⟨m, hm, h⟩⟩
theorem get_of {m : Nat} (h : m < l.length) : l[m]? = some (l.getD m 0) := by
  rw [List.getD_eq_getElem?_getD, List.getElem?_eq_getElem h]
  rfl
theorem slots_at {v : Int} (hj : 0 ≤ j ∧ j < 738) (h1 : ∀ p, p ∈ (List.range 96).flatMap (slotW S) → p.1 = j → p.2 = v) (h2 : (∃ p, p ∈ (List.range 96).flatMap (slotW S) ∧ p.1 = j) ∨ v = 0) : atL (applyW ((List.range 96).flatMap (slotW S)) zeros) j = v := by
  refine applyW_at _ _ (by rw [zeros_len]; exact hasB_yes.2 hj) h1 ?_
  rcases h2 with h | h
  · exact .inl h
  · exact .inr (by rw [zeros_at, h])
theorem kid_par (t : Tree S.par S.kids) {i : Nat} (hi : i < 96) {m : Nat} (hm : m < (S.kids i).length) : InS ((S.kids i).getD m 0) ∧ S.par ((S.kids i).getD m 0) = i :=
  (t.kid i _ ⟨by omega, by omega⟩).1 (List.mem_of_getElem? (get_of hm))
end
end Go.Proofs.Ytdkjfalhalepgaa
/- The document's words of slots, word by word: of any state whose slots are a tree (layers 11 to 21), as mathematics. -/
namespace Go.Proofs.Ytdkjfalhalepgaa
open Go.RowKit
/-- what Words puts for slots -/
def slotsL (S : RSt) : List Int := applyW ((List.range 96).flatMap (slotW S)) zeros
section
variable {S : RSt} {i j k x : Int} {l : List Int}
theorem slotsL_rep (t : Tree S.par S.kids) : Rep (slotsL S) S.par S.kids ∧ (∀ i, InS i → atL (slotsL S) (5 * i) = (S.cap i).word) ∧ ∀ j, 480 ≤ j → atL (slotsL S) j = 0 := by
  have hlen : (slotsL S).length = 738 := by unfold slotsL; rw [applyW_length, zeros_len]
  refine ⟨⟨hlen, fun i hi => ?_, fun i hi => ?_, fun i hi => ?_, fun i hi => ?_⟩, fun i hi => ?_, fun j hj => ?_⟩
  · obtain ⟨n, rfl⟩ : ∃ n : Nat, i = n := ⟨i.toNat, by have := hi.1; omega⟩
    have hn : n < 96 := by have := hi.2; omega
    unfold slotsL
    refine slots_at ⟨by omega, by omega⟩ (fun p hp e => ?_) (.inl ⟨(5 * (n : Int) + 1, S.par n + 1), slotsW_mem.2 ⟨n, hn, .inr (.inl rfl)⟩, rfl⟩)
    obtain ⟨i, hi2, rfl | rfl | ⟨m, hm, hk⟩⟩ := slotsW_mem.1 hp
    · simp only at e; omega
    · simp only at e ⊢
      obtain rfl : i = n := by omega
      rfl
    · rcases kidW_mem hk hm with ⟨-, rfl⟩ | ⟨-, rfl⟩ | ⟨-, rfl⟩ <;> (simp only at e; omega)
  · obtain ⟨n, rfl⟩ : ∃ n : Nat, i = n := ⟨i.toNat, by have := hi.1; omega⟩
    have hn : n < 96 := by have := hi.2; omega
    unfold slotsL
    refine slots_at ⟨by omega, by omega⟩ (fun p hp e => ?_) ?_
    · obtain ⟨i, hi2, rfl | rfl | ⟨m, hm, hk⟩⟩ := slotsW_mem.1 hp
      · simp only at e; omega
      · simp only at e; omega
      · rcases kidW_mem hk hm with ⟨rfl, rfl⟩ | ⟨-, rfl⟩ | ⟨-, rfl⟩
        · simp only at e ⊢
          obtain rfl : i = n := by omega
          cases hl : S.kids i with
          | nil => rw [hl] at hm; simp at hm
          | cons y l => simp [headK]
        · simp only at e; omega
        · simp only at e; omega
    · cases hl : S.kids n with
      | nil => exact .inr rfl
      | cons y l =>
        left
        refine ⟨(5 * (n : Int) + 2, (S.kids n).getD 0 0 + 1), slotsW_mem.2 ⟨n, hn, .inr (.inr ⟨0, by rw [hl]; simp, ?_⟩)⟩, rfl⟩
        simp [kidW]
  · have hi0 := hi.1
    have hi9 := hi.2
    unfold slotsL
    refine slots_at ⟨by omega, by omega⟩ (fun p hp e => ?_) ?_
    · obtain ⟨q, hq, rfl | rfl | ⟨m, hm, hk⟩⟩ := slotsW_mem.1 hp
      · simp only at e; omega
      · simp only at e; omega
      · have hkp := kid_par t hq hm
        rcases kidW_mem hk hm with ⟨-, rfl⟩ | ⟨-, rfl⟩ | ⟨hm1, rfl⟩
        · simp only at e; omega
        · simp only at e; omega
        · simp only at e ⊢
          have ei : (S.kids q).getD m 0 = i := by omega
          rw [ei] at hkp
          rw [nxt, hkp.2, if_neg (by omega), after_get (t.nodup q ⟨by omega, by omega⟩) (by rw [get_of hm, ei]), if_pos hm1]
    · by_cases hpi : S.par i = -1
      · exact .inr (by rw [nxt, if_pos hpi])
      · obtain ⟨hp, hm⟩ := t.mem hi hpi
        obtain ⟨q, hq⟩ : ∃ q : Nat, S.par i = q := ⟨(S.par i).toNat, by have := hp.1; omega⟩
        obtain ⟨m, hm⟩ := List.mem_iff_getElem?.1 hm
        have hml := (List.getElem?_eq_some_iff.1 hm).1
        have hq9 : q < 96 := by have := hp.2; omega
        by_cases h1 : m + 1 < (S.kids (S.par i)).length
        · left
          rw [hq] at hm hml h1
          have e1 : (S.kids q).getD m 0 = i := by rw [List.getD_eq_getElem?_getD, hm]; rfl
          refine ⟨(5 * (S.kids q).getD m 0 + 3, (S.kids q).getD (m + 1) 0 + 1), slotsW_mem.2 ⟨q, hq9, .inr (.inr ⟨m, hml, ?_⟩)⟩, by simp only [e1]⟩
          unfold kidW
          rw [if_pos h1]
          simp
        · exact .inr (by rw [nxt, if_neg hpi, after_get (t.nodup _ hp) hm, if_neg h1])
  · have hi0 := hi.1
    have hi9 := hi.2
    unfold slotsL
    refine slots_at ⟨by omega, by omega⟩ (fun p hp e => ?_) ?_
    · obtain ⟨q, hq, rfl | rfl | ⟨m, hm, hk⟩⟩ := slotsW_mem.1 hp
      · simp only at e; omega
      · simp only at e; omega
      · have hkp := kid_par t hq hm
        rcases kidW_mem hk hm with ⟨-, rfl⟩ | ⟨hm1, rfl⟩ | ⟨-, rfl⟩
        · simp only at e; omega
        · simp only at e ⊢
          have ei : (S.kids q).getD m 0 = i := by omega
          rw [ei] at hkp
          rw [prv, hkp.2, if_neg (by omega), before_get hi0 (t.nodup q ⟨by omega, by omega⟩) (by rw [get_of hm, ei]), if_neg hm1]
        · simp only at e; omega
    · by_cases hpi : S.par i = -1
      · exact .inr (by rw [prv, if_pos hpi])
      · obtain ⟨hp, hm⟩ := t.mem hi hpi
        obtain ⟨q, hq⟩ : ∃ q : Nat, S.par i = q := ⟨(S.par i).toNat, by have := hp.1; omega⟩
        obtain ⟨m, hm⟩ := List.mem_iff_getElem?.1 hm
        have hml := (List.getElem?_eq_some_iff.1 hm).1
        have hq9 : q < 96 := by have := hp.2; omega
        by_cases h1 : m = 0
        · exact .inr (by rw [prv, if_neg hpi, before_get hi0 (t.nodup _ hp) hm, if_pos h1])
        · left
          rw [hq] at hm hml
          have e1 : (S.kids q).getD m 0 = i := by rw [List.getD_eq_getElem?_getD, hm]; rfl
          refine ⟨(5 * (S.kids q).getD m 0 + 4, (S.kids q).getD (m - 1) 0 + 1), slotsW_mem.2 ⟨q, hq9, .inr (.inr ⟨m, hml, ?_⟩)⟩, by simp only [e1]⟩
          unfold kidW
          rw [if_neg h1]
          simp
  · obtain ⟨n, rfl⟩ : ∃ n : Nat, i = n := ⟨i.toNat, by have := hi.1; omega⟩
    have hn : n < 96 := by have := hi.2; omega
    unfold slotsL
    refine slots_at ⟨by omega, by omega⟩ (fun p hp e => ?_) (.inl ⟨(5 * (n : Int), (S.cap n).word), slotsW_mem.2 ⟨n, hn, .inl rfl⟩, rfl⟩)
    obtain ⟨i, hi2, rfl | rfl | ⟨m, hm, hk⟩⟩ := slotsW_mem.1 hp
    · simp only at e ⊢
      obtain rfl : i = n := by omega
      rfl
    · simp only at e; omega
    · rcases kidW_mem hk hm with ⟨-, rfl⟩ | ⟨-, rfl⟩ | ⟨-, rfl⟩ <;> (simp only at e; omega)
  · by_cases hb : j < 738
    · unfold slotsL
      refine slots_at ⟨by omega, hb⟩ (fun p hp e => ?_) (.inr rfl)
      obtain ⟨q, hq, rfl | rfl | ⟨m, hm, hk⟩⟩ := slotsW_mem.1 hp
      · simp only at e; omega
      · simp only at e; omega
      · have hkp := (kid_par t hq hm).1
        have h0 := hkp.1
        have h9 := hkp.2
        rcases kidW_mem hk hm with ⟨-, rfl⟩ | ⟨-, rfl⟩ | ⟨-, rfl⟩ <;> (simp only at e; omega)
    · exact atL_out (by rw [hlen]; omega)
end
end Go.Proofs.Ytdkjfalhalepgaa
/- The document's words of objects, point by point: what each object does to a word (layers 11 to 21), as mathematics. -/
namespace Go.Proofs.Ytdkjfalhalepgaa
open Go.RowKit
/-- a word is put, seen at word j -/
def putF (p v j c : Int) : Int := if j = p then v else c
section
variable {L l : List Int} {p v j c : Int} {x : RObj} {i n : Nat} {S : RSt}
theorem putF_at (v c : Int) : putF j v j c = v := if_pos rfl
theorem putF_ne (h : j ≠ p) : putF p v j c = c := if_neg h
theorem atL_put (hl : L.length = 738) (hj : 0 ≤ j ∧ j < 738) : atL (setL L p v) j = putF p v j (atL L j) := by
  rw [atL_setL, hl, putF]
  by_cases e : j = p
  · rw [if_pos e, if_pos ⟨hasB_yes.2 (by rw [← e] at *; exact hj), e⟩]
  · rw [if_neg e, if_neg (fun h => e h.2)]
def pageF (i : Nat) (x : RObj) (p : Nat) (j c : Int) : Int := if 0 ≤ x.pg p then putF (ow i (1 + p)) (8 * (x.pg p + 1) + x.rt p) j c else c
def spaceF (i : Nat) (x : RObj) (j c : Int) : Nat → Int
  | 0 => c
  | n + 1 => pageF i x n j (spaceF i x j c n)
def threadF (i : Nat) (x : RObj) (j c : Int) : Int :=
  putF (ow i 7) x.root.word j (putF (ow i 6) (x.owes + 1) j (putF (ow i 5) (x.prio + 256 * (x.on + 1)) j (putF (ow i 4) x.badge j (putF (ow i 3) x.word j (if j = ow i 2 then addU c (x.owing + 1) else putF (ow i 1) x.state j c)))))
def kindF (i : Nat) (x : RObj) (j c : Int) : Int :=
  if x.kind = 1 then putF (ow i 2) x.used j (putF (ow i 1) x.size j c)
  else if x.kind = 2 then putF (ow i 2) x.radix j (putF (ow i 1) x.first j c)
  else if x.kind = 3 then putF (ow i 1) x.wait j c
  else if x.kind = 4 then putF (ow i 1) x.word j c
  else if x.kind = 5 then threadF i x j c
  else if x.kind = 6 then putF (ow i 2) x.page j (putF (ow i 1) (x.inn + 1) j c)
  else if x.kind = 7 then spaceF i x j c 4
  else if x.kind = 8 then putF (ow i 3) x.mask j (putF (ow i 2) x.badge j (putF (ow i 1) (x.bound + 1) j c))
  else c
theorem threadL_len : (threadL i x L).length = L.length := by unfold threadL; simp only [setL_length]
theorem spaceL_len : ∀ n, (spaceL i x L n).length = L.length := by
  intro n
  induction n with
  | zero => rfl
  | succ n ih =>
    rw [show spaceL i x L (n + 1) = pageL i x (spaceL i x L n) n from rfl, pageL]
    split
    · rw [setL_length, ih]
    · exact ih
theorem kindL_len : (kindL i x L).length = L.length := by
  unfold kindL
  repeat' split
  all_goals first | with_reducible exact threadL_len | with_reducible exact spaceL_len _ | (simp only [setL_length])
theorem threadL_at (hl : L.length = 738) (hj : 0 ≤ j ∧ j < 738) : atL (threadL i x L) j = threadF i x j (atL L j) := by
  unfold threadL threadF
  rw [atL_put (by simp only [setL_length]; exact hl) hj, atL_put (by simp only [setL_length]; exact hl) hj, atL_put (by simp only [setL_length]; exact hl) hj, atL_put (by simp only [setL_length]; exact hl) hj,
    atL_put (by simp only [setL_length]; exact hl) hj, atL_put (by simp only [setL_length]; exact hl) hj, atL_put hl hj]
  congr 5
  unfold putF
  by_cases e : j = ow i 2
  · have e1 : ¬ ow i 2 = ow i 1 := by unfold ow; omega
    rw [if_pos e, if_pos e, e, atL_setL, if_neg (fun h => e1 h.2)]
  · rw [if_neg e, if_neg e]
theorem spaceL_at (hl : L.length = 738) (hj : 0 ≤ j ∧ j < 738) : ∀ n, atL (spaceL i x L n) j = spaceF i x j (atL L j) n := by
  intro n
  induction n with
  | zero => rfl
  | succ n ih =>
    rw [show spaceL i x L (n + 1) = pageL i x (spaceL i x L n) n from rfl, show spaceF i x j (atL L j) (n + 1) = pageF i x n j (spaceF i x j (atL L j) n) from rfl, pageL, pageF]
    split
    · rw [atL_put (by rw [spaceL_len]; exact hl) hj, ih]
    · exact ih
theorem kindL_at (hl : L.length = 738) (hj : 0 ≤ j ∧ j < 738) : atL (kindL i x L) j = kindF i x j (atL L j) := by
  unfold kindL kindF
  repeat' split
  all_goals first
    | with_reducible exact threadL_at hl hj
    | with_reducible exact spaceL_at hl hj 4
    | with_reducible rfl
    | rw [atL_put (by simp only [setL_length]; exact hl) hj, atL_put (by simp only [setL_length]; exact hl) hj, atL_put hl hj]
    | rw [atL_put (by simp only [setL_length]; exact hl) hj, atL_put hl hj]
    | rw [atL_put hl hj]
/-- a queue's words, seen at word j -/
def queueF (i : Nat) (l : List Int) (j c : Int) : Nat → Int
  | 0 => c
  | n + 1 =>
    if n + 1 < l.length then putF (480 + 8 * l.getD n 0 + 2) (l.getD (n + 1) 0 + 1) j (if n = 0 then putF (ow i 2) (l.getD n 0 + 1) j (queueF i l j c n) else queueF i l j c n)
    else putF (ow i 3) (l.getD n 0 + 1) j (if n = 0 then putF (ow i 2) (l.getD n 0 + 1) j (queueF i l j c n) else queueF i l j c n)
theorem qw1_len {m : Nat} : (qw1 i l m L).length = L.length := by unfold qw1; split <;> simp only [setL_length]
theorem qw2_len {m : Nat} : (qw2 i l m L).length = L.length := by unfold qw2; split <;> simp only [setL_length]
theorem queueL_len : ∀ n, (queueL i l L n).length = L.length := by
  intro n
  induction n with
  | zero => rfl
  | succ n ih => rw [queueL_two, qw2_len, qw1_len, ih]
theorem queueL_at (hl : L.length = 738) (hj : 0 ≤ j ∧ j < 738) : ∀ n, atL (queueL i l L n) j = queueF i l j (atL L j) n := by
  intro n
  induction n with
  | zero => rfl
  | succ n ih =>
    have h1 : atL (qw1 i l n (queueL i l L n)) j = if n = 0 then putF (ow i 2) (l.getD n 0 + 1) j (queueF i l j (atL L j) n) else queueF i l j (atL L j) n := by
      unfold qw1
      split
      · rw [atL_put (by rw [queueL_len]; exact hl) hj, ih]
      · exact ih
    rw [queueL_two]
    unfold qw2 queueF
    rw [← h1]
    split
    · rw [atL_put (by rw [qw1_len, queueL_len]; exact hl) hj]
    · rw [atL_put (by rw [qw1_len, queueL_len]; exact hl) hj]
/-- what object i does to word j -/
def effF (i : Nat) (x : RObj) (j c : Int) : Int := queueF i x.queue j (kindF i x j (putF (ow i 0) x.kind j c)) x.queue.length
theorem objL_len : (objL S L i).length = L.length := by unfold objL; rw [queueL_len, kindL_len, setL_length]
theorem objL_at (hl : L.length = 738) (hj : 0 ≤ j ∧ j < 738) : atL (objL S L i) j = effF i (S.ob i) j (atL L j) := by
  unfold objL effF
  rw [queueL_at (by rw [kindL_len, setL_length]; exact hl) hj, kindL_at (by rw [setL_length]; exact hl) hj, atL_put hl hj]
def effs (S : RSt) (j c : Int) : Nat → Int
  | 0 => c
  | n + 1 => effF n (S.ob n) j (effs S j c n)
theorem objsL_len : ∀ n, (objsL S L n).length = L.length := by
  intro n
  induction n with
  | zero => rfl
  | succ n ih => rw [show objsL S L (n + 1) = objL S (objsL S L n) n from rfl, objL_len, ih]
theorem objsL_at (hl : L.length = 738) (hj : 0 ≤ j ∧ j < 738) : ∀ n, atL (objsL S L n) j = effs S j (atL L j) n := by
  intro n
  induction n with
  | zero => rfl
  | succ n ih => rw [show objsL S L (n + 1) = objL S (objsL S L n) n from rfl, objL_at (by rw [objsL_len]; exact hl) hj, ih]; rfl
theorem wordsG_len (S : RSt) : (wordsG S).length = 738 := by unfold wordsG; rw [setL_length, setL_length, objsL_len, applyW_length, zeros_len]
/-- word by word -/
theorem wordsG_at (S : RSt) (hj : 0 ≤ j ∧ j < 738) : atL (wordsG S) j = putF 737 S.no j (putF 736 S.ns j (effs S j (atL (slotsL S) j) 32)) := by
  have h0 : (applyW ((List.range 96).flatMap (slotW S)) zeros).length = 738 := by rw [applyW_length, zeros_len]
  have h1 : (objsL S (applyW ((List.range 96).flatMap (slotW S)) zeros) 32).length = 738 := by rw [objsL_len]; exact h0
  unfold wordsG slotsL
  rw [atL_put (by rw [setL_length]; exact h1) hj, atL_put h1 hj, objsL_at h0 hj]
/-- an object that doesn't touch a word leaves it -/
theorem spaceF_far : ∀ n, n ≤ 4 → (∀ f : Nat, 1 ≤ f → f ≤ 4 → j ≠ ow i f) → spaceF i x j c n = c := by
  intro n
  induction n with
  | zero => intro _ _; rfl
  | succ n ih =>
    intro hn h
    rw [show spaceF i x j c (n + 1) = pageF i x n j (spaceF i x j c n) from rfl, pageF]
    split
    · rw [putF_ne (h (1 + n) (by omega) (by omega)), ih (by omega) h]
    · exact ih (by omega) h
theorem kindF_far (h : ∀ f : Nat, 1 ≤ f → f ≤ 7 → j ≠ ow i f) : kindF i x j c = c := by
  have h1 := h 1 (by omega) (by omega)
  have h2 := h 2 (by omega) (by omega)
  have h3 := h 3 (by omega) (by omega)
  have h4 := h 4 (by omega) (by omega)
  have h5 := h 5 (by omega) (by omega)
  have h6 := h 6 (by omega) (by omega)
  have h7 := h 7 (by omega) (by omega)
  unfold kindF threadF
  rw [putF_ne h7, putF_ne h6, putF_ne h5, putF_ne h4, putF_ne h3, if_neg h2, putF_ne h1, putF_ne h2, putF_ne h1, putF_ne h2, putF_ne h1, putF_ne h1, putF_ne h1, putF_ne h2, putF_ne h1, putF_ne h3, putF_ne h2, putF_ne h1,
    spaceF_far 4 (by omega) (fun f a b => h f a (by omega))]
  repeat' split
  all_goals rfl
theorem queueF_far (h2 : j ≠ ow i 2) (h3 : j ≠ ow i 3) (hq : ∀ t, t ∈ l → j ≠ 480 + 8 * t + 2) : ∀ n, n ≤ l.length → queueF i l j c n = c := by
  intro n
  induction n with
  | zero => intro _; rfl
  | succ n ih =>
    intro hn
    unfold queueF
    rw [ih (by omega), putF_ne h2]
    have hm : l.getD n 0 ∈ l := List.mem_of_getElem? (get_of (by omega))
    rw [putF_ne h3, putF_ne (hq _ hm)]
    simp
theorem effF_far (h : ∀ f : Nat, f ≤ 7 → j ≠ ow i f) (hq : ∀ t, t ∈ x.queue → j ≠ 480 + 8 * t + 2) : effF i x j c = c := by
  unfold effF
  rw [queueF_far (h 2 (by omega)) (h 3 (by omega)) hq _ (Nat.le_refl _), kindF_far (fun f _ b => h f b), putF_ne (h 0 (by omega))]
theorem effs_far {n m : Nat} (hnm : n ≤ m) (h : ∀ i : Nat, n ≤ i → i < m → ∀ d, effF i (S.ob i) j d = d) : effs S j c m = effs S j c n := by
  induction m with
  | zero => obtain rfl : n = 0 := by omega
            rfl
  | succ m ih =>
    by_cases e : n = m + 1
    · subst e; rfl
    · rw [show effs S j c (m + 1) = effF m (S.ob m) j (effs S j c m) from rfl, h m (by omega) (by omega), ih (by omega) (fun i a b => h i a (by omega))]
end
end Go.Proofs.Ytdkjfalhalepgaa
/- Words and the document's state, one and the same tree (layer 10), and what each call comes to on both: as mathematics. -/
namespace Go.Proofs.Ytdkjfalhalepgaa
open Go.RowKit
theorem slotOk_is {i : Int} : slotOk i = slotB i 0 := by
  cases h : slotOk i with
  | true => have := slotOk_yes.1 h; exact (slotB_yes.2 ⟨this.1, this.2, by omega, by omega⟩).symm
  | false => have := slotOk_no.1 h; exact (slotB_no.2 (.inl this)).symm
theorem slotOk_in {i : Int} : slotOk i = true ↔ InS i := slotOk_yes
theorem slotB_in {i : Int} : slotB i 0 = true ↔ InS i := by rw [← slotOk_is]; exact slotOk_yes
section
variable {L : List Int} {S : RSt} {i k p a b x : Int}
theorem parsTo_at : ∀ (l : List Int) (P : Int → Int), parsTo P l b x = if x ∈ l then b else P x := by
  intro l
  induction l with
  | nil => intro P; simp [parsTo]
  | cons y l ih =>
    intro P
    rw [show parsTo P (y :: l) b = parsTo (setF P y b) l b from rfl, ih]
    by_cases h : x ∈ l
    · rw [if_pos h, if_pos (by simp [h])]
    · rw [if_neg h]
      by_cases e : x = y
      · subst e; rw [setF_self, if_pos (by simp)]
      · rw [setF_ne e, if_neg (by simp [h, e])]
end
end Go.Proofs.Ytdkjfalhalepgaa
/- Capabilities by addresses, as mathematics (layer 11): a slot's capability, a CNode, what is looked up; on plain words. No dump is read here. -/
namespace Go.Proofs.Ytdkjfalhalepgaa
open Go.RowKit
/-- a word as a capability: Null if it is none -/
def getC (w : Int) : Cp := if (Cp.of w).may then Cp.of w else Cp.zero
def capP (i : Int) : Vp Cp := if slotB i 0 = true then .rd (slotI i 0) fun w => .ret (getC w) else .ret Cp.zero
/-- a capability is put: an error's number -/
def csetP (i : Int) (c : Cp) : Vp Int := if slotB i 0 = true then (if c.may then .wr (slotI i 0) c.word (.ret 0) else .ret 1) else .ret 2
theorem word_u64 {c : Cp} (h : c.may) : U64 c.word := by
  have hw := Cp.word_lt h.small
  obtain ⟨h1, h2, h3, h4, h5, h6, h7, h8, h9, h10, h11, h12⟩ := h.small
  unfold Cp.word at hw ⊢
  exact ⟨by omega, by omega⟩
/-- where a CNode's slots begin, its radix, whether it is fine -/
def nodeN (a r : Int) : Int × Int × Bool := if 5 < r ∨ 96 - 2 ^ r.toNat < a then (0, 0, false) else (a, r, true)
def nodeP (c : Cp) : Vp (Int × Int × Bool) :=
  if c.kind = 2 then (isP c.obj 2).bind fun q => if q = true then (fieldP c.obj 1).bind fun a => (fieldP c.obj 2).bind fun r => .ret (nodeN a r) else .ret (0, 0, false) else .ret (0, 0, false)
def fineP (c : Cp) : Vp Bool := (nodeP c).bind fun x => .ret x.2.2
theorem pw5 {r : Int} (h0 : 0 ≤ r) (h : r ≤ 5) : 1 ≤ (2 : Int) ^ r.toNat ∧ (2 : Int) ^ r.toNat ≤ 32 := by
  obtain ⟨k, rfl⟩ : ∃ k : Nat, r = k := ⟨r.toNat, by omega⟩
  have hk : k ≤ 5 := by omega
  rw [Int.toNat_natCast]
  match k, hk with
  | 0, _ => decide
  | 1, _ => decide
  | 2, _ => decide
  | 3, _ => decide
  | 4, _ => decide
  | 5, _ => decide
theorem nodeN_no {a r : Int} (h : 5 < r ∨ 96 - 2 ^ r.toNat < a) : nodeN a r = (0, 0, false) := if_pos h
theorem nodeN_yes {a r : Int} (h : r ≤ 5) (h' : a ≤ 96 - 2 ^ r.toNat) : nodeN a r = (a, r, true) := if_neg (by omega)
/- on plain words -/
section
variable {L : List Int} {i addr l : Int} {c : Cp} {n : Nat}
def capL (L : List Int) (i : Int) : Cp := if slotB i 0 = true then getC (atL L (5 * i)) else Cp.zero
def nodeL (L : List Int) (c : Cp) : Int × Int × Bool := if c.kind = 2 ∧ isL L c.obj 2 = true then nodeN (fieldL L c.obj 1) (fieldL L c.obj 2) else (0, 0, false)
def fineL (L : List Int) (c : Cp) : Bool := (nodeL L c).2.2
theorem capP_plain : (capP i).run machP L = (capL L i, L) := by
  unfold capP capL
  split
  · next h => rw [Vp.run_rdP, Vp.run_ret, slotI_yes h, Int.add_zero]
  · rfl
theorem nodeP_plain : (nodeP c).run machP L = (nodeL L c, L) := by
  unfold nodeP nodeL
  by_cases h : c.kind = 2
  · rw [if_pos h, Vp.run_bind_is isP_plain]
    by_cases q : isL L c.obj 2 = true
    · rw [if_pos q, if_pos ⟨h, q⟩, Vp.run_bind_is fieldP_plain, Vp.run_bind_is fieldP_plain, Vp.run_ret]
    · rw [if_neg q, if_neg (fun e => q e.2), Vp.run_ret]
  · rw [if_neg h, if_neg (fun e => h e.1), Vp.run_ret]
theorem fineP_plain : (fineP c).run machP L = (fineL L c, L) := by
  unfold fineP
  rw [Vp.run_bind_is nodeP_plain, Vp.run_ret]
  rfl
end
end Go.Proofs.Ytdkjfalhalepgaa
