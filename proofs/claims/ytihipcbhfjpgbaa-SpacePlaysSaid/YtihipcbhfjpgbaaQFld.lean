/- The document's words of objects with queues, field by field (layers 15 to 22), as mathematics. No dump is read here. -/
import Derived.Test.YtihipcbhfjpgbaaJ7
import Derived.Test.YtihipcbhfjpgbaaQueM
namespace Go.Proofs.Ytihipcbhfjpgbaa
open Go.RowKit
/-- it may have a queue -/
def RObj.isQ (x : RObj) : Prop := x.kind = 3 ∨ x.kind = 4
/-- queues are sound: who has one is an Endpoint, or a notification; who is in one is a thread that is owed nothing, in that one alone -/
structure RSt.QFit (S : RSt) : Prop where
  own : ∀ o : Int, (S.ob o).queue ≠ [] → (0 ≤ o ∧ o < 32) ∧ (S.ob o).isQ
  mem : ∀ o t : Int, t ∈ (S.ob o).queue → (0 ≤ t ∧ t < 32) ∧ (S.ob t).kind = 5 ∧ (S.ob t).owing = -1
  nd : ∀ o : Int, (S.ob o).queue.Nodup
  one : ∀ o p t : Int, t ∈ (S.ob o).queue → t ∈ (S.ob p).queue → o = p
section
variable {l : List Int} {i k n : Nat} {t j c : Int}
theorem getD_at {m : Nat} (h : m < l.length) : l[m]? = some (l.getD m 0) := by
  rw [List.getD_eq_getElem?_getD, List.getElem?_eq_getElem h]
  rfl
theorem getD_in {m : Nat} (h : m < l.length) : l.getD m 0 ∈ l := List.mem_of_getElem? (getD_at h)
theorem getD_inj (hn : l.Nodup) {m k : Nat} (hm : m < l.length) (hk : k < l.length) (h : l.getD m 0 = l.getD k 0) : m = k := by
  exact (List.getElem?_inj hm hn).1 ((getD_at hm).trans (by rw [h]; exact (getD_at hk).symm))
/-- one who is in a queue -/
theorem queueF_mem (hn : l.Nodup) (hk : k < l.length) (ht : l.getD k 0 = t) (hj : j = 480 + 8 * t + 2) (hti : t ≠ (i : Int)) : ∀ n, n ≤ l.length → queueF i l j c n = if k < n ∧ k + 1 < l.length then l.getD (k + 1) 0 + 1 else c := by
  have j2 : j ≠ ow i 2 := by rw [hj]; unfold ow; omega
  have j3 : j ≠ ow i 3 := by rw [hj]; unfold ow; omega
  intro n
  induction n with
  | zero => intro _; rw [if_neg (by omega)]; rfl
  | succ n ih =>
    intro hnl
    have ih := ih (by omega)
    unfold queueF
    rw [putF_ne j2, putF_ne j3, ih]
    by_cases h1 : n + 1 < l.length
    · rw [if_pos h1]
      by_cases h2 : n = k
      · subst h2
        rw [ht, hj, putF_at, if_pos ⟨by omega, h1⟩]
      · have h3 : l.getD n 0 ≠ t := fun e => h2 (getD_inj hn (by omega) hk (e.trans ht.symm))
        rw [putF_ne (by rw [hj]; omega)]
        simp only [ite_self]
        by_cases h4 : k < n ∧ k + 1 < l.length
        · rw [if_pos h4, if_pos ⟨by omega, h4.2⟩]
        · rw [if_neg h4, if_neg (fun h => h4 ⟨by omega, h.2⟩)]
    · rw [if_neg h1]
      simp only [ite_self]
      by_cases h4 : k < n ∧ k + 1 < l.length
      · rw [if_pos h4, if_pos ⟨by omega, h4.2⟩]
      · rw [if_neg h4, if_neg (fun h => h4 ⟨by omega, h.2⟩)]
theorem queueF_head (hm : ∀ x, x ∈ l → x ≠ (i : Int)) : ∀ n, n < l.length → queueF i l (ow i 2) c (n + 1) = l.getD 0 0 + 1 := by
  intro n
  induction n with
  | zero =>
    intro h
    unfold queueF
    have h1 := hm _ (getD_in h)
    have a1 : ∀ v d, putF (480 + 8 * l.getD 0 0 + 2) v (ow i 2) d = d := fun v d => putF_ne (by unfold ow; omega)
    have a3 : ∀ v d, putF (ow i 3) v (ow i 2) d = d := fun v d => putF_ne (by unfold ow; omega)
    rw [a1, a3, if_pos rfl, putF_at]
    simp only [ite_self]
  | succ n ih =>
    intro h
    have ih := ih (by omega)
    unfold queueF
    have h1 := hm _ (getD_in h)
    have a1 : ∀ v d, putF (480 + 8 * l.getD (n + 1) 0 + 2) v (ow i 2) d = d := fun v d => putF_ne (by unfold ow; omega)
    have a3 : ∀ v d, putF (ow i 3) v (ow i 2) d = d := fun v d => putF_ne (by unfold ow; omega)
    rw [a1, a3, if_neg (show ¬ n + 1 = 0 by omega), ih]
    simp only [ite_self]
theorem queueF_last (h : l.length = n + 1) : queueF i l (ow i 3) c (n + 1) = l.getD n 0 + 1 := by
  unfold queueF
  rw [if_neg (by omega), putF_at]
theorem lsW_getD (h : l.length = n + 1) : lsW l = l.getD n 0 + 1 := by
  obtain ⟨a, x, rfl⟩ : ∃ a x, l = a ++ [x] := by
    have hne : l ≠ [] := fun e => by rw [e] at h; simp at h
    exact ⟨l.dropLast, l.getLast hne, (List.dropLast_concat_getLast hne).symm⟩
  rw [lsW_app]
  have : n = a.length := by simp at h; omega
  subst this
  rw [List.getD_eq_getElem?_getD, List.getElem?_append_right (Nat.le_refl _), Nat.sub_self]
  rfl
/-- a chain, place by place -/
theorem Ch_of {nx : Int → Int} : ∀ (l : List Int) (o : Int), nx o = (match l with | [] => 0 | x :: _ => x + 1) → (∀ k, k < l.length → nx (l.getD k 0) = if k + 1 < l.length then l.getD (k + 1) 0 + 1 else 0) → Ch nx o l := by
  intro l
  induction l with
  | nil => exact fun o h _ => h
  | cons x l ih =>
    intro o h hk
    refine ⟨h, ih x ?_ (fun k hkl => ?_)⟩
    · have := hk 0 (by simp)
      cases l with
      | nil => simpa using this
      | cons y l => simpa using this
    · have := hk (k + 1) (by simp; omega)
      simpa using this
end
section
variable {S : RSt} {L : List Int} {a f o i : Nat} {t : Int}
theorem addU_zero {x : Int} (h : U64 x) : addU x 0 = x := by
  obtain ⟨h0, h1⟩ := h
  unfold addU
  omega
/-- no other object does anything to a word -/
theorem effF_else (h : S.QFit) (hai : a ≠ i) (_ : a < 32) (hf : f < 8) (hq : f = 2 → (a : Int) ∉ (S.ob i).queue) (d : Int) : effF i (S.ob i) (ow a f) d = d :=
  effF_far (fun f' h' => ow_ne hf (by omega) hai) (fun t ht => by
    have := (h.mem i t ht).1
    intro e
    have e1 : f = 2 := by unfold ow at e; omega
    have e2 : (a : Int) = t := by unfold ow at e; omega
    exact hq e1 (e2 ▸ ht))
theorem effs_one (h : S.QFit) (ha : a < 32) (hf : f < 8) (hq : f = 2 → ∀ i : Nat, i < 32 → (a : Int) ∉ (S.ob i).queue) : effs S (ow a f) 0 32 = effF a (S.ob a) (ow a f) 0 := by
  rw [effs_far (n := a + 1) (by omega) (fun k h1 h2 d => effF_else h (by omega) ha hf (fun e => hq e k h2) d)]
  rw [show effs S (ow a f) 0 (a + 1) = effF a (S.ob a) (ow a f) (effs S (ow a f) 0 a) from rfl]
  rw [effs_far (n := 0) (by omega) (fun k h1 h2 d => effF_else h (by omega) ha hf (fun e => hq e k (by omega)) d)]
  rfl
theorem effs_two {j : Int} (hab : a < o) (ho : o < 32) (hx : ∀ k : Nat, k < 32 → k ≠ a → k ≠ o → ∀ d, effF k (S.ob k) j d = d) : effs S j 0 32 = effF o (S.ob o) j (effF a (S.ob a) j 0) := by
  rw [effs_far (n := o + 1) (by omega) (fun k h1 h2 d => hx k h2 (by omega) (by omega) d)]
  rw [show effs S j 0 (o + 1) = effF o (S.ob o) j (effs S j 0 o) from rfl]
  rw [effs_far (n := a + 1) (by omega) (fun k h1 h2 d => hx k (by omega) (by omega) (by omega) d)]
  rw [show effs S j 0 (a + 1) = effF a (S.ob a) j (effs S j 0 a) from rfl]
  rw [effs_far (n := 0) (by omega) (fun k h1 h2 d => hx k (by omega) (by omega) (by omega) d)]
  rfl
theorem isQ_no5 {x : RObj} (h : x.isQ) : x.kind ≠ 5 := by unfold RObj.isQ at h; omega
theorem QFit.bare (h : S.QFit) (hk : ¬ (S.ob t).isQ) : (S.ob t).queue = [] := by
  by_cases e : (S.ob t).queue = []
  · exact e
  · exact absurd (h.own t e).2 hk
/-- what a thread does to its own F2 -/
theorem effF_thr (hq : (S.ob a).queue = []) (hk : (S.ob a).kind = 5) (c : Int) : effF a (S.ob a) (ow a 2) c = addU c ((S.ob a).owing + 1) := by
  unfold effF
  rw [hq]
  show kindF a (S.ob a) (ow a 2) (putF (ow a 0) (S.ob a).kind (ow a 2) c) = _
  rw [putF_ne (by unfold ow; omega)]
  unfold kindF
  rw [if_neg (by omega), if_neg (by omega), if_neg (by omega), if_neg (by omega), if_pos hk]
  unfold threadF
  rw [putF_ne (by unfold ow; omega), putF_ne (by unfold ow; omega), putF_ne (by unfold ow; omega), putF_ne (by unfold ow; omega), putF_ne (by unfold ow; omega), if_pos rfl]
/-- a field that no queue is told in -/
theorem effF_own (hf : f < 8) (h2 : f ≠ 2) (h3 : f ≠ 3) : effF a (S.ob a) (ow a f) 0 = fldW (S.ob a) f := by
  unfold effF fldW
  rw [queueF_far (fun e => h2 (ow_eq.1 e)) (fun e => h3 (ow_eq.1 e)) (fun t ht e => h2 (by unfold ow at e; omega)) _ (Nat.le_refl _)]
  by_cases h : f = 0
  · subst h
    rw [if_pos rfl, putF_at, kindF_far (fun k h1 h7 => fun e => by have := (ow_eq (i := a)).1 e; omega)]
  · rw [if_neg h, putF_ne (fun e => h (ow_eq.1 e)), kindF_fld]
theorem Sok.at_ (h : Sok S) (ha : a < 32) (hf : f < 8) : atL (wordsG S) (ow a f) = effs S (ow a f) 0 32 := by
  rw [h.gur.rest _ (by unfold ow; omega)]
  unfold restW
  rw [if_pos (by unfold ow; omega), putF_ne (by unfold ow; omega), putF_ne (by unfold ow; omega)]
/-- a word of an object that tells no queue -/
theorem Sok.fldQ (h : Sok S) (q : S.QFit) (ha : a < 32) (hf : f < 8) (h1 : (S.ob a).kind = 5 → f ≠ 2) (h2 : (S.ob a).isQ → f ≠ 2 ∧ f ≠ 3) : atL (wordsG S) (ow a f) = fldW (S.ob a) f := by
  have hq : f = 2 → ∀ i : Nat, i < 32 → (a : Int) ∉ (S.ob i).queue := fun e i _ hm => h1 (q.mem i a hm).2.1 e
  rw [h.at_ ha hf, effs_one q ha hf hq]
  by_cases hQ : (S.ob a).isQ
  · exact effF_own hf (h2 hQ).1 (h2 hQ).2
  · exact effF_bare (QFit.bare q hQ) hf
/-- F2 of a thread that is in no queue -/
theorem Sok.fldT (h : Sok S) (q : S.QFit) (ha : a < 32) (hk : (S.ob a).kind = 5) (hq : ∀ i : Int, (a : Int) ∉ (S.ob i).queue) : atL (wordsG S) (ow a 2) = (S.ob a).owing + 1 := by
  rw [h.at_ ha (by omega), effs_one q ha (by omega) (fun _ i _ => hq i), effF_thr (QFit.bare q (fun e => isQ_no5 e hk)) hk]
  have := (h.obs a ha).owing
  unfold addU
  omega
/-- F2 of a thread that is in one -/
theorem Sok.fldM (h : Sok S) (q : S.QFit) {o : Int} {k : Nat} (hk : k < (S.ob o).queue.length) (ht : (S.ob o).queue.getD k 0 = t) : atL (wordsG S) (qw t 2) = if k + 1 < (S.ob o).queue.length then (S.ob o).queue.getD (k + 1) 0 + 1 else 0 := by
  have hm : t ∈ (S.ob o).queue := ht ▸ getD_in hk
  obtain ⟨ht32, hk5, hw⟩ := q.mem o t hm
  obtain ⟨ho32, hoQ⟩ := q.own o (fun e => by rw [e] at hm; simp at hm)
  obtain ⟨a, rfl, ha⟩ := nat_of ht32
  obtain ⟨b, rfl, hb⟩ := nat_of ho32
  have hne : a ≠ b := fun e => by subst e; exact isQ_no5 hoQ hk5
  have e0 : qw (a : Int) 2 = ow a 2 := by unfold qw ow; omega
  rw [e0, h.at_ ha (by omega)]
  have hx : ∀ k : Nat, k < 32 → k ≠ a → k ≠ b → ∀ d, effF k (S.ob k) (ow a 2) d = d := fun k hk h1 h2 d => effF_else q (fun e => h1 e.symm) ha (by omega) (fun _ hm' => h2 (by have := q.one _ _ _ hm hm'; omega)) d
  have ea : ∀ c, U64 c → effF a (S.ob a) (ow a 2) c = c := fun c hc => by
    rw [effF_thr (QFit.bare q (fun e => isQ_no5 e hk5)) hk5, hw]
    exact addU_zero hc
  have eb : ∀ c, effF b (S.ob b) (ow a 2) c = if k + 1 < (S.ob b).queue.length then (S.ob b).queue.getD (k + 1) 0 + 1 else c := fun c => by
    unfold effF
    rw [queueF_mem (q.nd b) hk ht (j := ow a 2) (by unfold ow; omega) (by omega) _ (Nat.le_refl _), kindF_far (fun f _ _ => ow_ne (by omega) (by omega) hne), putF_ne (ow_ne (by omega) (by omega) hne)]
    by_cases h1 : k + 1 < (S.ob b).queue.length
    · rw [if_pos ⟨hk, h1⟩, if_pos h1]
    · rw [if_neg (fun h => h1 h.2), if_neg h1]
  have hv : U64 (if k + 1 < (S.ob b).queue.length then (S.ob b).queue.getD (k + 1) 0 + 1 else 0) := by
    split
    · next h1 =>
      have := (q.mem b _ (getD_in h1)).1
      exact ⟨by omega, by omega⟩
    · exact ⟨by omega, by omega⟩
  by_cases hab : a < b
  · rw [effs_two hab hb hx, eb, ea 0 ⟨by omega, by omega⟩]
  · rw [effs_two (a := b) (o := a) (by omega) ha (fun k h1 h2 h3 d => hx k h1 h3 h2 d), eb, ea _ hv]
/-- F2, F3 of who has a queue -/
theorem Sok.fldH (h : Sok S) (q : S.QFit) {o : Nat} (ho : o < 32) (hQ : (S.ob o).isQ) : atL (wordsG S) (ow o 2) = (match (S.ob o).queue with | [] => 0 | x :: _ => x + 1) ∧ atL (wordsG S) (ow o 3) = lsW (S.ob o).queue := by
  have hno : ∀ i : Int, (o : Int) ∉ (S.ob i).queue := fun i hm => isQ_no5 hQ (q.mem i o hm).2.1
  rw [h.at_ ho (by omega), h.at_ ho (by omega), effs_one q ho (by omega) (fun _ i _ => hno i), effs_one q ho (by omega) (fun e => absurd e (by omega))]
  cases hq : (S.ob o).queue with
  | nil =>
    rw [effF_bare hq (by omega), effF_bare hq (by omega)]
    unfold fldW kindF
    rcases hQ with e | e <;> simp [e, putF, ow, lsW]
  | cons x l =>
    have hm : ∀ y, y ∈ (x :: l) → y ≠ (o : Int) := fun y hy e => hno o (by rw [hq, ← e]; exact hy)
    unfold effF
    rw [hq]
    refine ⟨?_, ?_⟩
    · exact queueF_head (c := _) hm l.length (by simp)
    · rw [lsW_getD (n := l.length) (by simp)]
      exact queueF_last (by simp)
/-- the words of a state tell its queues -/
theorem Sok.qw (h : Sok S) (q : S.QFit) : QW (wordsG S) (fun o => (S.ob o).queue) (fun o => (0 ≤ o ∧ o < 32) ∧ (S.ob o).isQ) (fun t => (0 ≤ t ∧ t < 32) ∧ (S.ob t).kind = 5 ∧ (S.ob t).owing = -1) where
  len := wordsG_len S
  zr := fun o h => h.1
  own := q.own
  rng := fun o t ht => (q.mem o t ht).1
  nd := q.nd
  one := q.one
  top := fun o p ho hm => isQ_no5 ho.2 (q.mem p o hm).2.1
  ch := fun o ho => by
    obtain ⟨b, rfl, hb⟩ := nat_of ho.1
    refine Ch_of _ _ ?_ (fun k hk => ?_)
    · have := (h.fldH q hb ho.2).1
      show atL (wordsG S) (Go.Proofs.Ytihipcbhfjpgbaa.qw (b : Int) 2) = _
      rw [show Go.Proofs.Ytihipcbhfjpgbaa.qw (b : Int) 2 = ow b 2 by unfold Go.Proofs.Ytihipcbhfjpgbaa.qw ow; omega]
      exact this
    · exact h.fldM q hk rfl
  ls := fun o ho => by
    obtain ⟨b, rfl, hb⟩ := nat_of ho.1
    rw [show Go.Proofs.Ytihipcbhfjpgbaa.qw (b : Int) 3 = ow b 3 by unfold Go.Proofs.Ytihipcbhfjpgbaa.qw ow; omega]
    exact (h.fldH q hb ho.2).2
  free := fun t ht hz hf => by
    obtain ⟨a, rfl, ha⟩ := nat_of ht.1
    show atL (wordsG S) (Go.Proofs.Ytihipcbhfjpgbaa.qw (a : Int) 2) = 0
    rw [show Go.Proofs.Ytihipcbhfjpgbaa.qw (a : Int) 2 = ow a 2 by unfold Go.Proofs.Ytihipcbhfjpgbaa.qw ow; omega, h.fldT q ha ht.2.1 hf, ht.2.2]
    rfl
end
end Go.Proofs.Ytihipcbhfjpgbaa
