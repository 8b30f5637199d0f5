/- The document's words of objects with queues, field by field (layers 15 to 22), as mathematics. No dump is read here. -/
import Derived.Test.YtdkjfalhalepgaaJ7
namespace Go.Proofs.Ytdkjfalhalepgaa
open Go.RowKit
/-- it may have a queue -/
def RObj.isQ (x : RObj) : Prop := x.kind = 3 ∨ x.kind = 4
/-- queues are sound: who has one is an Endpoint, or a notification; who is in one is a thread that is owed nothing, in that one alone -/
structure RSt.QFit (S : RSt) : Prop where
  own : ∀ o : Int, (S.ob o).queue ≠ [] → (0 ≤ o ∧ o < 32) ∧ (S.ob o).isQ
  mem : ∀ o t : Int, t ∈ (S.ob o).queue → (0 ≤ t ∧ t < 32) ∧ (S.ob t).kind = 5 ∧ (S.ob t).owing = -1
  nd : ∀ o : Int, (S.ob o).queue.Nodup
  one : ∀ o p t : Int, t ∈ (S.ob o).queue → t ∈ (S.ob p).queue → o = p
section
variable {l : List Int} {i k n : Nat} {t j c : Int}
theorem getD_at {m : Nat} (h : m < l.length) : l[m]? = some (l.getD m 0) := by
  rw [List.getD_eq_getElem?_getD, List.getElem?_eq_getElem h]
  rfl
theorem getD_in {m : Nat} (h : m < l.length) : l.getD m 0 ∈ l := List.mem_of_getElem? (getD_at h)
theorem getD_inj (hn : l.Nodup) {m k : Nat} (hm : m < l.length) (hk : k < l.length) (h : l.getD m 0 = l.getD k 0) : m = k := by
  exact (List.getElem?_inj hm hn).1 ((getD_at hm).trans (by rw [h]; exact (getD_at hk).symm))
/-- one who is in a queue -/
theorem queueF_mem (hn : l.Nodup) (hk : k < l.length) (ht : l.getD k 0 = t) (hj : j = 480 + 8 * t + 2) (hti : t ≠ (i : Int)) : ∀ n, n ≤ l.length → queueF i l j c n = if k < n ∧ k + 1 < l.length then l.getD (k + 1) 0 + 1 else c := by
  have j2 : j ≠ ow i 2 := by rw [hj]; unfold ow; omega
  have j3 : j ≠ ow i 3 := by rw [hj]; unfold ow; omega
  intro n
  induction n with
  | zero => intro _; rw [if_neg (by omega)]; rfl
  | succ n ih =>
    intro hnl
    have ih := ih (by omega)
    unfold queueF
    rw [putF_ne j2, putF_ne j3, ih]
    by_cases h1 : n + 1 < l.length
    · rw [if_pos h1]
      by_cases h2 : n = k
      · subst h2
        rw [ht, hj, putF_at, if_pos ⟨by omega, h1⟩]
      · have h3 : l.getD n 0 ≠ t := fun e => h2 (getD_inj hn (by omega) hk (e.trans ht.symm))
        rw [putF_ne (by rw [hj]; omega)]
        simp only [ite_self]
        by_cases h4 : k < n ∧ k + 1 < l.length
        · rw [if_pos h4, if_pos ⟨by omega, h4.2⟩]
        · rw [if_neg h4, if_neg (fun h => h4 ⟨by omega, h.2⟩)]
    · rw [if_neg h1]
      simp only [ite_self]
      by_cases h4 : k < n ∧ k + 1 < l.length
      · rw [if_pos h4, if_pos ⟨by omega, h4.2⟩]
      · rw [if_neg h4, if_neg (fun h => h4 ⟨by omega, h.2⟩)]
theorem queueF_head (hm : ∀ x, x ∈ l → x ≠ (i : Int)) : ∀ n, n < l.length → queueF i l (ow i 2) c (n + 1) = l.getD 0 0 + 1 := by
  intro n
  induction n with
  | zero =>
    intro h
    unfold queueF
    have h1 := hm _ (getD_in h)
    have a1 : ∀ v d, putF (480 + 8 * l.getD 0 0 + 2) v (ow i 2) d = d := fun v d => putF_ne (by unfold ow; omega)
    have a3 : ∀ v d, putF (ow i 3) v (ow i 2) d = d := fun v d => putF_ne (by unfold ow; omega)
    rw [a1, a3, if_pos rfl, putF_at]
    simp only [ite_self]
  | succ n ih =>
    intro h
    have ih := ih (by omega)
    unfold queueF
    have h1 := hm _ (getD_in h)
    have a1 : ∀ v d, putF (480 + 8 * l.getD (n + 1) 0 + 2) v (ow i 2) d = d := fun v d => putF_ne (by unfold ow; omega)
    have a3 : ∀ v d, putF (ow i 3) v (ow i 2) d = d := fun v d => putF_ne (by unfold ow; omega)
    rw [a1, a3, if_neg (show ¬ n + 1 = 0 by omega), ih]
    simp only [ite_self]
theorem queueF_last (h : l.length = n + 1) : queueF i l (ow i 3) c (n + 1) = l.getD n 0 + 1 := by
  unfold queueF
  rw [if_neg (by omega), putF_at]
theorem lsW_getD (h : l.length = n + 1) : lsW l = l.getD n 0 + 1 := by
  obtain ⟨a, x, rfl⟩ : ∃ a x, l = a ++ [x] := by
    have hne : l ≠ [] := fun e => by rw [e] at h; simp at h
    exact ⟨l.dropLast, l.getLast hne, (List.dropLast_concat_getLast hne).symm⟩
  rw [lsW_app]
  have : n = a.length := by simp at h; omega
  subst this
  rw [List.getD_eq_getElem?_getD, List.getElem?_append_right (Nat.le_refl _), Nat.sub_self]
  rfl
/-- a chain, place by place -/
theorem Ch_of {nx : Int → Int} : ∀ (l : List Int) (o : Int), nx o = (match l with | [] => 0 | x :: _ => x + 1) → (∀ k, k < l.length → nx (l.getD k 0) = if k + 1 < l.length then l.getD (k + 1) 0 + 1 else 0) → Ch nx o l := by
  intro l
  induction l with
  | nil => exact fun o h _ => h
  | cons x l ih =>
    intro o h hk
    refine ⟨h, ih x ?_ (fun k hkl => ?_)⟩
    · have := hk 0 (by simp)
      cases l with
      | nil => simpa using this
      | cons y l => simpa using this
    · have := hk (k + 1) (by simp; omega)
      simpa using this
end
section
variable {S : RSt} {L : List Int} {a f o i : Nat} {t : Int}
theorem addU_zero {x : Int} (h : U64 x) : addU x 0 = x := by
  obtain ⟨h0, h1⟩ := h
  unfold addU
  omega
/-- no other object does anything to a word -/
theorem effF_else (h : S.QFit) (hai : a ≠ i) (_ : a < 32) (hf : f < 8) (hq : f = 2 → (a : Int) ∉ (S.ob i).queue) (d : Int) : effF i (S.ob i) (ow a f) d = d :=
  effF_far (fun f' h' => ow_ne hf (by omega) hai) (fun t ht => by
    have := (h.mem i t ht).1
    intro e
    have e1 : f = 2 := by unfold ow at e; omega
    have e2 : (a : Int) = t := by unfold ow at e; omega
    exact hq e1 (e2 ▸ ht))
theorem effs_one (h : S.QFit) (ha : a < 32) (hf : f < 8) (hq : f = 2 → ∀ i : Nat, i < 32 → (a : Int) ∉ (S.ob i).queue) : effs S (ow a f) 0 32 = effF a (S.ob a) (ow a f) 0 := by
  rw [effs_far (n := a + 1) (by omega) (fun k h1 h2 d => effF_else h (by omega) ha hf (fun e => hq e k h2) d)]
  rw [show effs S (ow a f) 0 (a + 1) = effF a (S.ob a) (ow a f) (effs S (ow a f) 0 a) from rfl]
  rw [effs_far (n := 0) (by omega) (fun k h1 h2 d => effF_else h (by omega) ha hf (fun e => hq e k (by omega)) d)]
  rfl
theorem effs_two {j : Int} (hab : a < o) (ho : o < 32) (hx : ∀ k : Nat, k < 32 → k ≠ a → k ≠ o → ∀ d, effF k (S.ob k) j d = d) : effs S j 0 32 = effF o (S.ob o) j (effF a (S.ob a) j 0) := by
  rw [effs_far (n := o + 1) (by omega) (fun k h1 h2 d => hx k h2 (by omega) (by omega) d)]
  rw [show effs S j 0 (o + 1) = effF o (S.ob o) j (effs S j 0 o) from rfl]
  rw [effs_far (n := a + 1) (by omega) (fun k h1 h2 d => hx k (by omega) (by omega) (by omega) d)]
  rw [show effs S j 0 (a + 1) = effF a (S.ob a) j (effs S j 0 a) from rfl]
  rw [effs_far (n := 0) (by omega) (fun k h1 h2 d => hx k (by omega) (by omega) (by omega) d)]
  rfl
theorem isQ_no5 {x : RObj} (h : x.isQ) : x.kind ≠ 5 := by unfold RObj.isQ at h; omega
theorem QFit.bare (h : S.QFit) (hk : ¬ (S.ob t).isQ) : (S.ob t).queue = [] := by
  by_cases e : (S.ob t).queue = []
  · exact e
  · exact absurd (h.own t e).2 hk
/-- what a thread does to its own F2 -/
theorem effF_thr (hq : (S.ob a).queue = []) (hk : (S.ob a).kind = 5) (c : Int) : effF a (S.ob a) (ow a 2) c = addU c ((S.ob a).owing + 1) := by
  unfold effF
  rw [hq]
  show kindF a (S.ob a) (ow a 2) (putF (ow a 0) (S.ob a).kind (ow a 2) c) = _
  rw [putF_ne (by unfold ow; omega)]
  unfold kindF
  rw [if_neg (by omega), if_neg (by omega), if_neg (by omega), if_neg (by omega), if_pos hk]
  unfold threadF
  rw [putF_ne (by unfold ow; omega), putF_ne (by unfold ow; omega), putF_ne (by unfold ow; omega), putF_ne (by unfold ow; omega), putF_ne (by unfold ow; omega), if_pos rfl]
/-- a field that no queue is told in -/
theorem effF_own (hf : f < 8) (h2 : f ≠ 2) (h3 : f ≠ 3) : effF a (S.ob a) (ow a f) 0 = fldW (S.ob a) f := by
  unfold effF fldW
  rw [queueF_far (fun e => h2 (ow_eq.1 e)) (fun e => h3 (ow_eq.1 e)) (fun t ht e => h2 (by unfold ow at e; omega)) _ (Nat.le_refl _)]
  by_cases h : f = 0
  · subst h
    rw [if_pos rfl, putF_at, kindF_far (fun k h1 h7 => fun e => by have := (ow_eq (i := a)).1 e; omega)]
  · rw [if_neg h, putF_ne (fun e => h (ow_eq.1 e)), kindF_fld]
theorem Sok.at_ (h : Sok S) (ha : a < 32) (hf : f < 8) : atL (wordsG S) (ow a f) = effs S (ow a f) 0 32 := by
  rw [h.gur.rest _ (by unfold ow; omega)]
  unfold restW
  rw [if_pos (by unfold ow; omega), putF_ne (by unfold ow; omega), putF_ne (by unfold ow; omega)]
/-- a word of an object that tells no queue -/
theorem Sok.fldQ (h : Sok S) (q : S.QFit) (ha : a < 32) (hf : f < 8) (h1 : (S.ob a).kind = 5 → f ≠ 2) (h2 : (S.ob a).isQ → f ≠ 2 ∧ f ≠ 3) : atL (wordsG S) (ow a f) = fldW (S.ob a) f := by
  have hq : f = 2 → ∀ i : Nat, i < 32 → (a : Int) ∉ (S.ob i).queue := fun e i _ hm => h1 (q.mem i a hm).2.1 e
  rw [h.at_ ha hf, effs_one q ha hf hq]
  by_cases hQ : (S.ob a).isQ
  · exact effF_own hf (h2 hQ).1 (h2 hQ).2
  · exact effF_bare (QFit.bare q hQ) hf
/-- F2 of a thread that is in no queue -/
theorem Sok.fldT (h : Sok S) (q : S.QFit) (ha : a < 32) (hk : (S.ob a).kind = 5) (hq : ∀ i : Int, (a : Int) ∉ (S.ob i).queue) : atL (wordsG S) (ow a 2) = (S.ob a).owing + 1 := by
  rw [h.at_ ha (by omega), effs_one q ha (by omega) (fun _ i _ => hq i), effF_thr (QFit.bare q (fun e => isQ_no5 e hk)) hk]
  have := (h.obs a ha).owing
  unfold addU
  omega
/-- F2 of a thread that is in one -/
theorem Sok.fldM (h : Sok S) (q : S.QFit) {o : Int} {k : Nat} (hk : k < (S.ob o).queue.length) (ht : (S.ob o).queue.getD k 0 = t) : atL (wordsG S) (qw t 2) = if k + 1 < (S.ob o).queue.length then (S.ob o).queue.getD (k + 1) 0 + 1 else 0 := by
  have hm : t ∈ (S.ob o).queue := ht ▸ getD_in hk
  obtain ⟨ht32, hk5, hw⟩ := q.mem o t hm
  obtain ⟨ho32, hoQ⟩ := q.own o (fun e => by rw [e] at hm; simp at hm)
  obtain ⟨a, rfl, ha⟩ := nat_of ht32
  obtain ⟨b, rfl, hb⟩ := nat_of ho32
  have hne : a ≠ b := fun e => by subst e; exact isQ_no5 hoQ hk5
  have e0 : qw (a : Int) 2 = ow a 2 := by unfold qw ow; omega
  rw [e0, h.at_ ha (by omega)]
  have hx : ∀ k : Nat, k < 32 → k ≠ a → k ≠ b → ∀ d, effF k (S.ob k) (ow a 2) d = d := fun k hk h1 h2 d => effF_else q (fun e => h1 e.symm) ha (by omega) (fun _ hm' => h2 (by have := q.one _ _ _ hm hm'; omega)) d
  have ea : ∀ c, U64 c → effF a (S.ob a) (ow a 2) c = c := fun c hc => by
    rw [effF_thr (QFit.bare q (fun e => isQ_no5 e hk5)) hk5, hw]
    exact addU_zero hc
  have eb : ∀ c, effF b (S.ob b) (ow a 2) c = if k + 1 < (S.ob b).queue.length then (S.ob b).queue.getD (k + 1) 0 + 1 else c := fun c => by
    unfold effF
    rw [queueF_mem (q.nd b) hk ht (j := ow a 2) (by unfold ow; omega) (by omega) _ (Nat.le_refl _), kindF_far (fun f _ _ => ow_ne (by omega) (by omega) hne), putF_ne (ow_ne (by omega) (by omega) hne)]
    by_cases h1 : k + 1 < (S.ob b).queue.length
    · rw [if_pos ⟨hk, h1⟩, if_pos h1]
    · rw [if_neg (fun h => h1 h.2), if_neg h1]
  have hv : U64 (if k + 1 < (S.ob b).queue.length then (S.ob b).queue.getD (k + 1) 0 + 1 else 0) := by
    split
    · next h1 =>
      have := (q.mem b _ (getD_in h1)).1
      exact ⟨by omega, by omega⟩
    · exact ⟨by omega, by omega⟩
  by_cases hab : a < b
  · rw [effs_two hab hb hx, eb, ea 0 ⟨by omega, by omega⟩]
  · rw [effs_two (a := b) (o := a) (by omega) ha (fun k h1 h2 h3 d => hx k h1 h3 h2 d), eb, ea _ hv]
/-- F2, F3 of who has a queue -/
theorem Sok.fldH (h : Sok S) (q : S.QFit) {o : Nat} (ho : o < 32) (hQ : (S.ob o).isQ) : atL (wordsG S) (ow o 2) = (match (S.ob o).queue with | [] => 0 | x :: _ => x + 1) ∧ atL (wordsG S) (ow o 3) = lsW (S.ob o).queue := by
  have hno : ∀ i : Int, (o : Int) ∉ (S.ob i).queue := fun i hm => isQ_no5 hQ (q.mem i o hm).2.1
  rw [h.at_ ho (by omega), h.at_ ho (by omega), effs_one q ho (by omega) (fun _ i _ => hno i), effs_one q ho (by omega) (fun e => absurd e (by omega))]
  cases hq : (S.ob o).queue with
  | nil =>
    rw [effF_bare hq (by omega), effF_bare hq (by omega)]
    unfold fldW kindF
    rcases hQ with e | e <;> simp [e, putF, ow, lsW]
  | cons x l =>
    have hm : ∀ y, y ∈ (x :: l) → y ≠ (o : Int) := fun y hy e => hno o (by rw [hq, ← e]; exact hy)
    unfold effF
    rw [hq]
    refine ⟨?_, ?_⟩
    · exact queueF_head (c := _) hm l.length (by simp)
    · rw [lsW_getD (n := l.length) (by simp)]
      exact queueF_last (by simp)
/-- the words of a state tell its queues -/
theorem Sok.qw (h : Sok S) (q : S.QFit) : QW (wordsG S) (fun o => (S.ob o).queue) (fun o => (0 ≤ o ∧ o < 32) ∧ (S.ob o).isQ) (fun t => (0 ≤ t ∧ t < 32) ∧ (S.ob t).kind = 5 ∧ (S.ob t).owing = -1) where
  len := wordsG_len S
  zr := fun o h => h.1
  own := q.own
  rng := fun o t ht => (q.mem o t ht).1
  nd := q.nd
  one := q.one
  top := fun o p ho hm => isQ_no5 ho.2 (q.mem p o hm).2.1
  ch := fun o ho => by
    obtain ⟨b, rfl, hb⟩ := nat_of ho.1
    refine Ch_of _ _ ?_ (fun k hk => ?_)
    · have := (h.fldH q hb ho.2).1
      show atL (wordsG S) (Go.Proofs.Ytdkjfalhalepgaa.qw (b : Int) 2) = _
      rw [show Go.Proofs.Ytdkjfalhalepgaa.qw (b : Int) 2 = ow b 2 by unfold Go.Proofs.Ytdkjfalhalepgaa.qw ow; omega]
      exact this
    · exact h.fldM q hk rfl
  ls := fun o ho => by
    obtain ⟨b, rfl, hb⟩ := nat_of ho.1
    rw [show Go.Proofs.Ytdkjfalhalepgaa.qw (b : Int) 3 = ow b 3 by unfold Go.Proofs.Ytdkjfalhalepgaa.qw ow; omega]
    exact (h.fldH q hb ho.2).2
  free := fun t ht hz hf => by
    obtain ⟨a, rfl, ha⟩ := nat_of ht.1
    show atL (wordsG S) (Go.Proofs.Ytdkjfalhalepgaa.qw (a : Int) 2) = 0
    rw [show Go.Proofs.Ytdkjfalhalepgaa.qw (a : Int) 2 = ow a 2 by unfold Go.Proofs.Ytdkjfalhalepgaa.qw ow; omega, h.fldT q ha ht.2.1 hf, ht.2.2]
    rfl
end
end Go.Proofs.Ytdkjfalhalepgaa
/- Package queue's functions as mathematics, of any view (layers 14 and up), and what they come to on plain words that tell queues. No dump is read here. -/
namespace Go.Proofs.Ytdkjfalhalepgaa
open Go.RowKit
def qnextP (i : Int) : Vp Int := (refP i 2).bind fun r => .ret (if r.2 = true then r.1 + 1 else 0)
def qleaveP (o a t : Int) : Vp Unit :=
  (qnextP t).bind fun n => (putP a 2 n).bind fun _ => (putP t 2 0).bind fun _ => (qnextP a).bind fun m => if m = 0 then putP o 3 (if a = o then 0 else a + 1) else .ret ()
def qwayF : Nat → Int → Vp (List Int)
  | 0, _ => .ret []
  | n + 1, y => (refP y 2).bind fun r => if r.2 = true then (qwayF n r.1).bind fun l => .ret (r.1 :: l) else .ret []
/-- what is ahead of the first t -/
def splQ (t : Int) : List Int → Option (List Int)
  | [] => none
  | x :: l => if x = t then some [] else (splQ t l).map (x :: ·)
def qremP (o t : Int) : Vp Bool :=
  (qwayF 32 o).bind fun l => match splQ t l with
    | none => .ret false
    | some a => (qleaveP o (lst o a) t).bind fun _ => .ret true
def qpopP (o : Int) : Vp (Int × Bool) :=
  (refP o 2).bind fun r => if r.2 = true then (qleaveP o o r.1).bind fun _ => .ret (r.1, true) else .ret (0, false)
def qpushP (o t : Int) : Vp Int :=
  if objB o 0 = true ∧ objB t 0 = true then
    (qremP o t).bind fun _ => (qwayF 32 o).bind fun l => (putP (lst o l) 2 (t + 1)).bind fun _ => (putP o 3 (t + 1)).bind fun _ => if t = o then .ret 0 else (putP t 2 0).bind fun _ => .ret 0
  else .ret 2
section
variable {σ : Type} {M : Mach σ} {s s1 : σ} {L L' : List Int} {q : Int → List Int} {Z Y : Int → Prop} {o t i a : Int} {l r : List Int} {n : Nat}
theorem qwayF_none (h : (refP i 2).run M s = ((t, false), s1)) : (qwayF (n + 1) i).run M s = ([], s1) := by
  unfold qwayF
  rw [Vp.run_bind_is h]
  rfl
theorem qwayF_more {s2 : σ} (h : (refP i 2).run M s = ((t, true), s1)) (h2 : (qwayF n t).run M s1 = (l, s2)) : (qwayF (n + 1) i).run M s = (t :: l, s2) := by
  unfold qwayF
  rw [Vp.run_bind_is h, if_pos rfl, Vp.run_bind_is h2]
  rfl
theorem qwayF_len : ∀ (n : Nat) (i : Int) (s : σ), ((qwayF n i).run M s).1.length ≤ n := by
  intro n
  induction n with
  | zero => exact fun i s => Nat.le_refl 0
  | succ n ih =>
    intro i s
    obtain ⟨⟨x, b⟩, s1, h⟩ : ∃ r s1, (refP i 2).run M s = (r, s1) := ⟨_, _, rfl⟩
    cases b with
    | false => rw [qwayF_none h]; exact Nat.zero_le _
    | true =>
      obtain ⟨l, s2, h2⟩ : ∃ l s2, (qwayF n x).run M s1 = (l, s2) := ⟨_, _, rfl⟩
      rw [qwayF_more h h2]
      have := ih x s1
      rw [h2] at this
      exact Nat.succ_le_succ this
theorem splQ_none : ∀ {l : List Int}, splQ t l = none ↔ t ∉ l := by
  intro l
  induction l with
  | nil => simp [splQ]
  | cons x l ih =>
    unfold splQ
    by_cases h : x = t
    · simp [h]
    · rw [if_neg h, Option.map_eq_none_iff, ih, List.mem_cons]
      constructor
      · exact fun hl e => e.elim (fun e => h e.symm) hl
      · exact fun hl e => hl (.inr e)
theorem splQ_some : ∀ {l p : List Int}, splQ t l = some p → ∃ b, l = p ++ t :: b ∧ t ∉ p := by
  intro l
  induction l with
  | nil => intro p h; simp [splQ] at h
  | cons x l ih =>
    intro p h
    unfold splQ at h
    by_cases e : x = t
    · rw [if_pos e] at h
      cases h
      exact ⟨l, by rw [e]; rfl, by simp⟩
    · rw [if_neg e, Option.map_eq_some_iff] at h
      obtain ⟨p', h, rfl⟩ := h
      obtain ⟨b, rfl, h2⟩ := ih h
      exact ⟨b, rfl, fun hm => (List.mem_cons.1 hm).elim (fun q => e q.symm) h2⟩
theorem splQ_app {p b : List Int} (h : t ∉ p) : splQ t (p ++ t :: b) = some p := by
  induction p with
  | nil => simp [splQ]
  | cons x p ih =>
    show splQ t (x :: (p ++ t :: b)) = _
    unfold splQ
    rw [if_neg (fun e => h (by simp [e])), ih (fun hm => h (List.mem_cons_of_mem _ hm))]
    rfl
theorem lst_get : ∀ (p : List Int) (o : Int) (b : List Int), (o :: (p ++ b))[p.length]? = some (lst o p) := by
  intro p
  induction p with
  | nil => exact fun o b => rfl
  | cons x p ih =>
    intro o b
    exact ih x b
/-- as many as there may be -/
theorem nodup_few : ∀ (n : Nat) (l : List Int), l.Nodup → (∀ x, x ∈ l → 0 ≤ x ∧ x < (n : Int)) → l.length ≤ n := by
  intro n
  induction n with
  | zero =>
    intro l _ h
    cases l with
    | nil => exact Nat.le_refl 0
    | cons x l => have := h x List.mem_cons_self; omega
  | succ n ih =>
    intro l hn h
    by_cases hm : (n : Int) ∈ l
    · have h1 := ih (l.erase (n : Int)) (hn.erase _) (fun x hx => by
        have h2 := (hn.mem_erase_iff).1 hx
        have := h x h2.2
        have := h2.1
        omega)
      rw [List.length_erase_of_mem hm] at h1
      omega
    · have := ih l hn (fun x hx => by
        have h2 := h x hx
        have : x ≠ n := fun e => hm (e ▸ hx)
        omega)
      omega
theorem QW.few (h : QW L q Z Y) (o : Int) : (q o).length ≤ 32 := nodup_few 32 _ (h.nd o) (fun x hx => h.rng o x hx)
theorem qput_at {f v j : Int} (hl : L.length = 738) (ho : 0 ≤ o ∧ o < 32) (hf : 0 ≤ f ∧ f < 8) (hv : 0 ≤ v) : (putL L o f v).length = 738 ∧ atL (putL L o f v) j = if j = qw o f then v else atL L j := by
  unfold putL
  rw [if_pos ⟨objB_yes.2 ⟨ho.1, ho.2, hf.1, hf.2⟩, hv⟩, setL_length, atL_setL]
  have e : hasB L.length (480 + 8 * o + f) = true := hasB_yes.2 ⟨by omega, by omega⟩
  refine ⟨hl, ?_⟩
  by_cases h : j = qw o f
  · rw [if_pos h, if_pos ⟨e, h⟩]
  · rw [if_neg h, if_neg (fun h2 => h h2.2)]
/-- the words hold a queue: all of it is told -/
theorem qwayF_plain : ∀ (l : List Int) (n : Nat) (o : Int), l.length ≤ n → 0 ≤ o ∧ o < 32 → (∀ x, x ∈ l → 0 ≤ x ∧ x < 32) → Ch (nxL L) o l → (qwayF n o).run machP L = (l, L) := by
  intro l
  induction l with
  | nil =>
    intro n o _ ho _ hc
    have hc : nxL L o = 0 := hc
    cases n with
    | zero => rfl
    | succ n =>
      have e : (refP o 2).run machP L = ((0, false), L) := by rw [refP_plain, refL_none hc]
      exact qwayF_none e
  | cons x l ih =>
    intro n o hn ho hx hc
    obtain ⟨hc1, hc2⟩ : nxL L o = x + 1 ∧ Ch (nxL L) x l := hc
    cases n with
    | zero => exact absurd hn (by simp)
    | succ n =>
      have hx0 := hx x List.mem_cons_self
      have e : (refP o 2).run machP L = ((x, true), L) := by rw [refP_plain, refL_some ho ⟨by omega, by omega⟩ hx0 hc1]
      exact qwayF_more e (ih n x (Nat.le_of_succ_le_succ hn) hx0 (fun y hy => hx y (List.mem_cons_of_mem _ hy)) hc2)
theorem QW.way (h : QW L q Z Y) (ho : Z o) : (qwayF 32 o).run machP L = (q o, L) := qwayF_plain _ _ _ (h.few o) (h.zr o ho) (fun x hx => h.rng o x hx) (h.ch o ho)
theorem qnextP_plain (h : nxL L i = 0 ∨ ((0 ≤ i ∧ i < 32) ∧ 1 ≤ nxL L i ∧ nxL L i ≤ 32)) : (qnextP i).run machP L = (nxL L i, L) := by
  unfold qnextP
  rcases h with h | ⟨hi, h1, h2⟩
  · have e : (refP i 2).run machP L = ((0, false), L) := by rw [refP_plain, refL_none h]
    rw [Vp.run_bind_is e, h]
    rfl
  · have e : (refP i 2).run machP L = ((nxL L i - 1, true), L) := by rw [refP_plain, refL_some hi ⟨by omega, by omega⟩ (t := nxL L i - 1) ⟨by omega, by omega⟩ (by show nxL L i = _; omega)]
    rw [Vp.run_bind_is e, Vp.run_ret, if_pos rfl]
    rw [show nxL L i - 1 + 1 = nxL L i by omega]
theorem QW.leaves {p b : List Int} (h : QW L q Z Y) (ho : Z o) (hq : q o = p ++ t :: b) : ∃ L', (qleaveP o (lst o p) t).run machP L = ((), L') ∧ L'.length = 738 ∧
    ∀ j, atL L' j = if j = qw t 2 then 0 else if j = qw (lst o p) 2 then atL L (qw t 2) else if j = qw o 3 then lsW (p ++ b) else atL L j := by
  obtain ⟨lr, lm⟩ := h.lst_rng (b := t :: b) ho hq
  have ho' := h.zr o ho
  have htq : t ∈ q o := by rw [hq]; simp
  have ht := h.rng o t htq
  have hnd := h.nd1 ho
  rw [hq] at hnd
  have hlt : lst o p ≠ t := by
    rw [← List.cons_append] at hnd
    exact (List.nodup_append.1 hnd).2.2 (lst o p) (List.mem_cons.2 (lst_mem p o)) t List.mem_cons_self
  have hc := h.ch o ho
  rw [hq] at hc
  obtain ⟨hs, hc1, hc2⟩ := (Ch_append p o).1 hc
  have hlen := h.len
  have hnt : nxL L t = 0 ∧ b = [] ∨ (1 ≤ nxL L t ∧ nxL L t ≤ 32) ∧ b ≠ [] := by
    cases b with
    | nil => exact .inl ⟨hc2, rfl⟩
    | cons x b =>
      have e : nxL L t = x + 1 := hc2.1
      have := h.rng o x (by rw [hq]; simp)
      exact .inr ⟨by omega, by simp⟩
  have e1 := qnextP_plain (L := L) (i := t) (hnt.elim (fun e => .inl e.1) (fun e => .inr ⟨ht, e.1⟩))
  have hv : 0 ≤ nxL L t := by rcases hnt with e | e <;> omega
  have e2 : (putP (lst o p) 2 (nxL L t)).run machP L = ((), putL L (lst o p) 2 (nxL L t)) := putP_plain
  have l2 := (qput_at (j := 0) hlen lr (f := 2) ⟨by omega, by omega⟩ hv).1
  have a2 := fun j => (qput_at (j := j) hlen lr (f := 2) ⟨by omega, by omega⟩ hv).2
  generalize putL L (lst o p) 2 (nxL L t) = L2 at e2 l2 a2
  have e3 : (putP t 2 0).run machP L2 = ((), putL L2 t 2 0) := putP_plain
  have l3 := (qput_at (j := 0) l2 ht (f := 2) (v := 0) ⟨by omega, by omega⟩ (by omega)).1
  have a3 := fun j => (qput_at (j := j) l2 ht (f := 2) (v := 0) ⟨by omega, by omega⟩ (by omega)).2
  generalize putL L2 t 2 0 = L3 at e3 l3 a3
  have n3 : nxL L3 (lst o p) = nxL L t := by
    show atL L3 _ = _
    rw [a3, if_neg (by unfold qw; omega), a2, if_pos rfl]
  have e4 := qnextP_plain (L := L3) (i := lst o p) (by rw [n3]; exact hnt.elim (fun e => .inl e.1) (fun e => .inr ⟨lr, e.1⟩))
  rw [n3] at e4
  unfold qleaveP
  rw [Vp.run_bind_is e1, Vp.run_bind_is e2, Vp.run_bind_is e3, Vp.run_bind_is e4]
  rcases hnt with ⟨hn0, hb⟩ | ⟨hn1, hb⟩
  · subst hb
    have hw : (if lst o p = o then 0 else lst o p + 1) = lsW p := by
      cases p with
      | nil => exact if_pos rfl
      | cons x p =>
        have : lst x p ∈ x :: p := by
          rcases lst_mem p x with e | e
          · rw [e]; exact List.mem_cons_self
          · exact List.mem_cons_of_mem _ e
        refine if_neg (fun e => h.top o o ho ?_)
        have e : lst x p = o := e
        rw [hq, ← e]
        exact List.mem_append_left _ this
    rw [if_pos hn0, hw]
    have hv4 : 0 ≤ lsW p := by rw [← hw]; split <;> omega
    have l4 := (qput_at (j := 0) l3 ho' (f := 3) ⟨by omega, by omega⟩ hv4).1
    have a4 := fun j => (qput_at (j := j) l3 ho' (f := 3) ⟨by omega, by omega⟩ hv4).2
    refine ⟨putL L3 o 3 (lsW p), putP_plain, l4, fun j => ?_⟩
    generalize putL L3 o 3 (lsW p) = L4 at l4 a4 ⊢
    rw [a4, a3, a2, List.append_nil]
    show (if j = qw o 3 then _ else _) = if j = qw t 2 then 0 else if j = qw (lst o p) 2 then nxL L t else _
    by_cases h3 : j = qw o 3
    · rw [if_pos h3, if_neg (by unfold qw at h3 ⊢; omega), if_neg (by unfold qw at h3 ⊢; omega), if_pos h3]
    · rw [if_neg h3, if_neg h3]
  · rw [if_neg (by omega)]
    refine ⟨L3, rfl, l3, fun j => ?_⟩
    have h9 := h.ls o ho
    rw [hq, lsW_drop hb] at h9
    rw [a3, a2]
    show (if j = qw t 2 then _ else _) = if j = qw t 2 then 0 else if j = qw (lst o p) 2 then nxL L t else _
    by_cases h3 : j = qw o 3
    · rw [if_neg (by unfold qw at h3 ⊢; omega), if_neg (by unfold qw at h3 ⊢; omega), if_neg (by unfold qw at h3 ⊢; omega), if_neg (by unfold qw at h3 ⊢; omega), if_pos h3, h3, h9]
    · rw [if_neg h3]
theorem QW.leave {p b : List Int} (h : QW L q Z Y) (ho : Z o) (hq : q o = p ++ t :: b) : ∃ L', (qleaveP o (lst o p) t).run machP L = ((), L') ∧ QW L' (putQ q o (p ++ b)) Z Y := by
  obtain ⟨L', h1, h2, h3⟩ := h.leaves ho hq
  exact ⟨L', h1, h.drop ho hq h2 h3⟩
theorem QW.pop {b : List Int} (h : QW L q Z Y) (ho : Z o) (hq : q o = t :: b) : ∃ L', (qpopP o).run machP L = ((t, true), L') ∧ QW L' (putQ q o b) Z Y := by
  have hc := h.ch o ho
  rw [hq] at hc
  have e : (refP o 2).run machP L = ((t, true), L) := by rw [refP_plain, refL_some (h.zr o ho) ⟨by omega, by omega⟩ (h.rng o t (by rw [hq]; simp)) hc.1]
  obtain ⟨L', h1, h2⟩ := h.leave (p := []) ho hq
  refine ⟨L', ?_, h2⟩
  unfold qpopP
  rw [Vp.run_bind_is e, if_pos rfl]
  have h1 : (qleaveP o o t).run machP L = ((), L') := h1
  rw [Vp.run_bind_is h1]
  rfl
theorem QW.pushed (h : QW L q Z Y) (ho : Z o) (ht : 0 ≤ t ∧ t < 32) (hz : ¬ Z t) (hf : ∀ p, t ∉ q p) : ∃ L', (qpushP o t).run machP L = (0, L') ∧ L'.length = 738 ∧
    ∀ j, atL L' j = if j = qw t 2 then 0 else if j = qw (lst o (q o)) 2 then t + 1 else if j = qw o 3 then t + 1 else atL L j := by
  have ho' := h.zr o ho
  obtain ⟨lr, lm⟩ := h.lst_rng (b := []) ho (List.append_nil _).symm
  have hto : t ≠ o := fun e => hz (e ▸ ho)
  have hlt : lst o (q o) ≠ t := fun e => lm.elim (fun q => hto (e ▸ q)) (fun q => hf o (e ▸ q))
  have e0 : (qremP o t).run machP L = (false, L) := by
    unfold qremP
    rw [Vp.run_bind_is (h.way ho), splQ_none.2 (hf o)]
    rfl
  unfold qpushP
  rw [if_pos ⟨objB_yes.2 ⟨ho'.1, ho'.2, by omega, by omega⟩, objB_yes.2 ⟨ht.1, ht.2, by omega, by omega⟩⟩, Vp.run_bind_is e0, Vp.run_bind_is (h.way ho)]
  have e2 : (putP (lst o (q o)) 2 (t + 1)).run machP L = ((), putL L (lst o (q o)) 2 (t + 1)) := putP_plain
  have l2 := (qput_at (j := 0) h.len lr (f := 2) (v := t + 1) ⟨by omega, by omega⟩ (by omega)).1
  have a2 := fun j => (qput_at (j := j) h.len lr (f := 2) (v := t + 1) ⟨by omega, by omega⟩ (by omega)).2
  generalize putL L (lst o (q o)) 2 (t + 1) = L2 at e2 l2 a2
  have e3 : (putP o 3 (t + 1)).run machP L2 = ((), putL L2 o 3 (t + 1)) := putP_plain
  have l3 := (qput_at (j := 0) l2 ho' (f := 3) (v := t + 1) ⟨by omega, by omega⟩ (by omega)).1
  have a3 := fun j => (qput_at (j := j) l2 ho' (f := 3) (v := t + 1) ⟨by omega, by omega⟩ (by omega)).2
  generalize putL L2 o 3 (t + 1) = L3 at e3 l3 a3
  have e4 : (putP t 2 0).run machP L3 = ((), putL L3 t 2 0) := putP_plain
  have l4 := (qput_at (j := 0) l3 ht (f := 2) (v := 0) ⟨by omega, by omega⟩ (by omega)).1
  have a4 := fun j => (qput_at (j := j) l3 ht (f := 2) (v := 0) ⟨by omega, by omega⟩ (by omega)).2
  generalize putL L3 t 2 0 = L4 at e4 l4 a4
  rw [Vp.run_bind_is e2, Vp.run_bind_is e3, if_neg hto, Vp.run_bind_is e4]
  refine ⟨L4, rfl, l4, fun j => ?_⟩
  rw [a4, a3, a2]
  by_cases h3 : j = qw o 3
  · rw [if_neg (by unfold qw at h3 ⊢; omega), if_pos h3, if_neg (by unfold qw at h3 ⊢; omega), if_neg (by unfold qw at h3 ⊢; omega), if_pos h3]
  · rw [if_neg h3, if_neg h3]
end
end Go.Proofs.Ytdkjfalhalepgaa
