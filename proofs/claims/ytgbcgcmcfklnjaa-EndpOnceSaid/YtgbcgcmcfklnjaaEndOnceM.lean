/- Messages that are sent, received, answered (layer 15): each is received once; as mathematics. No dump is read here. -/
import Derived.Test.YtgbcgcmcfklnjaaEpS
import Derived.Test.YtgbcgcmcfklnjaaJ9
namespace Go.Proofs.Ytgbcgcmcfklnjaa
open Go.RowKit
/-- what the numbers below n that are P have -/
def sel (P : Int → Bool) (w : Int → Int) : Nat → List Int
  | 0 => []
  | n + 1 => sel P w n ++ (if P n = true then [w n] else [])
def cnt (P : Int → Bool) : Nat → Nat
  | 0 => 0
  | n + 1 => cnt P n + (if P n = true then 1 else 0)
section
variable {P P' : Int → Bool} {w w' : Int → Int} {t : Int} {n : Nat}
theorem sel_same : ∀ n : Nat, (∀ t : Int, 0 ≤ t → t < n → P t = P' t ∧ (P t = true → w t = w' t)) → sel P w n = sel P' w' n := by
  intro n
  induction n with
  | zero => exact fun _ => rfl
  | succ n ih =>
    intro h
    obtain ⟨h1, h2⟩ := h n (by omega) (by omega)
    show sel P w n ++ _ = sel P' w' n ++ _
    rw [ih (fun t h0 h3 => h t h0 (by omega)), ← h1]
    by_cases e : P n = true
    · rw [if_pos e, if_pos e, h2 e]
    · rw [if_neg e, if_neg e]
theorem sel_add (h0 : P t = false) (h1 : P' t = true) : ∀ n : Nat, (∀ x : Int, 0 ≤ x → x < n → x ≠ t → P x = P' x ∧ (P x = true → w x = w' x)) → 0 ≤ t → t < n → (sel P' w' n).Perm (sel P w n ++ [w' t]) := by
  intro n
  induction n with
  | zero => intro _ h2 h3; omega
  | succ n ih =>
    intro h h2 h3
    show (sel P' w' n ++ _).Perm ((sel P w n ++ _) ++ _)
    by_cases e : t = n
    · subst e
      rw [if_pos h1, if_neg (by simp [h0]), List.append_nil, sel_same (P := P') (P' := P) (w := w') (w' := w) n (fun x hx0 hx1 => by
        obtain ⟨q1, q2⟩ := h x hx0 (by omega) (by omega)
        exact ⟨q1.symm, fun e => (q2 (q1.trans e)).symm⟩)]
    · obtain ⟨q1, q2⟩ := h n (by omega) (by omega) (fun e2 => e e2.symm)
      have q3 := ih (fun x hx0 hx1 => h x hx0 (by omega)) h2 (by omega)
      by_cases e3 : P n = true
      · rw [if_pos e3, if_pos (q1 ▸ e3), ← q2 e3]
        refine (q3.append_right _).trans ?_
        rw [List.append_assoc, List.append_assoc]
        exact List.Perm.append_left _ (List.perm_append_comm)
      · rw [if_neg e3, if_neg (fun z => e3 (q1.trans z)), List.append_nil, List.append_nil]
        exact q3
theorem sel_cnt : ∀ n : Nat, (sel P w n).length = cnt P n := by
  intro n
  induction n with
  | zero => rfl
  | succ n ih =>
    show (sel P w n ++ _).length = cnt P n + _
    rw [List.length_append, ih]
    split <;> rfl
theorem cnt_le : ∀ n : Nat, cnt P n ≤ n := by
  intro n
  induction n with
  | zero => exact Nat.le_refl 0
  | succ n ih =>
    show cnt P n + _ ≤ n + 1
    split <;> omega
theorem sel_len (n : Nat) : (sel P w n).length ≤ n := by rw [sel_cnt]; exact cnt_le n
theorem cnt_add (n : Nat) (h0 : P t = false) (h1 : P' t = true) (h : ∀ x : Int, 0 ≤ x → x < n → x ≠ t → P x = P' x) (h2 : 0 ≤ t) (h3 : t < n) : cnt P' n = cnt P n + 1 := by
  have q := (sel_add (w := id) (w' := id) h0 h1 n (fun x a b c => ⟨h x a b c, fun _ => rfl⟩) h2 h3).length_eq
  rw [List.length_append, sel_cnt, sel_cnt] at q
  exact q
theorem sel_mem : ∀ n : Nat, t ∈ sel P id n ↔ (0 ≤ t ∧ t < n) ∧ P t = true := by
  intro n
  induction n with
  | zero => simp [sel]; omega
  | succ n ih =>
    show t ∈ sel P id n ++ _ ↔ _
    rw [List.mem_append, ih]
    by_cases e : P n = true
    · rw [if_pos e, List.mem_singleton]
      constructor
      · rintro (⟨h1, h2⟩ | h1)
        · exact ⟨⟨h1.1, by omega⟩, h2⟩
        · have h1 : t = n := h1
          subst h1
          exact ⟨⟨by omega, by omega⟩, e⟩
      · rintro ⟨h1, h2⟩
        by_cases e2 : t = n
        · exact .inr e2
        · exact .inl ⟨⟨h1.1, by omega⟩, h2⟩
    · rw [if_neg e]
      constructor
      · rintro (⟨h1, h2⟩ | h1)
        · exact ⟨⟨h1.1, by omega⟩, h2⟩
        · simp at h1
      · rintro ⟨h1, h2⟩
        refine .inl ⟨⟨h1.1, ?_⟩, h2⟩
        by_cases e2 : t = n
        · subst e2; exact absurd h2 e
        · omega
theorem sel_nodup : ∀ n : Nat, (sel P id n).Nodup := by
  intro n
  induction n with
  | zero => exact List.nodup_nil
  | succ n ih =>
    show (sel P id n ++ _).Nodup
    refine List.nodup_append.2 ⟨ih, ?_, fun x hx y hy e => ?_⟩
    · split <;> simp
    · subst e
      have h1 := (sel_mem n).1 hx
      split at hy
      · have : x = n := List.mem_singleton.1 hy
        omega
      · simp at hy
end
/-- who waits to send: their words -/
def pend (S : RSt) (ep : Int) : List Int := if (S.ob ep).wait = 1 then (S.ob ep).queue.map fun t => (S.ob t).word else []
/-- who received while others waited, and was told since: their words -/
def coll (S : RSt) (bl : Int → Bool) (n : Nat) : List Int := sel (fun t => bl t && decide ((S.ob t).state = 1)) (fun t => (S.ob t).word) n
structure EO (n : Nat) (S : RSt) (bl : Int → Bool) (got sent : List Int) (i : Nat) : Prop where
  ok : Eok S
  n7 : n ≤ 7
  thr : ∀ t : Int, 0 ≤ t → t < n → S.Thr t
  thn : ∀ t : Int, S.Thr t → t < n
  ep : EpAt S ((n : Int) + 3)
  oq : ∀ o : Int, (S.ob o).queue ≠ [] → o = (n : Int) + 3
  st : ∀ t : Int, S.Thr t → (S.ob t).state = 1 ∨ (S.ob t).state = 2 ∨ (S.ob t).state = 3 ∨ (S.ob t).state = 4 ∨ (S.ob t).state = 6
  bl1 : ∀ t : Int, S.Thr t → bl t = true → (S.ob t).state = 3 ∨ (S.ob t).state = 1
  bl3 : ∀ t : Int, S.Thr t → (S.ob t).state = 3 → bl t = true
  low : ∀ x, x ∈ sent → 1 ≤ x ∧ x ≤ (i : Int)
  nd : sent.Nodup
  perm : (got ++ pend S ((n : Int) + 3) ++ coll S bl n).Perm sent
section
variable {n i : Nat} {S : RSt} {bl : Int → Bool} {got sent : List Int} {t : Int} {call : Bool}
theorem EO.more (h : EO n S bl got sent i) : EO n S bl got sent (i + 1) := { h with low := fun x hx => by have := h.low x hx; omega }
theorem EO.blk_in (h : EO n S bl got sent i) (ht : S.Thr t) (hb : blk (S.ob t).state) : t ∈ (S.ob ((n : Int) + 3)).queue ∧ fits 3 (S.ob ((n : Int) + 3)).wait (S.ob t).state := by
  have h1 := (h.ok.ei.cls t ht).2 hb
  have h2 := (h.ok.ei.on t ht _ h1).1 rfl
  have h3 := h.oq _ (fun e => by rw [e] at h2; simp at h2)
  rw [h3] at h2
  have h4 := h.ok.ei.fit _ t h2
  rw [h.ep.kind] at h4
  exact ⟨h2, h4⟩
/-- is there one that receives -/
theorem EO.recvs (h : EO n S bl got sent i) : (∃ k : Int, (0 ≤ k ∧ k < n) ∧ (S.ob k).state = 3) ↔ (S.ob ((n : Int) + 3)).wait = 2 := by
  constructor
  · rintro ⟨k, hk, h3⟩
    have := (h.blk_in (h.thr k hk.1 hk.2) (by unfold blk; omega)).2
    unfold fits at this
    omega
  · intro hw
    obtain ⟨r, l, hq⟩ := h.ok.queue_wait ⟨h.ep.rng, h.ep.kind⟩ (by omega)
    have hm : r ∈ (S.ob ((n : Int) + 3)).queue := by rw [hq]; simp
    have hr := h.ok.ei.thr hm
    have hf := h.ok.ei.fit _ r hm
    rw [h.ep.kind, hw] at hf
    unfold fits at hf
    exact ⟨r, ⟨hr.1.1, h.thn r hr⟩, by omega⟩
/-- one that was told is seen -/
theorem EO.collect (h : EO n S bl got sent i) (ht : S.Thr t) (h1 : (S.ob t).state = 1) (hb : bl t = true) : EO n S (setF bl t false) (got ++ [(S.ob t).word]) sent i := by
  have hc : (coll S bl n).Perm (coll S (setF bl t false) n ++ [(S.ob t).word]) := by
    unfold coll
    refine sel_add (t := t) (w' := fun x => (S.ob x).word) ?_ ?_ n (fun x _ _ hx => ?_) ht.1.1 (h.thn t ht)
    · rw [setF_self]; rfl
    · rw [hb, h1]; rfl
    · rw [setF_ne hx]; exact ⟨rfl, fun _ => rfl⟩
  refine { h with bl1 := fun x hx hbx => ?_, bl3 := fun x hx h3 => ?_, perm := ?_ }
  · by_cases e : x = t
    · rw [e, setF_self] at hbx; simp at hbx
    · rw [setF_ne e] at hbx; exact h.bl1 x hx hbx
  · by_cases e : x = t
    · rw [e] at h3; omega
    · rw [setF_ne e]; exact h.bl3 x hx h3
  · refine List.Perm.trans ?_ h.perm
    refine List.Perm.trans ?_ (List.Perm.append_left _ hc.symm)
    rw [List.append_assoc, List.append_assoc, List.append_assoc]
    refine List.Perm.append_left _ ?_
    refine List.perm_append_comm.trans ?_
    rw [List.append_assoc]
theorem EO.send (h : EO n S bl got sent i) (ht : S.Thr t) (h1 : (S.ob t).state = 1) (hb : bl t = false) (hi : i ≤ 1000) : EO n (sendS S ((n : Int) + 3) t 0 ((i : Int) + 1) call) bl got (sent ++ [(i : Int) + 1]) (i + 1) := by
  have hok := h.ok.send (call := call) h.ep ht h1 (w := (i : Int) + 1) (b := 0) ⟨by omega, by omega⟩ ⟨by decide, by decide⟩
  have hte : t ≠ (n : Int) + 3 := fun e => by have := ht.2; have h9 := h.ep.kind; rw [e] at this; omega
  have hno := (h.ok.ei.none ht (blk_no1 (.inl h1))).2
  have hlow : ∀ x, x ∈ sent ++ [(i : Int) + 1] → 1 ≤ x ∧ x ≤ ((i + 1 : Nat) : Int) := fun x hx => by
    rcases List.mem_append.1 hx with e | e
    · have := h.low x e; omega
    · rw [List.mem_singleton.1 e]; omega
  have hnd : (sent ++ [(i : Int) + 1]).Nodup := List.nodup_append.2 ⟨h.nd, by simp, fun x hx y hy e => by have := h.low x hx; rw [List.mem_singleton.1 hy] at e; omega⟩
  by_cases h2 : (S.ob ((n : Int) + 3)).wait = 2
  · obtain ⟨r, l, hq⟩ := h.ok.queue_wait ⟨h.ep.rng, h.ep.kind⟩ (by omega)
    have hrm : r ∈ (S.ob ((n : Int) + 3)).queue := by rw [hq]; simp
    have hr := h.ok.ei.thr hrm
    have hf := h.ok.ei.fit _ r hrm
    have hr3 : (S.ob r).state = 3 := by rw [h.ep.kind, h2] at hf; unfold fits at hf; omega
    have hrt : r ≠ t := fun e => hno _ (e ▸ hrm)
    have hre : r ≠ (n : Int) + 3 := fun e => by have := hr.2; have h9 := h.ep.kind; rw [e] at this; omega
    have hrb := h.bl3 r hr hr3
    obtain ⟨S', hS'⟩ : ∃ S', sendS S ((n : Int) + 3) t 0 ((i : Int) + 1) call = S' := ⟨_, rfl⟩
    have eK : ∀ x, (S'.ob x).kind = (S.ob x).kind := fun x => by
      rw [← hS']; unfold sendS; rw [if_pos h2]; split <;> simp only [restS_kind, wakeS_kind, popS_kind, owesS_kind, owedS_kind, oweS]
    have eQ : ∀ x, (S'.ob x).queue = if x = (n : Int) + 3 then l else (S.ob x).queue := fun x => by
      rw [← hS']; unfold sendS; rw [if_pos h2, ← tail_of hq]; split <;> simp only [restS_queue, wakeS_queue, popS_queue, owesS_queue, owedS_queue, oweS]
    have eS : ∀ x, (S'.ob x).state = if x = r then 1 else if x = t ∧ call = true then 4 else (S.ob x).state := fun x => by
      rw [← hS']; unfold sendS; rw [if_pos h2, headQ_is hq]
      cases call with
      | true =>
        rw [if_pos rfl]
        simp only [restS_state, wakeS_state, popS_state, owesS_state, owedS_state, oweS]
        by_cases e : x = r
        · rw [if_pos e, if_neg (fun e2 => hrt (e.symm.trans e2)), if_pos e]
        · rw [if_neg e, if_neg e]
          by_cases e2 : x = t
          · rw [if_pos e2, if_pos ⟨e2, trivial⟩]
          · rw [if_neg e2, if_neg (fun z => e2 z.1)]
      | false =>
        rw [if_neg (by simp)]
        simp only [restS_state, wakeS_state, popS_state]
        by_cases e : x = r
        · rw [if_pos e, if_pos e]
        · rw [if_neg e, if_neg e, if_neg (fun z => by simp at z)]
    have eW : ∀ x, (S'.ob x).word = if x = r then (i : Int) + 1 else (S.ob x).word := fun x => by
      rw [← hS']; unfold sendS; rw [if_pos h2, headQ_is hq]; split <;> simp only [restS_word, wakeS_word, popS_word, owesS_word, owedS_word, oweS]
    have eT : ∀ x, (S'.ob x).wait = if x = (n : Int) + 3 ∧ l = [] then 0 else (S.ob x).wait := fun x => by
      rw [← hS']; unfold sendS; rw [if_pos h2, ← tail_of hq]
      split
      all_goals
        simp only [restS_wait, wakeS_queue, wakeS_wait, popS_queue, popS_wait, owesS_wait, owedS_wait, oweS]
        rw [if_pos trivial]
    rw [hS'] at hok ⊢
    have hT := Thr_same eK
    refine ⟨hok, h.n7, fun x a b => (hT x).2 (h.thr x a b), fun x hx => h.thn x ((hT x).1 hx), ⟨h.ep.rng, by rw [eK]; exact h.ep.kind⟩, fun o ho => ?_, fun x hx => ?_, fun x hx hbx => ?_, fun x hx h3 => ?_, hlow, hnd, ?_⟩
    · rw [eQ] at ho
      split at ho
      · next e => exact e
      · exact h.oq o ho
    · rw [eS]
      split
      · exact .inl rfl
      · split
        · exact .inr (.inr (.inr (.inl rfl)))
        · exact h.st x ((hT x).1 hx)
    · rw [eS]
      split
      · exact .inr rfl
      · split
        · next e => rw [e.1, hb] at hbx; simp at hbx
        · exact h.bl1 x ((hT x).1 hx) hbx
    · rw [eS] at h3
      split at h3
      · omega
      · split at h3
        · omega
        · exact h.bl3 x ((hT x).1 hx) h3
    · have p0 : pend S ((n : Int) + 3) = [] := by unfold pend; rw [if_neg (by omega)]
      have p1 : pend S' ((n : Int) + 3) = [] := by
        unfold pend
        rw [if_neg]
        rw [eT]
        split <;> omega
      have hc : (coll S' bl n).Perm (coll S bl n ++ [(i : Int) + 1]) := by
        have q := sel_add (t := r) (P := fun t => bl t && decide ((S.ob t).state = 1)) (P' := fun t => bl t && decide ((S'.ob t).state = 1)) (w := fun t => (S.ob t).word) (w' := fun t => (S'.ob t).word)
          (by simp [hr3]) (by rw [hrb]; simp [eS]) n (fun x _ _ hx => ?_) hr.1.1 (h.thn r hr)
        · have e : (S'.ob r).word = (i : Int) + 1 := by rw [eW, if_pos rfl]
          rw [e] at q
          exact q
        · rw [eS, eW, if_neg hx, if_neg hx]
          refine ⟨?_, fun _ => rfl⟩
          by_cases e : x = t ∧ call = true
          · rw [if_pos e, e.1, hb]; rfl
          · rw [if_neg e]
      have q := h.perm
      rw [p0, List.append_nil] at q
      rw [p1, List.append_nil]
      refine (List.Perm.append_left _ hc).trans ?_
      rw [← List.append_assoc]
      exact q.append_right _
  · obtain ⟨S', hS'⟩ : ∃ S', sendS S ((n : Int) + 3) t 0 ((i : Int) + 1) call = S' := ⟨_, rfl⟩
    have eK : ∀ x, (S'.ob x).kind = (S.ob x).kind := fun x => by
      rw [← hS']; unfold sendS; rw [if_neg h2]; simp only [waitS_kind, saidS_kind, onS_kind, pushS_kind, blockS]
    have eQ : ∀ x, (S'.ob x).queue = if x = (n : Int) + 3 then (S.ob ((n : Int) + 3)).queue ++ [t] else (S.ob x).queue := fun x => by
      rw [← hS']; unfold sendS; rw [if_neg h2]; simp only [waitS_queue, saidS_queue, onS_queue, pushS_queue, blockS]
    have eS : ∀ x, (S'.ob x).state = if x = t then (if call = true then 6 else 2) else (S.ob x).state := fun x => by
      rw [← hS']; unfold sendS; rw [if_neg h2]; simp only [waitS_state, saidS_state, onS_state, pushS_state, blockS]
    have eW : ∀ x, (S'.ob x).word = if x = t then (i : Int) + 1 else (S.ob x).word := fun x => by
      rw [← hS']; unfold sendS; rw [if_neg h2]; simp only [waitS_word, saidS_word, onS_word, pushS_word, blockS]
    have eT : ∀ x, (S'.ob x).wait = if x = (n : Int) + 3 then 1 else (S.ob x).wait := fun x => by
      rw [← hS']; unfold sendS; rw [if_neg h2]; simp only [waitS_wait, saidS_wait, onS_wait, pushS_wait, blockS]
    rw [hS'] at hok ⊢
    have hT := Thr_same eK
    refine ⟨hok, h.n7, fun x a b => (hT x).2 (h.thr x a b), fun x hx => h.thn x ((hT x).1 hx), ⟨h.ep.rng, by rw [eK]; exact h.ep.kind⟩, fun o ho => ?_, fun x hx => ?_, fun x hx hbx => ?_, fun x hx h3 => ?_, hlow, hnd, ?_⟩
    · rw [eQ] at ho
      split at ho
      · next e => exact e
      · exact h.oq o ho
    · rw [eS]
      split
      · split
        · exact .inr (.inr (.inr (.inr rfl)))
        · exact .inr (.inl rfl)
      · exact h.st x ((hT x).1 hx)
    · rw [eS]
      split
      · next e => rw [e, hb] at hbx; simp at hbx
      · exact h.bl1 x ((hT x).1 hx) hbx
    · rw [eS] at h3
      split at h3
      · split at h3 <;> omega
      · exact h.bl3 x ((hT x).1 hx) h3
    · have hc : coll S' bl n = coll S bl n := by
        unfold coll
        refine (sel_same n (fun x _ _ => ?_)).symm
        rw [eS, eW]
        by_cases e : x = t
        · rw [if_pos e, if_pos e, e, hb]
          exact ⟨rfl, fun z => by simp at z⟩
        · rw [if_neg e, if_neg e]
          exact ⟨rfl, fun _ => rfl⟩
      have hp : pend S' ((n : Int) + 3) = pend S ((n : Int) + 3) ++ [(i : Int) + 1] := by
        have hm : (S.ob ((n : Int) + 3)).queue.map (fun x => (S'.ob x).word) = (S.ob ((n : Int) + 3)).queue.map (fun x => (S.ob x).word) := List.map_congr_left (fun x hx => by
          rw [eW, if_neg (fun e => hno _ (e ▸ hx))])
        unfold pend
        rw [eT, if_pos rfl, if_pos rfl, eQ, if_pos rfl, List.map_append, hm]
        have e1 : List.map (fun x => (S'.ob x).word) [t] = [(i : Int) + 1] := by
          show [(S'.ob t).word] = _
          rw [eW, if_pos rfl]
        rw [e1]
        by_cases hw : (S.ob ((n : Int) + 3)).wait = 1
        · rw [if_pos hw]
        · have hw0 := h.ok.ei.wt _ h.ep.rng h.ep.kind
          rw [if_neg hw, hw0.1.2 (by omega)]
          rfl
      rw [hp, hc]
      have q := h.perm.append_right [(i : Int) + 1]
      refine List.Perm.trans ?_ q
      rw [List.append_assoc, List.append_assoc, List.append_assoc, List.append_assoc]
      refine List.Perm.append_left _ (List.Perm.append_left _ List.perm_append_comm)
theorem EO.told (h : EO n S bl got sent i) (ht : S.Thr t) (h1 : (S.ob t).state = 1) (h0 : ¬ 0 ≤ (S.ob t).owes) (h2 : (S.ob ((n : Int) + 3)).wait = 1) : EO n (recvS S ((n : Int) + 3) t) bl (got ++ [(S.ob (headQ S ((n : Int) + 3))).word]) sent i := by
  have hok := h.ok.recv h.ep ht h1
  obtain ⟨r, l, hq⟩ := h.ok.queue_wait ⟨h.ep.rng, h.ep.kind⟩ (by omega)
  have hrm : r ∈ (S.ob ((n : Int) + 3)).queue := by rw [hq]; simp
  have hr := h.ok.ei.thr hrm
  have hf := h.ok.ei.fit _ r hrm
  have hrs : (S.ob r).state = 2 ∨ (S.ob r).state = 6 := by rw [h.ep.kind, h2] at hf; unfold fits at hf; omega
  have hrt : r ≠ t := fun e => by rw [e] at hrs; omega
  have hrb : bl r = false := by
    cases hb : bl r with
    | false => rfl
    | true => have := h.bl1 r hr hb; omega
  have hrl : r ∉ l := fun hm => by have := h.ok.ei.qf.nd ((n : Int) + 3); rw [hq] at this; exact (List.nodup_cons.1 this).1 hm
  rw [headQ_is hq]
  obtain ⟨S', hS'⟩ : ∃ S', recvS S ((n : Int) + 3) t = S' := ⟨_, rfl⟩
  have eK : ∀ x, (S'.ob x).kind = (S.ob x).kind := fun x => by
    rw [← hS']; unfold recvS; rw [if_neg h0, if_pos h2, restS_kind]; split <;> simp only [wakeS_kind, popS_kind, owesS_kind, owedS_kind, oweS]
  have eQ : ∀ x, (S'.ob x).queue = if x = (n : Int) + 3 then l else (S.ob x).queue := fun x => by
    rw [← hS']; unfold recvS; rw [if_neg h0, if_pos h2, ← tail_of hq, restS_queue]; split <;> simp only [wakeS_queue, popS_queue, owesS_queue, owedS_queue, oweS]
  have eS : ∀ x, (S'.ob x).state = if x = r then (if (S.ob r).state = 6 then 4 else 1) else (S.ob x).state := fun x => by
    rw [← hS']; unfold recvS; rw [if_neg h0, if_pos h2, headQ_is hq, restS_state]
    by_cases e : (S.ob r).state = 6
    · rw [if_pos e, if_pos e]; simp only [popS_state, owesS_state, owedS_state, oweS]
    · rw [if_neg e, if_neg e]; simp only [wakeS_state, popS_state]
  have eW : ∀ x, x ≠ r → (S'.ob x).word = (S.ob x).word := fun x hx => by
    rw [← hS']; unfold recvS; rw [if_neg h0, if_pos h2, headQ_is hq, restS_word]
    split
    · simp only [popS_word, owesS_word, owedS_word, oweS]
    · simp only [wakeS_word, popS_word]
      rw [if_neg hx]
  have eT : ∀ x, (S'.ob x).wait = if x = (n : Int) + 3 ∧ l = [] then 0 else (S.ob x).wait := fun x => by
    rw [← hS']; unfold recvS; rw [if_neg h0, if_pos h2, ← tail_of hq, restS_wait]
    split
    all_goals
      simp only [wakeS_queue, wakeS_wait, popS_queue, popS_wait, owesS_queue, owesS_wait, owedS_queue, owedS_wait, oweS]
      rw [if_pos trivial]
  rw [hS'] at hok ⊢
  have hT := Thr_same eK
  refine ⟨hok, h.n7, fun x a b => (hT x).2 (h.thr x a b), fun x hx => h.thn x ((hT x).1 hx), ⟨h.ep.rng, by rw [eK]; exact h.ep.kind⟩, fun o ho => ?_, fun x hx => ?_, fun x hx hbx => ?_, fun x hx h3 => ?_, h.low, h.nd, ?_⟩
  · rw [eQ] at ho
    split at ho
    · next e => exact e
    · exact h.oq o ho
  · rw [eS]
    split
    · split
      · exact .inr (.inr (.inr (.inl rfl)))
      · exact .inl rfl
    · exact h.st x ((hT x).1 hx)
  · rw [eS]
    split
    · next e => rw [e, hrb] at hbx; simp at hbx
    · exact h.bl1 x ((hT x).1 hx) hbx
  · rw [eS] at h3
    split at h3
    · split at h3 <;> omega
    · exact h.bl3 x ((hT x).1 hx) h3
  · have hc : coll S' bl n = coll S bl n := by
      unfold coll
      refine (sel_same n (fun x _ _ => ?_)).symm
      by_cases e : x = r
      · rw [e, hrb]
        exact ⟨rfl, fun z => by simp at z⟩
      · rw [eS, eW x e, if_neg e]
        exact ⟨rfl, fun _ => rfl⟩
    have hm : l.map (fun x => (S'.ob x).word) = l.map (fun x => (S.ob x).word) := List.map_congr_left (fun x hx => eW x (fun e => hrl (e ▸ hx)))
    have hp0 : pend S ((n : Int) + 3) = (S.ob r).word :: l.map (fun x => (S.ob x).word) := by
      unfold pend
      rw [if_pos h2, hq]
      rfl
    have hp : pend S' ((n : Int) + 3) = l.map (fun x => (S.ob x).word) := by
      have e1 : (S'.ob ((n : Int) + 3)).queue = l := by rw [eQ, if_pos rfl]
      have e2 := eT ((n : Int) + 3)
      unfold pend
      rw [e1, hm]
      by_cases e : l = []
      · rw [if_pos ⟨rfl, e⟩] at e2
        rw [e2, if_neg (by decide), e]
        rfl
      · rw [if_neg (fun z => e z.2)] at e2
        rw [e2, if_pos h2]
    rw [hp, hc]
    have q := h.perm
    rw [hp0] at q
    rw [List.append_assoc got]
    exact q
theorem EO.waits (h : EO n S bl got sent i) (ht : S.Thr t) (h1 : (S.ob t).state = 1) (h0 : ¬ 0 ≤ (S.ob t).owes) (h2 : (S.ob ((n : Int) + 3)).wait ≠ 1) (hb : bl t = false) : EO n (recvS S ((n : Int) + 3) t) (setF bl t true) got sent i := by
  have hok := h.ok.recv h.ep ht h1
  have hno := (h.ok.ei.none ht (blk_no1 (.inl h1))).2
  obtain ⟨S', hS'⟩ : ∃ S', recvS S ((n : Int) + 3) t = S' := ⟨_, rfl⟩
  have eK : ∀ x, (S'.ob x).kind = (S.ob x).kind := fun x => by
    rw [← hS']; unfold recvS; rw [if_neg h0, if_neg h2]; simp only [waitS_kind, onS_kind, pushS_kind, blockS]
  have eQ : ∀ x, (S'.ob x).queue = if x = (n : Int) + 3 then (S.ob ((n : Int) + 3)).queue ++ [t] else (S.ob x).queue := fun x => by
    rw [← hS']; unfold recvS; rw [if_neg h0, if_neg h2]; simp only [waitS_queue, onS_queue, pushS_queue, blockS]
  have eS : ∀ x, (S'.ob x).state = if x = t then 3 else (S.ob x).state := fun x => by
    rw [← hS']; unfold recvS; rw [if_neg h0, if_neg h2]; simp only [waitS_state, onS_state, pushS_state, blockS]
  have eW : ∀ x, (S'.ob x).word = (S.ob x).word := fun x => by
    rw [← hS']; unfold recvS; rw [if_neg h0, if_neg h2]; simp only [waitS_word, onS_word, pushS_word, blockS]
  have eT : ∀ x, (S'.ob x).wait = if x = (n : Int) + 3 then 2 else (S.ob x).wait := fun x => by
    rw [← hS']; unfold recvS; rw [if_neg h0, if_neg h2]; simp only [waitS_wait, onS_wait, pushS_wait, blockS]
  rw [hS'] at hok ⊢
  have hT := Thr_same eK
  refine ⟨hok, h.n7, fun x a b => (hT x).2 (h.thr x a b), fun x hx => h.thn x ((hT x).1 hx), ⟨h.ep.rng, by rw [eK]; exact h.ep.kind⟩, fun o ho => ?_, fun x hx => ?_, fun x hx hbx => ?_, fun x hx h3 => ?_, h.low, h.nd, ?_⟩
  · rw [eQ] at ho
    split at ho
    · next e => exact e
    · exact h.oq o ho
  · rw [eS]
    split
    · exact .inr (.inr (.inl rfl))
    · exact h.st x ((hT x).1 hx)
  · rw [eS]
    by_cases e : x = t
    · rw [if_pos e]; exact .inl rfl
    · rw [if_neg e]
      rw [setF_ne e] at hbx
      exact h.bl1 x ((hT x).1 hx) hbx
  · rw [eS] at h3
    by_cases e : x = t
    · rw [e, setF_self]
    · rw [if_neg e] at h3
      rw [setF_ne e]
      exact h.bl3 x ((hT x).1 hx) h3
  · have hc : coll S' (setF bl t true) n = coll S bl n := by
      unfold coll
      refine (sel_same n (fun x _ _ => ?_)).symm
      rw [eS, eW]
      by_cases e : x = t
      · rw [if_pos e, e, hb, setF_self]
        exact ⟨rfl, fun z => by simp at z⟩
      · rw [if_neg e, setF_ne e]
        exact ⟨rfl, fun _ => rfl⟩
    have hp : pend S' ((n : Int) + 3) = pend S ((n : Int) + 3) := by
      unfold pend
      rw [eT, if_pos rfl, if_neg (by decide), if_neg h2]
    rw [hp, hc]
    exact h.perm
theorem ansS_owes {x w : Int} (h0 : ¬ (S.ob t).owes < 0) : ((ansS S t w).ob x).state = if x = (S.ob t).owes then 1 else (S.ob x).state := by
  unfold ansS
  rw [if_neg h0]
  simp only [wakeS_state, owingS_state, owesS_state]
theorem EO.answer (h : EO n S bl got sent i) (ht : S.Thr t) : EO n (ansS S t 0) bl got sent i := by
  have hok := h.ok.answer ht (w := 0) ⟨by decide, by decide⟩
  by_cases h0 : (S.ob t).owes < 0
  · have e : ansS S t 0 = S := if_pos h0
    rw [e]
    exact h
  obtain ⟨c, hc⟩ : ∃ c, (S.ob t).owes = c := ⟨_, rfl⟩
  rw [hc] at h0
  obtain ⟨hct, hco⟩ := h.ok.eii.a t c ht hc (by omega)
  have hc4 : (S.ob c).state = 4 := (h.ok.eii.r c hct).2 (by rw [hco]; exact ht.1.1)
  have hcn := (h.ok.ei.none hct (blk_no1 (.inr (.inl hc4)))).2
  have hcb : bl c = false := by
    cases hb : bl c with
    | false => rfl
    | true => have := h.bl1 c hct hb; omega
  obtain ⟨S', hS'⟩ : ∃ S', ansS S t 0 = S' := ⟨_, rfl⟩
  have eK : ∀ x, (S'.ob x).kind = (S.ob x).kind := fun x => by
    rw [← hS']; unfold ansS; rw [hc, if_neg h0]; simp only [wakeS_kind, owingS_kind, owesS_kind]
  have eQ : ∀ x, (S'.ob x).queue = (S.ob x).queue := fun x => by
    rw [← hS']; unfold ansS; rw [hc, if_neg h0]; simp only [wakeS_queue, owingS_queue, owesS_queue]
  have eS : ∀ x, (S'.ob x).state = if x = c then 1 else (S.ob x).state := fun x => by
    rw [← hS']; unfold ansS; rw [hc, if_neg h0]; simp only [wakeS_state, owingS_state, owesS_state]
  have eW : ∀ x, x ≠ c → (S'.ob x).word = (S.ob x).word := fun x hx => by
    rw [← hS']; unfold ansS; rw [hc, if_neg h0]; simp only [wakeS_word, owingS_word, owesS_word]; rw [if_neg hx]
  have eT : ∀ x, (S'.ob x).wait = (S.ob x).wait := fun x => by
    rw [← hS']; unfold ansS; rw [hc, if_neg h0]; simp only [wakeS_wait, owingS_wait, owesS_wait]
  rw [hS'] at hok ⊢
  have hT := Thr_same eK
  refine ⟨hok, h.n7, fun x a b => (hT x).2 (h.thr x a b), fun x hx => h.thn x ((hT x).1 hx), ⟨h.ep.rng, by rw [eK]; exact h.ep.kind⟩, fun o ho => ?_, fun x hx => ?_, fun x hx hbx => ?_, fun x hx h3 => ?_, h.low, h.nd, ?_⟩
  · rw [eQ] at ho
    exact h.oq o ho
  · rw [eS]
    split
    · exact .inl rfl
    · exact h.st x ((hT x).1 hx)
  · rw [eS]
    split
    · exact .inr rfl
    · exact h.bl1 x ((hT x).1 hx) hbx
  · rw [eS] at h3
    split at h3
    · omega
    · exact h.bl3 x ((hT x).1 hx) h3
  · have hcl : coll S' bl n = coll S bl n := by
      unfold coll
      refine (sel_same n (fun x _ _ => ?_)).symm
      by_cases e : x = c
      · rw [e, hcb]
        exact ⟨rfl, fun z => by simp at z⟩
      · rw [eS, eW x e, if_neg e]
        exact ⟨rfl, fun _ => rfl⟩
    have hm : (S.ob ((n : Int) + 3)).queue.map (fun x => (S'.ob x).word) = (S.ob ((n : Int) + 3)).queue.map (fun x => (S.ob x).word) := List.map_congr_left (fun x hx => eW x (fun e => hcn _ (e ▸ hx)))
    have hp : pend S' ((n : Int) + 3) = pend S ((n : Int) + 3) := by
      unfold pend
      rw [eT, eQ, hm]
    rw [hp, hcl]
    exact h.perm
/-- how many wait for a reply -/
def repN (S : RSt) (n : Nat) : Nat := cnt (fun t => decide ((S.ob t).state = 4)) n
theorem EO.rep_no (h0 : (S.ob t).owes < 0) : repN (ansS S t 0) n = repN S n := by
  have e : ansS S t 0 = S := if_pos h0
  rw [e]
theorem EO.rep_yes (h : EO n S bl got sent i) (ht : S.Thr t) (h0 : ¬ (S.ob t).owes < 0) : repN S n = repN (ansS S t 0) n + 1 := by
  obtain ⟨c, hc⟩ : ∃ c, (S.ob t).owes = c := ⟨_, rfl⟩
  obtain ⟨hct, hco⟩ := h.ok.eii.a t c ht hc (by omega)
  have hc4 : (S.ob c).state = 4 := (h.ok.eii.r c hct).2 (by rw [hco]; exact ht.1.1)
  unfold repN
  refine cnt_add n (t := c) ?_ ?_ (fun x _ _ hx => ?_) hct.1.1 (h.thn c hct)
  · rw [ansS_owes h0, hc, if_pos rfl]
    rfl
  · rw [hc4]; rfl
  · rw [ansS_owes h0, hc, if_neg hx]
/-- who waits to send, or calls -/
def sendN (S : RSt) (n : Nat) : Nat := cnt (fun t => decide ((S.ob t).state = 2) || decide ((S.ob t).state = 6)) n
theorem EO.sendN (h : EO n S bl got sent i) : Go.Proofs.Ytgbcgcmcfklnjaa.sendN S n = (pend S ((n : Int) + 3)).length := by
  unfold Go.Proofs.Ytgbcgcmcfklnjaa.sendN
  rw [← sel_cnt (w := id)]
  have hw := h.ok.ei.wt _ h.ep.rng h.ep.kind
  by_cases h1 : (S.ob ((n : Int) + 3)).wait = 1
  · have hp : (sel (fun t => decide ((S.ob t).state = 2) || decide ((S.ob t).state = 6)) id n).Perm (S.ob ((n : Int) + 3)).queue := (List.perm_ext_iff_of_nodup (sel_nodup n) (h.ok.ei.qf.nd _)).2 fun x => by
      rw [sel_mem]
      constructor
      · rintro ⟨hx, hs⟩
        exact (h.blk_in (h.thr x hx.1 hx.2) (by simp at hs; unfold blk; omega)).1
      · intro hm
        have hx := h.ok.ei.thr hm
        have hf := h.ok.ei.fit _ x hm
        rw [h.ep.kind, h1] at hf
        unfold fits at hf
        exact ⟨⟨hx.1.1, h.thn x hx⟩, by simp; omega⟩
    unfold pend
    rw [if_pos h1, hp.length_eq, List.length_map]
  · have hp : sel (fun t => decide ((S.ob t).state = 2) || decide ((S.ob t).state = 6)) id n = [] := List.eq_nil_iff_forall_not_mem.2 fun x hx => by
      obtain ⟨hx, hs⟩ := (sel_mem n).1 hx
      have hs : (S.ob x).state = 2 ∨ (S.ob x).state = 6 := by simpa using hs
      have := (h.blk_in (h.thr x hx.1 hx.2) (by unfold blk; omega)).2
      unfold fits at this
      omega
    unfold pend
    rw [if_neg h1, hp]
theorem EO.all (h : EO n S bl got sent i) : (got ++ coll S bl n).length + Go.Proofs.Ytgbcgcmcfklnjaa.sendN S n = sent.length := by
  have := h.perm.length_eq
  rw [h.sendN, ← this]
  simp only [List.length_append]
  omega
theorem EO.once (h : EO n S bl got sent i) : (got ++ coll S bl n).Nodup ∧ ∀ x, x ∈ got ++ coll S bl n → x ∈ sent := by
  have hn := (h.perm.nodup_iff).2 h.nd
  constructor
  · refine List.Nodup.sublist ?_ hn
    rw [List.append_assoc]
    exact List.Sublist.append_left (List.sublist_append_right _ _) got
  · intro x hx
    refine h.perm.mem_iff.1 ?_
    rcases List.mem_append.1 hx with e | e
    · exact List.mem_append_left _ (List.mem_append_left _ e)
    · exact List.mem_append_right _ e
/-- does one of the first j receive -/
def recB (S : RSt) : Nat → Bool
  | 0 => false
  | j + 1 => recB S j || decide ((S.ob (j : Int)).state = 3)
theorem recB_ex : ∀ j : Nat, recB S j = true ↔ ∃ k : Int, (0 ≤ k ∧ k < j) ∧ (S.ob k).state = 3 := by
  intro j
  induction j with
  | zero => exact ⟨fun e => by simp [recB] at e, fun ⟨k, hk, _⟩ => by omega⟩
  | succ j ih =>
    unfold recB
    rw [Bool.or_eq_true, ih, decide_eq_true_eq]
    constructor
    · rintro (⟨k, hk, h⟩ | h)
      · exact ⟨k, ⟨hk.1, by omega⟩, h⟩
      · exact ⟨j, ⟨by omega, by omega⟩, h⟩
    · rintro ⟨k, hk, h⟩
      by_cases e : k = j
      · exact .inr (e ▸ h)
      · exact .inl ⟨k, ⟨hk.1, by omega⟩, h⟩
theorem EO.recB (h : EO n S bl got sent i) : sendA S ((n : Int) + 3) call = (!Go.Proofs.Ytgbcgcmcfklnjaa.recB S n || call) := by
  unfold sendA
  by_cases hw : (S.ob ((n : Int) + 3)).wait = 2
  · rw [if_pos hw, (recB_ex n).2 (h.recvs.2 hw)]
    rfl
  · rw [if_neg hw]
    have : Go.Proofs.Ytgbcgcmcfklnjaa.recB S n = false := by
      cases e : Go.Proofs.Ytgbcgcmcfklnjaa.recB S n with
      | false => rfl
      | true => exact absurd (h.recvs.1 ((recB_ex n).1 e)) hw
    rw [this]
    rfl
theorem coll_yes {j : Nat} (h : bl (j : Int) = true) (h1 : (S.ob (j : Int)).state = 1) : coll S bl (j + 1) = coll S bl j ++ [(S.ob (j : Int)).word] := by
  show sel _ _ j ++ _ = _
  rw [if_pos (by simp [h, h1])]
  rfl
theorem coll_no {j : Nat} (h : bl (j : Int) = false ∨ (S.ob (j : Int)).state ≠ 1) : coll S bl (j + 1) = coll S bl j := by
  show sel _ _ j ++ _ = _
  rw [if_neg (by rcases h with h | h <;> simp [h]), List.append_nil]
  rfl
theorem coll_len (S : RSt) (bl : Int → Bool) (j : Nat) : (coll S bl j).length ≤ j := sel_len j
theorem sendN_yes {j : Nat} (h : (S.ob (j : Int)).state = 2 ∨ (S.ob (j : Int)).state = 6) : Go.Proofs.Ytgbcgcmcfklnjaa.sendN S (j + 1) = Go.Proofs.Ytgbcgcmcfklnjaa.sendN S j + 1 := by
  show cnt _ j + _ = _
  rw [if_pos (by rcases h with h | h <;> simp [h])]
  rfl
theorem sendN_no {j : Nat} (h : (S.ob (j : Int)).state ≠ 2) (h6 : (S.ob (j : Int)).state ≠ 6) : Go.Proofs.Ytgbcgcmcfklnjaa.sendN S (j + 1) = Go.Proofs.Ytgbcgcmcfklnjaa.sendN S j := by
  show cnt _ j + _ = _
  rw [if_neg (by simp [h, h6])]
  rfl
theorem sendN_le (S : RSt) (j : Nat) : Go.Proofs.Ytgbcgcmcfklnjaa.sendN S j ≤ j := cnt_le j
/-- how often a number is in the first l of a list -/
theorem take_cnt {L : List Int} {l : Nat} {x y : Int} (h : L[l]? = some y) : (L.take (l + 1)).count x = (L.take l).count x + (if y = x then 1 else 0) := by
  rw [List.take_add_one, h, List.count_append]
  congr 1
  by_cases e : y = x
  · rw [if_pos e, e]; simp
  · rw [if_neg e]
    simp [e]
theorem once_cnt {L : List Int} {x : Int} (hn : L.Nodup) (h : x ∈ L) : L.count x = 1 := by rw [hn.count, if_pos h]
theorem nodup_ne {L : List Int} {l j : Nat} {x y : Int} (hn : L.Nodup) (hl : L[l]? = some y) (hj : L[j]? = some x) (hlj : l < j) : y ≠ x := fun e => by
  have h := (List.getElem?_inj (List.getElem?_eq_some_iff.1 hl).1 hn).1 (hl.trans (by rw [e]; exact hj.symm))
  omega
end
end Go.Proofs.Ytgbcgcmcfklnjaa
