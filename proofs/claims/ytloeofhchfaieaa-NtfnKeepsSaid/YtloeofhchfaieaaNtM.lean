/- Notifications (layer 16): signalled, polled, waited for, on the document's state; a sound state stays sound; no bit gets lost; as mathematics. No dump is read here. -/
import Derived.Test.YtloeofhchfaieaaEpS
import Derived.Test.YtloeofhchfaieaaJ11
namespace Go.Proofs.Ytloeofhchfaieaa
open Go.RowKit
structure NtAt (S : RSt) (o : Int) : Prop where
  rng : 0 ≤ o ∧ o < 32
  kind : (S.ob o).kind = 4
def sigS (S : RSt) (o b : Int) : RSt := match (S.ob o).queue with
  | [] => wordS S o (orI (S.ob o).word b)
  | t :: _ => wakeS (popS S o) t b 0
def ntwS (S : RSt) (o t : Int) : RSt := if (S.ob o).word = 0 then blockS S o t 5 else wordS S o 0
section
variable {S : RSt} {o t b n w r : Int} {l : List Int}
theorem NtAt.zs (h : NtAt S o) : S.zs o := ⟨h.rng, .inr h.kind⟩
theorem sigS_nil (h : (S.ob o).queue = []) : sigS S o b = wordS S o (orI (S.ob o).word b) := by unfold sigS; rw [h]
theorem sigS_cons (h : (S.ob o).queue = t :: l) : sigS S o b = wakeS (popS S o) t b 0 := by unfold sigS; rw [h]
/-- a notification's word changes -/
theorem Eok.word (h : Eok S) (_ : NtAt S o) (hn : b40 n) : Eok (wordS S o n) := by
  have hk : ∀ i, ((wordS S o n).ob i).kind = (S.ob i).kind := fun i => by simp only [wordS_kind]
  have hT := Thr_same hk
  refine ⟨h.sok.wordS hn, ?_, ⟨fun s c hs h1 h2 => ?_, fun c s hc h1 h2 => ?_, fun c hc => ?_, fun c hc => ?_⟩, fun t ht => ?_, fun t ht h3 => ?_⟩
  · refine h.ei.quiet hk (fun i => ?_) (fun i hi => ?_) (fun i hi => ?_) (fun i _ => ?_) (fun i _ hb => ?_)
    · simp only [wordS_queue]
    · simp only [wordS_on]
    · simp only [wordS_state]
      exact .inl trivial
    · simp only [wordS_wait]
    · simp only [wordS_owing]
  · simp only [wordS_owing, wordS_owes] at h1 ⊢
    obtain ⟨q1, q2⟩ := h.eii.a s c ((hT s).1 hs) h1 h2
    exact ⟨(hT c).2 q1, q2⟩
  · simp only [wordS_owing, wordS_owes] at h1 ⊢
    obtain ⟨q1, q2⟩ := h.eii.b c s ((hT c).1 hc) h1 h2
    exact ⟨(hT s).2 q1, q2⟩
  · simp only [wordS_state, wordS_owing]
    exact h.eii.r c ((hT c).1 hc)
  · simp only [wordS_owing, wordS_owes]
    exact h.eii.lo c ((hT c).1 hc)
  · simp only [wordS_prio]
    exact h.pr t ((hT t).1 ht)
  · simp only [wordS_state, wordS_owes] at h3 ⊢
    exact h.rv t ((hT t).1 ht) h3
/-- one that waits for a notification is woken -/
theorem Eok.wakeN (h : Eok S) (he : NtAt S o) (hq : (S.ob o).queue = r :: l) (hw : b40 w) (hb : b40 b) : Eok (wakeS (popS S o) r w b) := by
  have hr : S.Thr r := h.ei.thr (o := o) (by rw [hq]; simp)
  have hri := h.ei.qf.mem o r (by rw [hq]; simp)
  have hk : ∀ i, ((wakeS (popS S o) r w b).ob i).kind = (S.ob i).kind := fun i => by simp only [wakeS_kind, popS_kind]
  have hT := Thr_same hk
  refine ⟨(h.sok.popS).wakeS hw hb, ?_, ⟨fun s c hs h1 h2 => ?_, fun c s hc h1 h2 => ?_, fun c hc => ?_, fun c hc => ?_⟩, fun t ht => ?_, fun t ht h3 => ?_⟩
  · refine h.ei.unblock (o := o) (p := []) (r := r) (b := l) hk hq ?_ (fun i hi => ?_) ?_ (fun i _ hi => ?_) ?_ (fun i _ hi => ?_) (fun h3 => ?_) (fun i _ hi => ?_) (fun i _ hi _ => ?_)
    · simp only [wakeS_queue, popS_queue]
      rw [if_pos trivial, hq]
      rfl
    · simp only [wakeS_queue, popS_queue]
      rw [if_neg hi]
    · simp only [wakeS_on, popS_on]
      rw [if_pos trivial]
    · simp only [wakeS_on, popS_on]
      rw [if_neg hi]
    · simp only [wakeS_state, popS_state]
      rw [if_pos trivial]
      exact blk_no1 (.inl rfl)
    · simp only [wakeS_state, popS_state]
      rw [if_neg hi]
      exact .inl rfl
    · have := he.kind; omega
    · simp only [wakeS_wait, popS_wait]
    · simp only [wakeS_owing, popS_owing]
  · simp only [wakeS_owing, wakeS_owes, popS_owing, popS_owes] at h1 ⊢
    obtain ⟨q1, q2⟩ := h.eii.a s c ((hT s).1 hs) h1 h2
    exact ⟨(hT c).2 q1, q2⟩
  · simp only [wakeS_owing, wakeS_owes, popS_owing, popS_owes] at h1 ⊢
    obtain ⟨q1, q2⟩ := h.eii.b c s ((hT c).1 hc) h1 h2
    exact ⟨(hT s).2 q1, q2⟩
  · have hc' := (hT c).1 hc
    simp only [wakeS_state, wakeS_owing, popS_state, popS_owing]
    by_cases e : c = r
    · rw [if_pos e, e, hri.2.2]
      omega
    · rw [if_neg e]
      exact h.eii.r c hc'
  · simp only [wakeS_owing, wakeS_owes, popS_owing, popS_owes]
    exact h.eii.lo c ((hT c).1 hc)
  · simp only [wakeS_prio, popS_prio]
    exact h.pr t ((hT t).1 ht)
  · simp only [wakeS_state, wakeS_owes, popS_state, popS_owes] at h3 ⊢
    by_cases e : t = r
    · rw [if_pos e] at h3; omega
    · rw [if_neg e] at h3
      exact h.rv t ((hT t).1 ht) h3
theorem Eok.sig (h : Eok S) (ho : NtAt S o) (hb : 0 ≤ b ∧ b < 65536) (hw : (S.ob o).word < 65536) : Eok (sigS S o b) := by
  cases hq : (S.ob o).queue with
  | nil =>
    rw [sigS_nil hq]
    have hf := h.sok.obs o.toNat (by have := ho.rng; omega)
    rw [show ((o.toNat : Nat) : Int) = o by have := ho.rng; omega] at hf
    have hr := orI_rng ⟨hf.word.1, hw⟩ hb
    exact h.word ho ⟨hr.1, by omega⟩
  | cons t l =>
    rw [sigS_cons hq]
    exact h.wakeN ho hq ⟨hb.1, by omega⟩ ⟨by decide, by decide⟩
theorem Eok.ntw (h : Eok S) (ho : NtAt S o) (ht : S.Thr t) (h1 : (S.ob t).state = 1) : Eok (ntwS S o t) := by
  unfold ntwS
  split
  · have hf := h.sok.obs t.toNat (by have := ht.1; omega)
    rw [show ((t.toNat : Nat) : Int) = t by have := ht.1; omega] at hf
    have hg := h.sok.obs o.toNat (by have := ho.rng; omega)
    rw [show ((o.toNat : Nat) : Int) = o by have := ho.rng; omega] at hg
    have q := h.blockQ (n := 5) (c := (S.ob o).wait) ho.zs ht h1 ⟨by decide, by decide⟩ hf.word hf.badge hg.wait (.inr ⟨ho.kind, rfl⟩) (fun _ => .inr rfl) (fun e => by omega)
    have hte : t ≠ o := fun e => by have := ht.2; rw [e, ho.kind] at this; omega
    have e : waitS (saidS (blockS S o t 5) t (S.ob t).word (S.ob t).badge) o (S.ob o).wait = blockS S o t 5 := by
      refine RSt.ext' rfl rfl rfl (fun i => ?_) rfl rfl
      simp only [waitS, saidS, blockS, onS, pushS, upO_at]
      by_cases c1 : i = t
      · subst c1
        simp [hte]
      · by_cases c2 : i = o
        · subst c2
          simp [c1]
        · simp [c1, c2]
    rw [e] at q
    exact q
  · exact h.word ho ⟨by decide, by decide⟩
end
/-- no bit gets lost: what was signalled is what was told, and what the word has -/
structure KP (n : Nat) (S : RSt) (i o : Int) : Prop where
  ok : Eok S
  n7 : n ≤ 7
  thr : ∀ t : Int, 0 ≤ t → t < n → S.Thr t
  thn : ∀ t : Int, S.Thr t → t < n
  nt : NtAt S ((n : Int) + 4)
  oq : ∀ x : Int, (S.ob x).queue ≠ [] → x = (n : Int) + 4
  st : ∀ t : Int, S.Thr t → (S.ob t).state = 1 ∨ (S.ob t).state = 5
  hw : 0 ≤ (S.ob ((n : Int) + 4)).word ∧ (S.ob ((n : Int) + 4)).word < 65536
  hi : 0 ≤ i ∧ i < 65536
  ho : 0 ≤ o ∧ o < 65536
  eq : i = orI o (S.ob ((n : Int) + 4)).word
section
variable {n : Nat} {S : RSt} {i o b t : Int}
/-- polled -/
theorem KP.poll (h : KP n S i o) : KP n (wordS S ((n : Int) + 4) 0) i (orI o (S.ob ((n : Int) + 4)).word) := by
  have hk : ∀ x, ((wordS S ((n : Int) + 4) 0).ob x).kind = (S.ob x).kind := fun x => by simp only [wordS_kind]
  have hT := Thr_same hk
  have hw : ((wordS S ((n : Int) + 4) 0).ob ((n : Int) + 4)).word = 0 := by rw [wordS_word, if_pos rfl]
  refine ⟨h.ok.word h.nt ⟨by decide, by decide⟩, h.n7, fun t a b => (hT t).2 (h.thr t a b), fun t ht => h.thn t ((hT t).1 ht), ⟨h.nt.rng, by rw [hk]; exact h.nt.kind⟩, fun x hx => h.oq x (by rw [wordS_queue] at hx; exact hx), fun t ht => by rw [wordS_state]; exact h.st t ((hT t).1 ht),
    by rw [hw]; decide, h.hi, orI_rng h.ho h.hw, ?_⟩
  rw [hw, orI_zero (orI_rng h.ho h.hw).1]
  exact h.eq
/-- waits: blocked -/
theorem KP.wait (h : KP n S i o) (ht : S.Thr t) (h1 : (S.ob t).state = 1) (hw : (S.ob ((n : Int) + 4)).word = 0) : KP n (ntwS S ((n : Int) + 4) t) i o := by
  have hok := h.ok.ntw h.nt ht h1
  have e : ntwS S ((n : Int) + 4) t = blockS S ((n : Int) + 4) t 5 := if_pos hw
  rw [e] at hok ⊢
  have hk : ∀ x, ((blockS S ((n : Int) + 4) t 5).ob x).kind = (S.ob x).kind := fun x => by simp only [blockS, onS_kind, pushS_kind]
  have hT := Thr_same hk
  have ew : ∀ x, ((blockS S ((n : Int) + 4) t 5).ob x).word = (S.ob x).word := fun x => by simp only [blockS, onS_word, pushS_word]
  refine ⟨hok, h.n7, fun t a b => (hT t).2 (h.thr t a b), fun t ht => h.thn t ((hT t).1 ht), ⟨h.nt.rng, by rw [hk]; exact h.nt.kind⟩, fun x hx => ?_, fun x hx => ?_, by rw [ew]; exact h.hw, h.hi, h.ho, by rw [ew]; exact h.eq⟩
  · have e2 : ((blockS S ((n : Int) + 4) t 5).ob x).queue = if x = (n : Int) + 4 then (S.ob ((n : Int) + 4)).queue ++ [t] else (S.ob x).queue := by simp only [blockS, onS_queue, pushS_queue]
    rw [e2] at hx
    split at hx
    · next e => exact e
    · exact h.oq x hx
  · have e2 : ((blockS S ((n : Int) + 4) t 5).ob x).state = if x = t then 5 else (S.ob x).state := by simp only [blockS, onS_state, pushS_state]
    rw [e2]
    split
    · exact .inr rfl
    · exact h.st x ((hT x).1 hx)
/-- signalled: the word has it -/
theorem KP.sig (h : KP n S i o) (hb : 0 ≤ b ∧ b < 65536) (hq : (S.ob ((n : Int) + 4)).queue = []) : KP n (sigS S ((n : Int) + 4) b) (orI i b) o := by
  have hok := h.ok.sig h.nt hb h.hw.2
  rw [sigS_nil hq] at hok ⊢
  obtain ⟨v, hv⟩ : ∃ v, orI (S.ob ((n : Int) + 4)).word b = v := ⟨_, rfl⟩
  have hvr := orI_rng h.hw hb
  rw [hv] at hok hvr ⊢
  have hk : ∀ x, ((wordS S ((n : Int) + 4) v).ob x).kind = (S.ob x).kind := fun x => by simp only [wordS_kind]
  have hT := Thr_same hk
  have hw : ((wordS S ((n : Int) + 4) v).ob ((n : Int) + 4)).word = v := by rw [wordS_word, if_pos rfl]
  refine ⟨hok, h.n7, fun t a b => (hT t).2 (h.thr t a b), fun t ht => h.thn t ((hT t).1 ht), ⟨h.nt.rng, by rw [hk]; exact h.nt.kind⟩, fun x hx => h.oq x (by rw [wordS_queue] at hx; exact hx), fun t ht => by rw [wordS_state]; exact h.st t ((hT t).1 ht),
    by rw [hw]; exact hvr, orI_rng h.hi hb, h.ho, ?_⟩
  rw [hw, ← hv, h.eq, orI_assoc]
/-- signalled: the first one that waits is told -/
theorem KP.told (h : KP n S i o) (hb : 0 ≤ b ∧ b < 65536) {l : List Int} (hq : (S.ob ((n : Int) + 4)).queue = t :: l) : KP n (sigS S ((n : Int) + 4) b) (orI i b) (orI o b) ∧ S.Thr t ∧ (S.ob t).state = 5 ∧ ((sigS S ((n : Int) + 4) b).ob t).word = b ∧ ∀ x, ((sigS S ((n : Int) + 4) b).ob x).state = if x = t then 1 else (S.ob x).state := by
  have hok := h.ok.sig h.nt hb h.hw.2
  have hm : t ∈ (S.ob ((n : Int) + 4)).queue := by rw [hq]; simp
  have ht := h.ok.ei.thr hm
  have hf := h.ok.ei.fit _ t hm
  have hs5 : (S.ob t).state = 5 := by rw [h.nt.kind] at hf; unfold fits at hf; omega
  have hte : t ≠ (n : Int) + 4 := fun e => by have := ht.2; have h9 := h.nt.kind; rw [e] at this; omega
  rw [sigS_cons hq] at hok ⊢
  have hk : ∀ x, ((wakeS (popS S ((n : Int) + 4)) t b 0).ob x).kind = (S.ob x).kind := fun x => by simp only [wakeS_kind, popS_kind]
  have hT := Thr_same hk
  have es : ∀ x, ((wakeS (popS S ((n : Int) + 4)) t b 0).ob x).state = if x = t then 1 else (S.ob x).state := fun x => by simp only [wakeS_state, popS_state]
  have ew : ((wakeS (popS S ((n : Int) + 4)) t b 0).ob ((n : Int) + 4)).word = (S.ob ((n : Int) + 4)).word := by
    simp only [wakeS_word, popS_word]
    rw [if_neg (fun e => hte e.symm)]
  refine ⟨⟨hok, h.n7, fun t a b => (hT t).2 (h.thr t a b), fun t ht => h.thn t ((hT t).1 ht), ⟨h.nt.rng, by rw [hk]; exact h.nt.kind⟩, fun x hx => ?_, fun x hx => ?_, by rw [ew]; exact h.hw, orI_rng h.hi hb, orI_rng h.ho hb, ?_⟩, ht, hs5, ?_, es⟩
  · have e2 : ((wakeS (popS S ((n : Int) + 4)) t b 0).ob x).queue = if x = (n : Int) + 4 then (S.ob ((n : Int) + 4)).queue.tail else (S.ob x).queue := by simp only [wakeS_queue, popS_queue]
    rw [e2] at hx
    split at hx
    · next e => exact e
    · exact h.oq x hx
  · rw [es]
    split
    · exact .inl rfl
    · exact h.st x ((hT x).1 hx)
  · rw [ew, h.eq, orI_assoc, orI_assoc, orI_comm b]
  · simp only [wakeS_word, popS_word]
    rw [if_pos trivial]
end
end Go.Proofs.Ytloeofhchfaieaa
