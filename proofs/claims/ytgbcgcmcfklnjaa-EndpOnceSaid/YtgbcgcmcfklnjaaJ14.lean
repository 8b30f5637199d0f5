/- Package endp's calls on plain words that tell a sound state (layer 15). -/
import Derived.Test.YtgbcgcmcfklnjaaJ10
import Derived.Test.YtgbcgcmcfklnjaaEndR
import Derived.Test.YtgbcgcmcfklnjaaEndT
import Derived.Test.YtgbcgcmcfklnjaaEndOnceM
namespace Go.Proofs.Ytgbcgcmcfklnjaa
open Go.RowKit
abbrev pvw (g : Nat) : Value := .iface PwT (.slice (some ⟨g, 0, none⟩) 738 738)
section
variable {g : Nat} {w : World} {S : RSt} {ep t b n : Int}
theorem esend_is (hm : MemP g 738 UT w (wordsG S)) (h : Eok S) (he : EpAt S ep) (ht : S.Thr t) (h1 : (S.ob t).state = 1) (hn : b40 n) (hb : b40 b) (call : Bool) :
    Calls Try.prog 9 #[pvw g, .int .i64 ep, .int .i64 t, .int .i64 b, .int .i64 n, .bool call] w fun e w' => e = .returned (.tuple #[.bool (sendA S ep call), .nilIface]) ∧ MemP g 738 UT w' (wordsG (sendS S ep t b n call)) ∧ Only [g] w w' := by
  obtain ⟨L', h2, q⟩ := h.wok.esend h he ht h1 hn hb call
  exact (vsend_is (viewP g 738 738 UT) hm (by have := hn.2; omega) (by have := hb.2; omega) h2).mono fun e w' ⟨he, hm', ho⟩ => ⟨he, q.words ▸ hm', ho⟩
theorem erecv_bad (hm : MemP g 738 UT w (wordsG S)) (h : Eok S) (he : EpAt S ep) (ht : S.Thr t) (h1 : (S.ob t).state = 1) (h0 : 0 ≤ (S.ob t).owes) :
    Calls Try.prog 10 #[pvw g, .int .i64 ep, .int .i64 t] w fun e w' => e = .returned (.tuple #[replyV 0 0, .bool false, errV 10]) ∧ MemP g 738 UT w' (wordsG S) ∧ Only [g] w w' := by
  exact vrecv_is (viewP g 738 738 UT) hm (h.wok.erecv_bad h he ht h0)
theorem erecv_told (hm : MemP g 738 UT w (wordsG S)) (h : Eok S) (he : EpAt S ep) (ht : S.Thr t) (h1 : (S.ob t).state = 1) (h0 : ¬ 0 ≤ (S.ob t).owes) (h2 : (S.ob ep).wait = 1) :
    Calls Try.prog 10 #[pvw g, .int .i64 ep, .int .i64 t] w fun e w' => e = .returned (.tuple #[replyV (S.ob (headQ S ep)).word (S.ob (headQ S ep)).badge, .bool true, .nilIface]) ∧ MemP g 738 UT w' (wordsG (recvS S ep t)) ∧ Only [g] w w' := by
  obtain ⟨L', h3, q⟩ := h.wok.erecv_told h he ht h1 h0 h2
  exact (vrecv_is (viewP g 738 738 UT) hm h3).mono fun e w' ⟨he, hm', ho⟩ => ⟨he, q.words ▸ hm', ho⟩
theorem erecv_waits (hm : MemP g 738 UT w (wordsG S)) (h : Eok S) (he : EpAt S ep) (ht : S.Thr t) (h1 : (S.ob t).state = 1) (h0 : ¬ 0 ≤ (S.ob t).owes) (h2 : (S.ob ep).wait ≠ 1) :
    Calls Try.prog 10 #[pvw g, .int .i64 ep, .int .i64 t] w fun e w' => e = .returned (.tuple #[replyV 0 0, .bool false, .nilIface]) ∧ MemP g 738 UT w' (wordsG (recvS S ep t)) ∧ Only [g] w w' := by
  obtain ⟨L', h3, q⟩ := h.wok.erecv_waits h he ht h1 h0 h2
  exact (vrecv_is (viewP g 738 738 UT) hm h3).mono fun e w' ⟨he, hm', ho⟩ => ⟨he, q.words ▸ hm', ho⟩
theorem eans_is (hm : MemP g 738 UT w (wordsG S)) (h : Eok S) (ht : S.Thr t) (hn : b40 n) :
    Calls Try.prog 11 #[pvw g, .int .i64 t, .int .i64 n] w fun e w' => e = .returned (errV (if (S.ob t).owes < 0 then 10 else 0)) ∧ MemP g 738 UT w' (wordsG (ansS S t n)) ∧ Only [g] w w' := by
  obtain ⟨L', h2, q⟩ := h.wok.eans h ht hn
  exact (vans_is (viewP g 738 738 UT) hm (by have := hn.2; omega) h2).mono fun e w' ⟨he, hm', ho⟩ => ⟨he, q.words ▸ hm', ho⟩
theorem estate_is (hm : MemP g 738 UT w (wordsG S)) (h : Eok S) (ht : S.Thr t) :
    Calls Try.prog 8 #[pvw g, .int .i64 t] w fun e w' => e = .returned (.int .i64 (S.ob t).state) ∧ MemP g 738 UT w' (wordsG S) ∧ Only [g] w w' := by
  exact estt_is (viewP g 738 738 UT) hm (by rw [fieldP_plain, (h.wok.thr ht).1])
theorem eon_is (hm : MemP g 738 UT w (wordsG S)) (h : Eok S) (ht : S.Thr t) :
    Calls Try.prog 12 #[pvw g, .int .i64 t] w fun e w' => e = .returned (.tuple #[.int .i64 (if 0 ≤ (S.ob t).on then (S.ob t).on else 0), .bool (decide (0 ≤ (S.ob t).on))]) ∧ MemP g 738 UT w' (wordsG S) ∧ Only [g] w w' := by
  have hp := h.pr t ht
  have h1 := h.ei.one1 t ht
  have h2 : (S.ob t).on < 32 := by
    by_cases e : 0 ≤ (S.ob t).on
    · have hm := (h.ei.on t ht _ e).1 rfl
      have := (h.ei.qf.own _ (fun e => by rw [e] at hm; simp at hm)).1
      omega
    · omega
  have e : (eonQ t).run machP (wordsG S) = ((if 0 ≤ (S.ob t).on then (S.ob t).on else 0, decide (0 ≤ (S.ob t).on)), wordsG S) := by
    unfold eonQ
    rw [Vp.run_bind_is fieldP_plain, (h.wok.thr ht).2.2.2.1, Vp.run_ret, show ((S.ob t).prio + 256 * ((S.ob t).on + 1)) / 256 - 1 = (S.ob t).on by omega]
    by_cases e : 0 ≤ (S.ob t).on
    · rw [if_pos (objB_in ⟨e, h2⟩ ⟨by omega, by omega⟩), if_pos e, decide_eq_true e]
    · rw [if_neg (fun z => e (objB_yes.1 z).1), if_neg e, decide_eq_false e]
  exact eonq_is (viewP g 738 738 UT) hm e
end
end Go.Proofs.Ytgbcgcmcfklnjaa
/- The boot state is sound (layers 15 to 22), as mathematics. No dump is read here. -/
namespace Go.Proofs.Ytgbcgcmcfklnjaa
open Go.RowKit
theorem boot_cases (n : Nat) (o : Int) : ((0 ≤ o ∧ o < n) ∧ (bootS n).ob o = thrO n) ∨ (¬ (0 ≤ o ∧ o < n) ∧ ((bootS n).ob o).kind ≠ 5 ∧ ((bootS n).ob o).wait = 0 ∧ ((bootS n).ob o).word = 0) := by
  by_cases h : 0 ≤ o ∧ o < n
  · exact .inl ⟨h, bootS_thr n h.1 h.2⟩
  refine .inr ⟨h, ?_⟩
  have e3 : ∀ o : Int, ((boot3 n).ob o).wait = ((bootK n 8).ob o).wait ∧ ((boot3 n).ob o).word = ((bootK n 8).ob o).word ∧ ((boot3 n).ob o).kind = ((bootK n 8).ob o).kind := fun o => by
    show ((setF (setF (setF (bootK n 8).ob ((n : Nat) : Int) _) ((n + 1 : Nat) : Int) _) ((n + 1 : Nat) : Int) _ o)).wait = _ ∧ (setF (setF (setF (bootK n 8).ob ((n : Nat) : Int) _) ((n + 1 : Nat) : Int) _) ((n + 1 : Nat) : Int) _ o).word = _ ∧ (setF (setF (setF (bootK n 8).ob ((n : Nat) : Int) _) ((n + 1 : Nat) : Int) _) ((n + 1 : Nat) : Int) _ o).kind = _
    by_cases h1 : o = ((n + 1 : Nat) : Int)
    · rw [h1, setF_self]
      show (setF (setF (bootK n 8).ob ((n : Nat) : Int) _) ((n + 1 : Nat) : Int) _ ((n + 1 : Nat) : Int)).wait = _ ∧ (setF (setF (bootK n 8).ob ((n : Nat) : Int) _) ((n + 1 : Nat) : Int) _ ((n + 1 : Nat) : Int)).word = _ ∧ (setF (setF (bootK n 8).ob ((n : Nat) : Int) _) ((n + 1 : Nat) : Int) _ ((n + 1 : Nat) : Int)).kind = _
      rw [setF_self]
      show (setF (bootK n 8).ob ((n : Nat) : Int) _ ((n + 1 : Nat) : Int)).wait = _ ∧ (setF (bootK n 8).ob ((n : Nat) : Int) _ ((n + 1 : Nat) : Int)).word = _ ∧ (setF (bootK n 8).ob ((n : Nat) : Int) _ ((n + 1 : Nat) : Int)).kind = _
      rw [setF_ne (by omega)]
      exact ⟨rfl, rfl, rfl⟩
    · rw [setF_ne h1, setF_ne h1]
      by_cases h0 : o = ((n : Nat) : Int)
      · rw [h0, setF_self]; exact ⟨rfl, rfl, rfl⟩
      · rw [setF_ne h0]; exact ⟨rfl, rfl, rfl⟩
  have eb : ((bootK n 8).ob o).kind ≠ 5 ∧ ((bootK n 8).ob o).wait = 0 ∧ ((bootK n 8).ob o).word = 0 := by
    rw [bootK_ob]
    split
    · refine ⟨?_, rfl, rfl⟩
      show kindB _ ≠ 5
      unfold kindB
      split <;> decide
    · rw [bootT_ob, if_neg h]
      exact ⟨by decide, rfl, rfl⟩
  rw [bootS_ob]
  obtain ⟨q1, q2, q3⟩ := e3 o
  split
  · exact ⟨by show ((boot3 n).ob o).kind ≠ 5; rw [q3]; exact eb.1, by show ((boot3 n).ob o).wait = 0; rw [q1]; exact eb.2.1, by show ((boot3 n).ob o).word = 0; rw [q2]; exact eb.2.2⟩
  · exact ⟨by rw [q3]; exact eb.1, by rw [q1]; exact eb.2.1, by rw [q2]; exact eb.2.2⟩
section
variable {n : Nat} {t : Int}
theorem boot_thr (hn : n ≤ 7) : (bootS n).Thr t ↔ 0 ≤ t ∧ t < n := by
  unfold RSt.Thr
  rcases boot_cases n t with ⟨h, e⟩ | ⟨h, e, -⟩
  · rw [e]
    exact ⟨fun _ => h, fun _ => ⟨by omega, rfl⟩⟩
  · exact ⟨fun z => absurd z.2 e, fun z => absurd z h⟩
theorem boot_of (hn : n ≤ 7) (ht : (bootS n).Thr t) : (bootS n).ob t = thrO n := bootS_thr n ((boot_thr hn).1 ht).1 ((boot_thr hn).1 ht).2
theorem boot_qfit (hn : n ≤ 7) : (bootS n).QFit := by
  have hb := (boot_plainly hn).bare
  exact ⟨fun o ho => absurd (hb o) ho, fun o t ht => by rw [hb o] at ht; simp at ht, fun o => by rw [hb o]; exact List.nodup_nil, fun o p t ht => by rw [hb o] at ht; simp at ht⟩
theorem boot_eok (hn : n ≤ 7) : Eok (bootS n) := by
  have hb := (boot_plainly hn).bare
  refine ⟨boot_sok hn, ⟨boot_qfit hn, fun i hi o h0 => ?_, fun i hi => ?_, fun i hi => ?_, fun o t ht => by rw [hb o] at ht; simp at ht, fun o ho hk => ?_⟩, ⟨fun s c hs h1 h2 => ?_, fun c s hc h1 h2 => ?_, fun c hc => ?_, fun c hc => ?_⟩, fun t ht => ?_, fun t ht h3 => ?_⟩
  · rw [boot_of hn hi, hb o]
    exact ⟨fun e => by have e : (-1 : Int) = o := e; omega, fun e => by simp at e⟩
  · rw [boot_of hn hi]
    exact ⟨fun e => by have e : (0 : Int) ≤ -1 := e; omega, fun e => absurd e (blk_no1 (.inl rfl))⟩
  · rw [boot_of hn hi]; exact Int.le_refl _
  · have hw : ((bootS n).ob o).wait = 0 := by
      rcases boot_cases n o with ⟨h, e⟩ | ⟨h, -, e, -⟩
      · rw [e]; rfl
      · exact e
    rw [hb o, hw]
    exact ⟨⟨fun _ => rfl, fun _ => rfl⟩, by decide, by decide⟩
  · rw [boot_of hn hs] at h1
    have h1 : (-1 : Int) = c := h1
    omega
  · rw [boot_of hn hc] at h1
    have h1 : (-1 : Int) = s := h1
    omega
  · rw [boot_of hn hc]
    exact ⟨fun e => by have e : (1 : Int) = 4 := e; omega, fun e => by have e : (0 : Int) ≤ -1 := e; omega⟩
  · rw [boot_of hn hc]; exact ⟨Int.le_refl _, Int.le_refl _⟩
  · rw [boot_of hn ht]; exact ⟨by show (0 : Int) ≤ 0; omega, by show (0 : Int) ≤ 255; omega⟩
  · rw [boot_of hn ht] at h3
    have h3 : (1 : Int) = 3 := h3
    omega
theorem boot_ep (hn : n ≤ 7) : EpAt (bootS n) ((n : Int) + 3) := ⟨by omega, by rw [bootS_far n (by omega), if_pos (by omega), show (((n : Int) + 3) - (n : Int)).toNat = 3 by omega]; rfl⟩
theorem boot_eo (hn : n ≤ 7) : EO n (bootS n) (fun _ => false) [] [] 0 := by
  have hb := (boot_plainly hn).bare
  have hc : ∀ m : Nat, sel (fun t => false && decide (((bootS n).ob t).state = 1)) (fun t => ((bootS n).ob t).word) m = [] := fun m => by
    induction m with
    | zero => rfl
    | succ m ih =>
      show sel _ _ m ++ _ = []
      rw [ih]
      rfl
  refine ⟨boot_eok hn, hn, fun t a b => (boot_thr hn).2 ⟨a, b⟩, fun t ht => ((boot_thr hn).1 ht).2, boot_ep hn, fun o ho => absurd (hb o) ho, fun t ht => ?_, fun t ht e => by simp at e, fun t ht h3 => ?_, fun x hx => by simp at hx, List.nodup_nil, ?_⟩
  · rw [boot_of hn ht]; exact .inl rfl
  · rw [boot_of hn ht] at h3
    have h3 : (1 : Int) = 3 := h3
    omega
  · have e1 : pend (bootS n) ((n : Int) + 3) = [] := by
      unfold pend
      rw [hb]
      split <;> rfl
    have e2 : coll (bootS n) (fun _ => false) n = [] := hc n
    rw [e1, e2]
    exact List.Perm.refl _
end
end Go.Proofs.Ytgbcgcmcfklnjaa
