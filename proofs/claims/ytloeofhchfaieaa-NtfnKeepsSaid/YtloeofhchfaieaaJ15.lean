/- 738 words of one's own, as they are made (layers 9 and up). -/
import Derived.Test.YtloeofhchfaieaaJ5
import Derived.Test.YtloeofhchfaieaaJ14
import Derived.Test.YtloeofhchfaieaaJ11
import Derived.Test.YtloeofhchfaieaaJ12
import Derived.Test.YtloeofhchfaieaaNtA
import Derived.Test.YtloeofhchfaieaaEpS
namespace Go.Proofs.Ytloeofhchfaieaa
open Go.RowKit
abbrev PwT : TypeId := 27
theorem MemP.blkG {g n : Nat} {w : World} {L : List Int} (h : MemP g n UT w L) : ∃ cur, Blk w g UT cur := by
  obtain ⟨cur, hb, -⟩ := h.row
  exact ⟨cur, hb⟩
end Go.Proofs.Ytloeofhchfaieaa
/- Package endp's calls on plain words that tell a sound state (layer 15). -/
namespace Go.Proofs.Ytloeofhchfaieaa
open Go.RowKit
abbrev pvw (g : Nat) : Value := .iface PwT (.slice (some ⟨g, 0, none⟩) 738 738)
section
variable {g : Nat} {w : World} {S : RSt} {ep t b n : Int}
theorem estate_is (hm : MemP g 738 UT w (wordsG S)) (h : Eok S) (ht : S.Thr t) :
    Calls Try.prog 17 #[pvw g, .int .i64 t] w fun e w' => e = .returned (.int .i64 (S.ob t).state) ∧ MemP g 738 UT w' (wordsG S) ∧ Only [g] w w' := by
  exact estt_is (viewP g 738 738 UT) hm (by rw [fieldP_plain, (h.wok.thr ht).1])
end
end Go.Proofs.Ytloeofhchfaieaa
/- Package ntfn's calls on plain words that tell a sound state (layer 16). -/
namespace Go.Proofs.Ytloeofhchfaieaa
open Go.RowKit
section
variable {g : Nat} {w : World} {S : RSt} {o t b : Int}
theorem nsignal_is (hm : MemP g 738 UT w (wordsG S)) (h : Eok S) (ho : NtAt S o) (hw : (S.ob o).word < 65536) (hb : 0 ≤ b ∧ b < 65536) :
    Calls Try.prog 9 #[pvw g, .int .i64 o, .int .i64 b] w fun e w' => e = .returned .nilIface ∧ MemP g 738 UT w' (wordsG (sigS S o b)) ∧ Only [g] w w' := by
  obtain ⟨L', h2, q⟩ := h.wok.nsig h ho hw hb
  exact (vnsig_is (viewP g 738 738 UT) hm hb h2).mono fun e w' ⟨he, hm', ho⟩ => ⟨he, q.words ▸ hm', ho⟩
theorem nsignal_bad (hm : MemP g 738 UT w (wordsG S)) (h : ¬ (0 ≤ o ∧ o < 32)) (b : Int) :
    Calls Try.prog 9 #[pvw g, .int .i64 o, .int .i64 b] w fun e w' => e = .returned (errV 2) ∧ MemP g 738 UT w' (wordsG S) ∧ Only [g] w w' := by
  refine nsig_none (viewP g 738 738 UT) hm ?_ b
  cases e : objB o 0 with
  | false => rfl
  | true => exact absurd ⟨(objB_yes.1 e).1, (objB_yes.1 e).2.1⟩ h
theorem nwait_told (hm : MemP g 738 UT w (wordsG S)) (h : Eok S) (ho : NtAt S o) (ht : S.Thr t) (hw : (S.ob o).word ≠ 0) :
    Calls Try.prog 12 #[pvw g, .int .i64 o, .int .i64 t] w fun e w' => e = .returned (.tuple #[replyV (S.ob o).word 0, .bool true, .nilIface]) ∧ MemP g 738 UT w' (wordsG (ntwS S o t)) ∧ Only [g] w w' := by
  obtain ⟨L', h2, q⟩ := h.wok.nwait_told ho ht hw
  exact (vnwait_is (viewP g 738 738 UT) hm h2).mono fun e w' ⟨he, hm', ho⟩ => ⟨he, q.words ▸ hm', ho⟩
theorem nwait_blocks (hm : MemP g 738 UT w (wordsG S)) (h : Eok S) (ho : NtAt S o) (ht : S.Thr t) (h1 : (S.ob t).state = 1) (hw : (S.ob o).word = 0) :
    Calls Try.prog 12 #[pvw g, .int .i64 o, .int .i64 t] w fun e w' => e = .returned (.tuple #[replyV 0 0, .bool false, .nilIface]) ∧ MemP g 738 UT w' (wordsG (ntwS S o t)) ∧ Only [g] w w' := by
  obtain ⟨L', h2, q⟩ := h.wok.nwait_blocks h ho ht h1 hw
  exact (vnwait_is (viewP g 738 738 UT) hm h2).mono fun e w' ⟨he, hm', ho⟩ => ⟨he, q.words ▸ hm', ho⟩
theorem nwait_bad (hm : MemP g 738 UT w (wordsG S)) (h : ¬ (0 ≤ o ∧ o < 32) ∨ ¬ (0 ≤ t ∧ t < 32)) :
    Calls Try.prog 12 #[pvw g, .int .i64 o, .int .i64 t] w fun e w' => e = .returned (.tuple #[replyV 0 0, .bool false, errV 2]) ∧ MemP g 738 UT w' (wordsG S) ∧ Only [g] w w' :=
  vnwait_is (viewP g 738 738 UT) hm (nwait_no h)
theorem npoll_is (hm : MemP g 738 UT w (wordsG S)) (h : Eok S) (ho : NtAt S o) :
    Calls Try.prog 14 #[pvw g, .int .i64 o] w fun e w' => e = .returned (.tuple #[replyV (S.ob o).word 0, .nilIface]) ∧ MemP g 738 UT w' (wordsG (wordS S o 0)) ∧ Only [g] w w' := by
  obtain ⟨L', h2, q⟩ := h.wok.npoll ho
  exact (vnpoll_is (viewP g 738 738 UT) hm h2).mono fun e w' ⟨he, hm', ho⟩ => ⟨he, q.words ▸ hm', ho⟩
theorem npoll_bad (hm : MemP g 738 UT w (wordsG S)) (h : ¬ (0 ≤ o ∧ o < 32)) :
    Calls Try.prog 14 #[pvw g, .int .i64 o] w fun e w' => e = .returned (.tuple #[replyV 0 0, errV 2]) ∧ MemP g 738 UT w' (wordsG S) ∧ Only [g] w w' :=
  vnpoll_is (viewP g 738 738 UT) hm (npoll_no h)
end
end Go.Proofs.Ytloeofhchfaieaa
/- The boot state is sound (layers 15 to 22), as mathematics. No dump is read here. -/
namespace Go.Proofs.Ytloeofhchfaieaa
open Go.RowKit
theorem boot_cases (n : Nat) (o : Int) : ((0 ≤ o ∧ o < n) ∧ (bootS n).ob o = thrO n) ∨ (¬ (0 ≤ o ∧ o < n) ∧ ((bootS n).ob o).kind ≠ 5 ∧ ((bootS n).ob o).wait = 0 ∧ ((bootS n).ob o).word = 0) := by
  by_cases h : 0 ≤ o ∧ o < n
  · exact .inl ⟨h, bootS_thr n h.1 h.2⟩
  refine .inr ⟨h, ?_⟩
  have e3 : ∀ o : Int, ((boot3 n).ob o).wait = ((bootK n 8).ob o).wait ∧ ((boot3 n).ob o).word = ((bootK n 8).ob o).word ∧ ((boot3 n).ob o).kind = ((bootK n 8).ob o).kind := fun o => by
    show ((setF (setF (setF (bootK n 8).ob ((n : Nat) : Int) _) ((n + 1 : Nat) : Int) _) ((n + 1 : Nat) : Int) _ o)).wait = _ ∧ (setF (setF (setF (bootK n 8).ob ((n : Nat) : Int) _) ((n + 1 : Nat) : Int) _) ((n + 1 : Nat) : Int) _ o).word = _ ∧ (setF (setF (setF (bootK n 8).ob ((n : Nat) : Int) _) ((n + 1 : Nat) : Int) _) ((n + 1 : Nat) : Int) _ o).kind = _
    by_cases h1 : o = ((n + 1 : Nat) : Int)
    · rw [h1, setF_self]
      show (setF (setF (bootK n 8).ob ((n : Nat) : Int) _) ((n + 1 : Nat) : Int) _ ((n + 1 : Nat) : Int)).wait = _ ∧ (setF (setF (bootK n 8).ob ((n : Nat) : Int) _) ((n + 1 : Nat) : Int) _ ((n + 1 : Nat) : Int)).word = _ ∧ (setF (setF (bootK n 8).ob ((n : Nat) : Int) _) ((n + 1 : Nat) : Int) _ ((n + 1 : Nat) : Int)).kind = _
      rw [setF_self]
      show (setF (bootK n 8).ob ((n : Nat) : Int) _ ((n + 1 : Nat) : Int)).wait = _ ∧ (setF (bootK n 8).ob ((n : Nat) : Int) _ ((n + 1 : Nat) : Int)).word = _ ∧ (setF (bootK n 8).ob ((n : Nat) : Int) _ ((n + 1 : Nat) : Int)).kind = _
      rw [setF_ne (by omega)]
      exact ⟨rfl, rfl, rfl⟩
    · rw [setF_ne h1, setF_ne h1]
      by_cases h0 : o = ((n : Nat) : Int)
      · rw [h0, setF_self]; exact ⟨rfl, rfl, rfl⟩
      · rw [setF_ne h0]; exact ⟨rfl, rfl, rfl⟩
  have eb : ((bootK n 8).ob o).kind ≠ 5 ∧ ((bootK n 8).ob o).wait = 0 ∧ ((bootK n 8).ob o).word = 0 := by
    rw [bootK_ob]
    split
    · refine ⟨?_, rfl, rfl⟩
      show kindB _ ≠ 5
      unfold kindB
      split <;> decide
    · rw [bootT_ob, if_neg h]
      exact ⟨by decide, rfl, rfl⟩
  rw [bootS_ob]
  obtain ⟨q1, q2, q3⟩ := e3 o
  split
  · exact ⟨by show ((boot3 n).ob o).kind ≠ 5; rw [q3]; exact eb.1, by show ((boot3 n).ob o).wait = 0; rw [q1]; exact eb.2.1, by show ((boot3 n).ob o).word = 0; rw [q2]; exact eb.2.2⟩
  · exact ⟨by rw [q3]; exact eb.1, by rw [q1]; exact eb.2.1, by rw [q2]; exact eb.2.2⟩
section
variable {n : Nat} {t : Int}
theorem boot_thr (hn : n ≤ 7) : (bootS n).Thr t ↔ 0 ≤ t ∧ t < n := by
  unfold RSt.Thr
  rcases boot_cases n t with ⟨h, e⟩ | ⟨h, e, -⟩
  · rw [e]
    exact ⟨fun _ => h, fun _ => ⟨by omega, rfl⟩⟩
  · exact ⟨fun z => absurd z.2 e, fun z => absurd z h⟩
theorem boot_of (hn : n ≤ 7) (ht : (bootS n).Thr t) : (bootS n).ob t = thrO n := bootS_thr n ((boot_thr hn).1 ht).1 ((boot_thr hn).1 ht).2
theorem boot_qfit (hn : n ≤ 7) : (bootS n).QFit := by
  have hb := (boot_plainly hn).bare
  exact ⟨fun o ho => absurd (hb o) ho, fun o t ht => by rw [hb o] at ht; simp at ht, fun o => by rw [hb o]; exact List.nodup_nil, fun o p t ht => by rw [hb o] at ht; simp at ht⟩
theorem boot_eok (hn : n ≤ 7) : Eok (bootS n) := by
  have hb := (boot_plainly hn).bare
  refine ⟨boot_sok hn, ⟨boot_qfit hn, fun i hi o h0 => ?_, fun i hi => ?_, fun i hi => ?_, fun o t ht => by rw [hb o] at ht; simp at ht, fun o ho hk => ?_⟩, ⟨fun s c hs h1 h2 => ?_, fun c s hc h1 h2 => ?_, fun c hc => ?_, fun c hc => ?_⟩, fun t ht => ?_, fun t ht h3 => ?_⟩
  · rw [boot_of hn hi, hb o]
    exact ⟨fun e => by have e : (-1 : Int) = o := e; omega, fun e => by simp at e⟩
  · rw [boot_of hn hi]
    exact ⟨fun e => by have e : (0 : Int) ≤ -1 := e; omega, fun e => absurd e (blk_no1 (.inl rfl))⟩
  · rw [boot_of hn hi]; exact Int.le_refl _
  · have hw : ((bootS n).ob o).wait = 0 := by
      rcases boot_cases n o with ⟨h, e⟩ | ⟨h, -, e, -⟩
      · rw [e]; rfl
      · exact e
    rw [hb o, hw]
    exact ⟨⟨fun _ => rfl, fun _ => rfl⟩, by decide, by decide⟩
  · rw [boot_of hn hs] at h1
    have h1 : (-1 : Int) = c := h1
    omega
  · rw [boot_of hn hc] at h1
    have h1 : (-1 : Int) = s := h1
    omega
  · rw [boot_of hn hc]
    exact ⟨fun e => by have e : (1 : Int) = 4 := e; omega, fun e => by have e : (0 : Int) ≤ -1 := e; omega⟩
  · rw [boot_of hn hc]; exact ⟨Int.le_refl _, Int.le_refl _⟩
  · rw [boot_of hn ht]; exact ⟨by show (0 : Int) ≤ 0; omega, by show (0 : Int) ≤ 255; omega⟩
  · rw [boot_of hn ht] at h3
    have h3 : (1 : Int) = 3 := h3
    omega
end
end Go.Proofs.Ytloeofhchfaieaa
