/- Package ntfn's functions as mathematics, of any view; bits of numbers of 64 bits together (layers 16 and up). No dump is read here. -/
import Derived.Test.YtloeofhchfaieaaJ10
import Derived.Test.YtloeofhchfaieaaJ11
import Derived.Laws.Bits64b
import Derived.Test.YtloeofhchfaieaaNtM
import Derived.Test.YtloeofhchfaieaaJ5
import Derived.Test.YtloeofhchfaieaaJ2
namespace Go.Proofs.Ytloeofhchfaieaa
open Go.RowKit
def ntakeP (o : Int) : Vp Int := (fieldP o 1).bind fun n => (putP o 1 0).bind fun _ => .ret n
/-- the error -/
def nsigP (o b : Int) : Vp Int :=
  if objB o 0 = true then
    (qpopP o).bind fun r => if r.2 = true then (ewakeP r.1 b 0).bind fun _ => .ret 0 else (fieldP o 1).bind fun n => (putP o 1 (orI n b)).bind fun _ => .ret 0
  else .ret 2
/-- word, whether, the error -/
def nwaitP (o t : Int) : Vp (Int × Bool × Int) :=
  if objB o 0 = true ∧ objB t 0 = true then
    (fieldP o 1).bind fun n => if n = 0 then (eblockP o t 5).bind fun _ => .ret (0, false, 0) else (ntakeP o).bind fun n => .ret (n, true, 0)
  else .ret (0, false, 2)
/-- word, the error -/
def npollP (o : Int) : Vp (Int × Int) := if objB o 0 = true then (ntakeP o).bind fun n => .ret (n, 0) else .ret (0, 2)
section
variable {x b : Int}
theorem wrap_small (h0 : 0 ≤ x) (h1 : x < 9223372036854775808) : IntKind.i64.wrap x = x := by rw [IntKind.wrap_i64]; omega
theorem ofInt_small (h0 : 0 ≤ x) (h1 : x < 9223372036854775808) : (BitVec.ofInt IntKind.i64.bits x).toNat = x.toNat := by
  obtain ⟨n, rfl⟩ : ∃ n : Nat, x = n := ⟨x.toNat, by omega⟩
  show (BitVec.ofInt 64 (n : Int)).toNat = _
  rw [BitVec.ofInt_natCast, BitVec.toNat_ofNat, Int.toNat_natCast]
  exact Nat.mod_eq_of_lt (by omega)
/-- a badge has 16 bits -/
theorem bits_badge (h0 : 0 ≤ b) (h1 : b < 65536) : bits .and .i64 b 65535 = b := by
  have e : (BitVec.ofInt IntKind.i64.bits b &&& BitVec.ofInt IntKind.i64.bits 65535).toNat = b.toNat := by
    rw [BitVec.toNat_and, ofInt_small h0 (by omega), ofInt_small (by decide) (by decide), show (65535 : Int).toNat = 2 ^ 16 - 1 from rfl, Nat.and_two_pow_sub_one_eq_mod]
    exact Nat.mod_eq_of_lt (by omega)
  show IntKind.i64.wrap ((BitVec.ofInt IntKind.i64.bits b &&& BitVec.ofInt IntKind.i64.bits 65535).toNat : Int) = _
  rw [e, wrap_small (by omega) (by omega)]
  omega
theorem bits_orI (h0 : 0 ≤ x) (h1 : x < 9223372036854775808) (b0 : 0 ≤ b) (b1 : b < 9223372036854775808) : bits .or .i64 x b = orI x b := by
  have hx : x.toNat ||| b.toNat < 2 ^ 63 := Nat.or_lt_two_pow (by omega) (by omega)
  have e : (BitVec.ofInt IntKind.i64.bits x ||| BitVec.ofInt IntKind.i64.bits b).toNat = x.toNat ||| b.toNat := by
    rw [BitVec.toNat_or, ofInt_small h0 h1, ofInt_small b0 b1]
  show IntKind.i64.wrap ((BitVec.ofInt IntKind.i64.bits x ||| BitVec.ofInt IntKind.i64.bits b).toNat : Int) = _
  rw [e, wrap_small (by omega) (by omega)]
  rfl
theorem orI_top (h0 : 0 ≤ x) (h1 : x ≤ 4611686018427387904) (b0 : 0 ≤ b) (b1 : b < 65536) : 0 ≤ orI x b ∧ orI x b < 9223372036854775808 := by
  unfold orI
  have : x.toNat ||| b.toNat < 2 ^ 63 := Nat.or_lt_two_pow (by omega) (by omega)
  omega
end
end Go.Proofs.Ytloeofhchfaieaa
/- What Signal, Wait, Poll of package ntfn come to on words that tell a sound state (layers 16, 19, 21), as mathematics. No dump is read here. -/
namespace Go.Proofs.Ytloeofhchfaieaa
open Go.RowKit
section
variable {L L' : List Int} {S : RSt} {o t b : Int}
theorem Wok.nsig (hw : Wok L S) (h : Eok S) (ho : NtAt S o) (hwd : (S.ob o).word < 65536) (hb : 0 ≤ b ∧ b < 65536) : ∃ L', (nsigP o b).run machP L = (0, L') ∧ Wok L' (sigS S o b) := by
  have ho1 : objB o 0 = true := objB_in ho.rng ⟨by omega, by omega⟩
  unfold nsigP
  rw [if_pos ho1]
  cases hq : (S.ob o).queue with
  | nil =>
    rw [sigS_nil hq, Vp.run_bind_is (hw.popN ho.zs hq), if_neg (by simp), Vp.run_bind_is fieldP_plain, hw.wordL ho.rng ho.kind]
    have hf := h.sok.obs o.toNat (by have := ho.rng; omega)
    rw [show ((o.toNat : Nat) : Int) = o by have := ho.rng; omega] at hf
    have hr := orI_rng ⟨hf.word.1, hwd⟩ hb
    rw [Vp.run_bind_is putP_plain]
    exact ⟨_, rfl, hw.putNt ho.rng ho.kind ⟨hr.1, by omega⟩⟩
  | cons r l =>
    rw [sigS_cons hq]
    obtain ⟨L1, e1, q1⟩ := hw.popQ ho.zs hq
    rw [Vp.run_bind_is e1, if_pos rfl]
    have hm : r ∈ (S.ob o).queue := by rw [hq]; simp
    have hr := h.ei.thr hm
    have hf := h.ei.fit o r hm
    rw [ho.kind] at hf
    have hs5 : (S.ob r).state = 5 := by unfold fits at hf; omega
    have hk : ∀ i, ((popS S o).ob i).kind = (S.ob i).kind := fun i => popS_kind ..
    obtain ⟨L2, e2, q2⟩ := q1.ewake (t := r) ((Thr_same hk r).2 hr) (by rw [popS_prio]; exact h.pr r hr) (by rw [popS_state, hs5]; decide) (n := b) (b := 0) ⟨hb.1, by omega⟩ ⟨by decide, by decide⟩
    rw [Vp.run_bind_is e2]
    exact ⟨_, rfl, q2⟩
theorem Wok.ntake (hw : Wok L S) (ho : NtAt S o) : ∃ L', (ntakeP o).run machP L = ((S.ob o).word, L') ∧ Wok L' (wordS S o 0) := by
  unfold ntakeP
  rw [Vp.run_bind_is fieldP_plain, hw.wordL ho.rng ho.kind, Vp.run_bind_is putP_plain]
  exact ⟨_, rfl, hw.putNt ho.rng ho.kind ⟨by decide, by decide⟩⟩
theorem Wok.npoll (hw : Wok L S) (ho : NtAt S o) : ∃ L', (npollP o).run machP L = (((S.ob o).word, 0), L') ∧ Wok L' (wordS S o 0) := by
  obtain ⟨L1, e1, q1⟩ := hw.ntake ho
  unfold npollP
  rw [if_pos (objB_in ho.rng ⟨by omega, by omega⟩), Vp.run_bind_is e1]
  exact ⟨_, rfl, q1⟩
theorem npoll_no (h : ¬ (0 ≤ o ∧ o < 32)) : (npollP o).run machP L = ((0, 2), L) := by
  unfold npollP
  rw [if_neg (fun e => h ⟨(objB_yes.1 e).1, (objB_yes.1 e).2.1⟩), Vp.run_ret]
theorem Wok.nwait_told (hw : Wok L S) (ho : NtAt S o) (ht : S.Thr t) (h0 : (S.ob o).word ≠ 0) : ∃ L', (nwaitP o t).run machP L = (((S.ob o).word, true, 0), L') ∧ Wok L' (ntwS S o t) := by
  obtain ⟨L1, e1, q1⟩ := hw.ntake ho
  unfold nwaitP ntwS
  rw [if_pos ⟨objB_in ho.rng ⟨by omega, by omega⟩, objB_in ht.1 ⟨by omega, by omega⟩⟩, Vp.run_bind_is fieldP_plain, hw.wordL ho.rng ho.kind, if_neg h0, if_neg h0, Vp.run_bind_is e1]
  exact ⟨_, rfl, q1⟩
theorem Wok.nwait_blocks (hw : Wok L S) (h : Eok S) (ho : NtAt S o) (ht : S.Thr t) (h1 : (S.ob t).state = 1) (h0 : (S.ob o).word = 0) : ∃ L', (nwaitP o t).run machP L = ((0, false, 0), L') ∧ Wok L' (ntwS S o t) := by
  have htn := h.ei.none ht (blk_no1 (.inl h1))
  have hto : (S.ob t).owing = -1 := by
    have e1 := (h.eii.lo t ht).1
    have e2 := h.eii.r t ht
    omega
  obtain ⟨L1, e1, q1⟩ := hw.eblock (o := o) (t := t) (n := 5) ho.zs ⟨ht.1, ht.2, hto⟩ htn.2 (h.pr t ht) ⟨by decide, by decide⟩
  unfold nwaitP ntwS
  rw [if_pos ⟨objB_in ho.rng ⟨by omega, by omega⟩, objB_in ht.1 ⟨by omega, by omega⟩⟩, Vp.run_bind_is fieldP_plain, hw.wordL ho.rng ho.kind, if_pos h0, if_pos h0, Vp.run_bind_is e1]
  exact ⟨_, rfl, q1⟩
theorem nwait_no (h : ¬ (0 ≤ o ∧ o < 32) ∨ ¬ (0 ≤ t ∧ t < 32)) : (nwaitP o t).run machP L = ((0, false, 2), L) := by
  unfold nwaitP
  rw [if_neg (fun e => h.elim (fun z => z ⟨(objB_yes.1 e.1).1, (objB_yes.1 e.1).2.1⟩) (fun z => z ⟨(objB_yes.1 e.2).1, (objB_yes.1 e.2).2.1⟩)), Vp.run_ret]
end
end Go.Proofs.Ytloeofhchfaieaa
/- What below of package lay answers (layer 9): whether a number is 0 to one less than another one. -/
namespace Go.Proofs.Ytloeofhchfaieaa
open Go.RowKit
theorem below_any (n m : Int) (w : World) : Calls Try.prog 41 #[.int .i64 n, .int .i64 m] w fun e w' => e = .returned (.bool (belowB n m)) ∧ w' = w := by
  go_enter Try.func41, Try.ntmps41
  go_wp2
  all_goals go_ret
  all_goals exact ⟨by simp [belowB, *] <;> omega, rfl⟩
theorem below_is {n m : Int} {q : Bool} (h : belowB n m = q) (w : World) : Calls Try.prog 41 #[.int .i64 n, .int .i64 m] w fun e w' => e = .returned (.bool q) ∧ w' = w := h ▸ below_any n m w
end Go.Proofs.Ytloeofhchfaieaa
/- What Obj of package lay answers (layer 9): an object's word. -/
namespace Go.Proofs.Ytloeofhchfaieaa
open Go.RowKit
theorem obj_any (i f : Int) (w : World) : Calls Try.prog 33 #[.int .i64 i, .int .i64 f] w fun e w' => e = .returned (.tuple #[.int .i64 (objI i f), .bool (objB i f)]) ∧ w' = w := by
  by_cases h1 : belowB i 32 = true
  · have hi := belowB_yes.1 h1
    by_cases h2 : belowB f 8 = true
    · have hf := belowB_yes.1 h2
      have hs : objB i f = true := objB_yes.2 ⟨hi.1, hi.2, hf.1, hf.2⟩
      rw [objI_yes hs, hs]
      have H1 := Lib.hid h1
      have H2 := Lib.hid h2
      clear h1 h2 hs
      go_enter Try.func33, Try.ntmps33
      go_wp2_with (go_at_call 41; (first | (with_reducible refine (below_is H1.out _).mono ?_) | (with_reducible refine (below_is H2.out _).mono ?_)); rintro e w' ⟨rfl, rfl⟩)
      go_ret2
      exact ⟨by go_num, rfl⟩
    · replace h2 : belowB f 8 = false := by simpa using h2
      have hs : objB i f = false := objB_no.2 (.inr (belowB_no.1 h2))
      rw [objI_no hs, hs]
      have H1 := Lib.hid h1
      have H2 := Lib.hid h2
      clear h1 h2 hs
      go_enter Try.func33, Try.ntmps33
      go_wp2_with (go_at_call 41; (first | (with_reducible refine (below_is H1.out _).mono ?_) | (with_reducible refine (below_is H2.out _).mono ?_)); rintro e w' ⟨rfl, rfl⟩)
      go_ret2
      exact ⟨rfl, rfl⟩
  · replace h1 : belowB i 32 = false := by simpa using h1
    have hs : objB i f = false := objB_no.2 (.inl (belowB_no.1 h1))
    rw [objI_no hs, hs]
    have H1 := Lib.hid h1
    clear h1 hs
    go_enter Try.func33, Try.ntmps33
    go_wp2_with (go_at_call 41; (with_reducible refine (below_is H1.out _).mono ?_); rintro e w' ⟨rfl, rfl⟩)
    go_ret2
    exact ⟨rfl, rfl⟩
theorem obj_is {i f x : Int} {q : Bool} (hx : objI i f = x) (h : objB i f = q) (w : World) : Calls Try.prog 33 #[.int .i64 i, .int .i64 f] w fun e w' => e = .returned (.tuple #[.int .i64 x, .bool q]) ∧ w' = w := hx ▸ h ▸ obj_any i f w
end Go.Proofs.Ytloeofhchfaieaa
/- What Field of package lay answers (layer 9), of any view: a field's number. -/
namespace Go.Proofs.Ytloeofhchfaieaa
open Go.RowKit
section
variable {σ : Type} {M : Mach σ} {T : TypeId} {v : Value} {fR fW : FuncId} {Mem : World → σ → Prop} {Ok : σ → Prop} {S R : List Nat} {w : World} {s : σ}
theorem field_any (V : VOk M T v fR fW Mem Ok S R) (hm : Mem w s) (o f : Int) :
    Calls Try.prog 25 #[.iface T v, .int .i64 o, .int .i64 f] w fun e w' => e = .returned (.int .i64 ((fieldP o f).run M s).1) ∧ Mem w' ((fieldP o f).run M s).2 ∧ Only S w w' := by
  have mR := V.mR
  have nR := V.nR
  have eR := V.eR
  unfold fieldP
  obtain ⟨a, ha⟩ : ∃ a, objI o f = a := ⟨_, rfl⟩
  cases hb : objB o f with
  | false =>
    have cO := Lib.hid (obj_is ha hb)
    clear hb ha
    go_enter Try.func25, Try.ntmps25
    go_wp2_with (go_at_call 33; (with_reducible refine (cO.out _).mono ?_); rintro e w' ⟨rfl, rfl⟩)
    go_ret
    exact ⟨rfl, hm, Only.refl _ _⟩
  | true =>
    rw [Vp.run_yes rfl, Vp.run_rd, Vp.run_ret, ha]
    have hr := V.rng s a (V.ok w s hm)
    have cR := V.rd w s a hm
    obtain ⟨x, s1, hrd⟩ : ∃ x s1, M.rd s a = (x, s1) := ⟨_, _, rfl⟩
    rw [hrd] at hr cR ⊢
    have cO := Lib.hid (obj_is ha hb)
    have h0 : 0 ≤ x := hr.1
    have h1 : x ≤ 18446744073709551615 := hr.2
    clear hb ha hm hrd hr
    by_cases hx : 4611686018427387904 < x
    · have HN : Hid (numI x = 0) := Lib.hid (by simp [numI, hx])
      go_enter Try.func25, Try.ntmps25
      go_wp2_with (first | (go_at_call 33; (with_reducible refine (cO.out _).mono ?_); rintro e w' ⟨rfl, rfl⟩) | ((with_reducible refine cR.mono ?_); clear cR; rintro e w1 ⟨rfl, hm1, ho1⟩))
      go_ret
      exact ⟨by rw [HN.out]; rfl, hm1, ho1⟩
    · have HN : Hid (numI x = x) := Lib.hid (by simp [numI, hx])
      have hx' : x ≤ 4611686018427387904 := by omega
      clear hx
      go_enter Try.func25, Try.ntmps25
      go_wp2_with (first | (go_at_call 33; (with_reducible refine (cO.out _).mono ?_); rintro e w' ⟨rfl, rfl⟩) | ((with_reducible refine cR.mono ?_); clear cR; rintro e w1 ⟨rfl, hm1, ho1⟩))
      go_ret
      exact ⟨by rw [HN.out]; rfl, hm1, ho1⟩
theorem field_is (V : VOk M T v fR fW Mem Ok S R) (hm : Mem w s) {o f x : Int} {s1 : σ} (h : (fieldP o f).run M s = (x, s1)) :
    Calls Try.prog 25 #[.iface T v, .int .i64 o, .int .i64 f] w fun e w' => e = .returned (.int .i64 x) ∧ Mem w' s1 ∧ Only S w w' := by
  have q := field_any V hm o f
  rwa [h] at q
theorem field_rng (V : VOk M T v fR fW Mem Ok S R) (hs : Ok s) (o f : Int) : 0 ≤ ((fieldP o f).run M s).1 ∧ ((fieldP o f).run M s).1 ≤ 4611686018427387904 := by
  unfold fieldP
  split
  · rw [Vp.run_rd, Vp.run_ret]
    exact numI_rng (V.rng s _ hs)
  · rw [Vp.run_ret]
    omega
end
end Go.Proofs.Ytloeofhchfaieaa
