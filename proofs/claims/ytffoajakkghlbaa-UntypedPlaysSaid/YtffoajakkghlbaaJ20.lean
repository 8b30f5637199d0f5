/- Delete, One of the document's state (layer 12). -/
import Derived.Test.YtffoajakkghlbaaRefLink
import Derived.Test.YtffoajakkghlbaaRefUnlink
import Derived.Test.YtffoajakkghlbaaJ19
import Derived.Test.YtffoajakkghlbaaJ14
import Derived.Test.YtffoajakkghlbaaRows
import Derived.Test.YtffoajakkghlbaaViewM
import Derived.WalkKit
import Derived.WalkSpells
import Derived.WalkLawsBesides
import Derived.Handy
import Derived.BigQuiet
import Derived.Deep.QuietTactic
import Derived.RegionTactic
import Derived.Lib.Hide
import Derived.Deep.Light
import Derived.Test.YtffoajakkghlbaaJ16
namespace Go.Proofs.Ytffoajakkghlbaa
open Go.RowKit
section
variable {w : World} {p gs go : Nat} {S : RSt}
set_option maxRecDepth 100000 in
set_option maxHeartbeats 2000000 in
theorem rdelete_any (h : RefM w p gs go S) (hs : S.Short) (hP : S.Pars) (a : Int) :
    Calls Try.prog 11 #[.pointer (some ⟨p, 0, none⟩), .int .i64 a] w fun e w' => e = .returned (.int .i64 (rdelN S a)) ∧ RefM w' p gs go (rdelS S a) ∧ Only [gs] w w' := by
  cases h1 : slotOk a with
  | false =>
    have hN : rdelN S a = 2 := by unfold rdelN; rw [if_pos h1]
    have hS : rdelS S a = S := by unfold rdelS; rw [if_neg (by rw [hN]; decide)]
    rw [hN, hS]
    have sA := Lib.hid (rslot_is h1)
    clear hN hS h1
    go_enter Try.func11, Try.ntmps11
    go_wp2_with ((with_reducible refine (sA.out _).mono ?_); rintro e w1 ⟨rfl, rfl⟩)
    go_ret
    exact ⟨rfl, h, Only.refl _ _⟩
  | true =>
    have ia := slotOk_yes.1 h1
    have sA := Lib.hid (rslot_is h1)
    have H1 := Lib.hid h1
    clear h1
    obtain ⟨i, rfl⟩ : ∃ i : Nat, a = i := ⟨a.toNat, by omega⟩
    have hi0 : (0 : Int) ≤ (i : Int) := by omega
    have hi9 : (i : Int) < 96 := by omega
    obtain ⟨cs, c0⟩ := h.cSlots
    obtain ⟨A, cp, cK, -⟩ := h.cKids (i := i) (by omega)
    by_cases hk : S.kids i = []
    · have hN : rdelN S i = 0 := by unfold rdelN; rw [if_neg (by rw [H1.out]; simp), if_neg (fun e => e hk)]
      have hS : rdelS S i = (unlinkS S i).putC i Cp.zero := by unfold rdelS; rw [if_pos hN]
      rw [hN, hS]
      rw [hk] at cK
      have cU := runlink_any h hs hP i
      clear hN hS hk h
      go_enter Try.func11, Try.ntmps11
      go_wp2_with (first | ((with_reducible refine (sA.out _).mono ?_); rintro e w' ⟨rfl, hw⟩; replace hw := hw.symm; subst hw))
      (with_reducible refine cU.mono ?_)
      clear cU c0 cK
      rintro e w1 ⟨rfl, hr1, ho1⟩
      obtain ⟨cs, c0⟩ := hr1.cSlots
      have hT := hr1.thereC (i := i) (by omega)
      obtain ⟨hr2, ho2⟩ := hr1.setCap (by decide) (by decide) (by decide) (i := i) (by omega) Cp.zero
      have H2 := Lib.hid (And.intro hr2 (ho1.trans ho2))
      clear hr1 ho1 hr2 ho2
      go_wp2_with (first | (refine wpList_store_cap rfl (.tmp 30) (.tmp 28) rfl gs (i * 8) Cp.zero ?_ ?_ ?_ ?_; rfl; rfl; exact hT) | fail)
      go_ret
      exact ⟨rfl, H2.out.1, H2.out.2⟩
    · have hN : rdelN S i = 9 := by unfold rdelN; rw [if_neg (by rw [H1.out]; simp), if_pos hk]
      have hS : rdelS S i = S := by unfold rdelS; rw [if_neg (by rw [hN]; decide)]
      rw [hN, hS]
      have hlen : (0 : Int) < ((S.kids i).length : Int) := by
        cases hh : S.kids i with
        | nil => exact absurd hh hk
        | cons x l => simp
      have HH := Lib.hid h
      obtain ⟨n, hn⟩ : ∃ n, (S.kids i).length = n := ⟨_, rfl⟩
      rw [hn] at cK hlen
      clear hN hS hk h hn
      go_enter Try.func11, Try.ntmps11
      go_wp2_with ((with_reducible refine (sA.out _).mono ?_); rintro e w' ⟨rfl, hw⟩; replace hw := hw.symm; subst hw)
      go_ret
      exact ⟨rfl, HH.out, Only.refl _ _⟩
end
end Go.Proofs.Ytffoajakkghlbaa
/- Same of the document's state: are words the same. -/
namespace Go.Proofs.Ytffoajakkghlbaa
open Go.RowKit
set_option maxRecDepth 100000 in
set_option maxHeartbeats 1000000 in
theorem same_any {w : World} {A B : Option Addr} {L M : List Int} (cp cq : Nat) (hA : Wds w A L) (hB : Wds w B M) (hM : M.length ≤ 100000) :
    Calls Try.prog 15 #[.slice A L.length cp, .slice B M.length cq] w fun e w' => e = .returned (.bool (decide (L = M))) ∧ Only [] w w' := by
  by_cases hl : L.length = M.length
  · rw [hl]
    obtain ⟨q, hq⟩ : ∃ q, Hid (decide (L = M) = q) := ⟨_, Lib.hid rfl⟩
    rw [hq.out]
    have HL := Lib.hid hl
    clear hl
    go_enter Try.func15, Try.ntmps15
    go_wp2_with fail
    go_loopw [5] (fun i wr => ∃ k : Nat, k ≤ M.length ∧ i = .int .i64 k ∧ L.take k = M.take k ∧ Only [] w wr) (fun i _ => M.length - (intOf i).toNat)
    case atStart => exact ⟨0, by omega, rfl, by simp, Only.refl _ _⟩
    case round =>
      obtain ⟨k, hk, rfl, ht, ho⟩ := hrel
      by_cases hlt : k < M.length
      · obtain ⟨x, hx⟩ : ∃ x, L[k]? = some x := ⟨_, List.getElem?_eq_getElem (by rw [HL.out]; exact hlt)⟩
        obtain ⟨y, hy⟩ : ∃ y, M[k]? = some y := ⟨_, List.getElem?_eq_getElem hlt⟩
        obtain ⟨b1, o1, rfl, hb1, hc1⟩ := hA k x hx
        obtain ⟨b2, o2, rfl, hb2, hc2⟩ := hB k y hy
        have d1 := (ho.cell (p := ⟨b1, o1 + k, none⟩) hb1 (by simp)).trans hc1
        have d2 := (ho.cell (p := ⟨b2, o2 + k, none⟩) hb2 (by simp)).trans hc2
        have hst : L.take (k + 1) = M.take (k + 1) ↔ x = y := by
          rw [List.take_add_one, List.take_add_one, hx, hy, ht]
          simp
        have HT := Lib.hid hst
        have HXY := Lib.hid (And.intro hx hy)
        have HO := Lib.hid ho
        have hk0 : (0 : Int) ≤ (k : Int) := Int.natCast_nonneg _
        have hkM : (k : Int) < (M.length : Int) := by omega
        clear hx hy hc1 hc2 hst ht ho hA hB
        go_wp2_with fail
        go_quiet (fail)
        have HO2 := Lib.hid (HO.out.drewN nq)
        clear d1 d2
        by_cases e : x = y
        · have e' : (x != y) = false := by simp [e]
          have HE := Lib.hid (HT.out.2 e)
          clear e
          go_wp2_with fail
          go_roundw
          case rel => exact ⟨k + 1, by omega, by go_num, HE.out, HO2.out⟩
          case measure => simp [intOf]; omega
        · have e' : (x != y) = true := by simp [e]
          have HE : Hid (q = false) := Lib.hid (by
            rw [← hq.out]
            apply decide_eq_false
            intro hh
            have h1 := HXY.out.1
            rw [hh, HXY.out.2] at h1
            injection h1 with h1
            exact e h1.symm)
          clear e
          go_wp2_with fail
          go_ret
          exact ⟨by rw [HE.out]; rfl, HO2.out⟩
      · obtain rfl : k = M.length := by omega
        have HE : Hid (q = true) := Lib.hid (by
          rw [← hq.out]
          apply decide_eq_true
          rw [List.take_length, ← HL.out, List.take_length] at ht
          exact ht)
        clear hlt ht
        go_wp2_with fail
        go_ret
        exact ⟨by rw [HE.out]; rfl, ho⟩
  · have hq : decide (L = M) = false := decide_eq_false (fun h => hl (by rw [h]))
    rw [hq]
    have hne : ((L.length : Int) != (M.length : Int)) = true := by simp; omega
    clear hq hl
    go_enter Try.func15, Try.ntmps15
    go_wp2_with fail
    go_ret
    exact ⟨rfl, Only.refl _ _⟩
end Go.Proofs.Ytffoajakkghlbaa
/- Plain words and a sound state of the document side by side in memory (layers 12 to 21): the words are the state's. -/
namespace Go.Proofs.Ytffoajakkghlbaa
open Go.RowKit
section
variable {w w' w0 : World} {g p gs go n : Nat} {L : List Int} {S S' : RSt}
theorem RefAt.blkG (h : RefM w p gs go S) : (∃ cur, Blk w gs SlT cur) ∧ ∃ cur, Blk w go ObT cur := by obtain ⟨-, ⟨cur, h2, -⟩, ⟨cur', h3, -⟩⟩ := h; exact ⟨⟨cur, h2⟩, cur', h3⟩
theorem apartG (h : RefM w p gs go S) (hm : MemP g n UT w L) (ho : Only [g] w w') : RefM w' p gs go S := by
  obtain ⟨cur, hb⟩ := hm.blkG
  obtain ⟨⟨cs, co, h1⟩, ⟨cs', h2, -⟩, ⟨co', h3, -⟩⟩ := id h
  refine h.only ho ?_ ?_ ?_ ?_
  · intro e; simp at e; subst e; exact absurd (hb.uniq h1).1 (by decide)
  · intro e; simp at e; subst e; exact absurd (hb.uniq h2).1 (by decide)
  · intro e; simp at e; subst e; exact absurd (hb.uniq h3).1 (by decide)
  · intro k cur' hk e; simp at e; subst e; exact absurd (hb.uniq hk).1 (by decide)
/-- what a law has made: words, a state that is sound, the words the state's -/
structure Duet (w0 w : World) (p gs go g : Nat) (S : RSt) : Prop where
  mem : MemP g 738 UT w (wordsG S)
  ref : RefM w p gs go S
  sok : Sok S
  only : Only [] w0 w
  ng : w0.heap.size ≤ g
  np : w0.heap.size ≤ p
  ns : w0.heap.size ≤ gs
  no : w0.heap.size ≤ go
theorem Duet.only0 (h : Duet w0 w p gs go g S) (ho : Only [] w w') : Duet w0 w' p gs go g S := ⟨h.mem.only ho (by simp), h.ref.only0 ho, h.sok, h.only.trans ho, h.ng, h.np, h.ns, h.no⟩
theorem Duet.read (h : Duet w0 w p gs go g S) (hm : MemP g 738 UT w' (wordsG S)) (ho : Only [g] w w') : Duet w0 w' p gs go g S :=
  ⟨hm, apartG h.ref h.mem ho, h.sok, h.only.then ho (fun x hx => .inr (by have := h.ng; simp at hx; omega)), h.ng, h.np, h.ns, h.no⟩
/-- the words are apart from the state -/
theorem Duet.away (h : Duet w0 w p gs go g S) : g ∉ [p, gs, go] := by
  obtain ⟨cur, hb⟩ := h.mem.blkG
  obtain ⟨⟨cs, co, h1⟩, ⟨cs', h2, -⟩, ⟨co', h3, -⟩⟩ := id h.ref
  have e1 := hb.ne_ h1 (by decide)
  have e2 := hb.ne_ h2 (by decide)
  have e3 := hb.ne_ h3 (by decide)
  simp
  exact ⟨e1, e2, e3⟩
/-- a call on the words, then its like on the state -/
theorem Duet.both {w1 w2 : World} {F : List Nat} (h : Duet w0 w p gs go g S) (hm : MemP g 738 UT w1 (wordsG S')) (ho : Only [g] w w1) (hr : RefM w2 p gs go S') (ho2 : Only F w1 w2) (hF : ∀ x, x ∈ F → x ∈ [p, gs, go]) (hs : Sok S') : Duet w0 w2 p gs go g S' :=
  ⟨hm.only ho2 (fun e => h.away (hF g e)), hr, hs, (h.only.then ho (fun x hx => .inr (by have := h.ng; simp at hx; omega))).then ho2 (fun x hx => .inr (by
    have e := hF x hx
    have h1 := h.np
    have h2 := h.ns
    have h3 := h.no
    simp at e
    omega)), h.ng, h.np, h.ns, h.no⟩
/-- a row of one's own that is neither the words nor the state's slots -/
theorem Duet.keep {t : TypeId} {k : Nat} {cs : Array Value} (h : Duet w0 w p gs go g S) (ht : t ≠ UT) (hb : Blk w k t cs) (ho : Only [g] w w') : Blk w' k t cs := by
  obtain ⟨cur, hg⟩ := h.mem.blkG
  exact ho.blk hb (fun e => by simp at e; exact hb.ne_ hg ht e)
/-- Same of like words -/
theorem sameG_yes {A B : Option Addr} (cp cq : Nat) (hl : L.length = 738) (hA : Wds w A L) (hB : Wds w B L) :
    Calls Try.prog 15 #[.slice A 738 cp, .slice B 738 cq] w fun e w' => e = .returned (.bool true) ∧ Only [] w w' := by
  have h := same_any cp cq hA hB (by omega)
  rw [hl, decide_eq_true rfl] at h
  exact h
end
end Go.Proofs.Ytffoajakkghlbaa
