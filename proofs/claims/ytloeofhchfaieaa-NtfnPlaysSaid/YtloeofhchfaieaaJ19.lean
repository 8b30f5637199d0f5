/- What the document's Wait answers and does (layer 16 and up). -/
import Derived.Test.YtloeofhchfaieaaJ18
import Derived.Test.YtloeofhchfaieaaRows
import Derived.Test.YtloeofhchfaieaaViewM
import Derived.WalkKit
import Derived.WalkSpells
import Derived.WalkLawsBesides
import Derived.Handy
import Derived.BigQuiet
import Derived.Deep.QuietTactic
import Derived.RegionTactic
import Derived.Lib.Hide
import Derived.Deep.Light
import Derived.Test.YtloeofhchfaieaaJ9
import Derived.Test.YtloeofhchfaieaaJ15
namespace Go.Proofs.Ytloeofhchfaieaa
open Go.RowKit
section
variable {w w' : World} {p gs go : Nat} {S : RSt}
set_option maxRecDepth 100000 in
theorem rwait_any (h : RefM w p gs go S) {o t : Nat} (ho : o < 32) (ht : t < 32) (hql : (S.ob o).queue.length ≤ 900) :
    Calls Try.prog 13 #[.pointer (some ⟨p, 0, none⟩), .int .i64 o, .int .i64 t] w fun e w' => e = .returned (.tuple #[.int .i64 (S.ob o).word, .bool (decide ((S.ob o).word ≠ 0))]) ∧ RefM w' p gs go (ntwS S o t) ∧ Only [go] w w' := by
  have h0 : (0 : Int) ≤ (o : Int) := by omega
  have h1 : (o : Int) < 32 := by omega
  obtain ⟨co, c1⟩ := h.cObjs
  obtain ⟨A, cp, hcO, -⟩ := h.obj ho
  unfold ntwS
  obtain ⟨wd, hwv⟩ : ∃ wd, (S.ob (o : Int)).word = wd := ⟨_, rfl⟩
  have c8 : w.cell? ⟨go, o * 32 + 7, none⟩ = some (.int .i64 wd) := hwv ▸ hcO 7 _ rfl
  have cB := rblock_any h ho ht 5 hql
  have cP := rpoll_any h ho
  rw [hwv] at cP ⊢
  clear hcO h hwv
  by_cases e0 : wd = 0
  · subst e0
    clear cP
    rw [if_pos rfl]
    go_enter Try.func13, Try.ntmps13
    go_wp2_with ((with_reducible refine cB.mono ?_); clear cB; rintro e w1 ⟨rfl, hr1, ho1⟩)
    go_ret2
    exact ⟨rfl, hr1, ho1⟩
  · have e0' : (wd == 0) = false := by simpa using e0
    rw [if_neg e0, decide_eq_true e0]
    clear cB
    go_enter Try.func13, Try.ntmps13
    go_wp2_with ((with_reducible refine cP.mono ?_); clear cP; rintro e w1 ⟨rfl, hr1, ho1⟩)
    go_ret2
    exact ⟨rfl, hr1, ho1⟩
end
end Go.Proofs.Ytloeofhchfaieaa
/- Same of the document's state: are words the same. -/
namespace Go.Proofs.Ytloeofhchfaieaa
open Go.RowKit
set_option maxRecDepth 100000 in
set_option maxHeartbeats 1000000 in
theorem same_any {w : World} {A B : Option Addr} {L M : List Int} (cp cq : Nat) (hA : Wds w A L) (hB : Wds w B M) (hM : M.length ≤ 100000) :
    Calls Try.prog 16 #[.slice A L.length cp, .slice B M.length cq] w fun e w' => e = .returned (.bool (decide (L = M))) ∧ Only [] w w' := by
  by_cases hl : L.length = M.length
  · rw [hl]
    obtain ⟨q, hq⟩ : ∃ q, Hid (decide (L = M) = q) := ⟨_, Lib.hid rfl⟩
    rw [hq.out]
    have HL := Lib.hid hl
    clear hl
    go_enter Try.func16, Try.ntmps16
    go_wp2_with fail
    go_loopw [5] (fun i wr => ∃ k : Nat, k ≤ M.length ∧ i = .int .i64 k ∧ L.take k = M.take k ∧ Only [] w wr) (fun i _ => M.length - (intOf i).toNat)
    case atStart => exact ⟨0, by omega, rfl, by simp, Only.refl _ _⟩
    case round =>
      obtain ⟨k, hk, rfl, ht, ho⟩ := hrel
      by_cases hlt : k < M.length
      · obtain ⟨x, hx⟩ : ∃ x, L[k]? = some x := ⟨_, List.getElem?_eq_getElem (by rw [HL.out]; exact hlt)⟩
        obtain ⟨y, hy⟩ : ∃ y, M[k]? = some y := ⟨_, List.getElem?_eq_getElem hlt⟩
        obtain ⟨b1, o1, rfl, hb1, hc1⟩ := hA k x hx
        obtain ⟨b2, o2, rfl, hb2, hc2⟩ := hB k y hy
        have d1 := (ho.cell (p := ⟨b1, o1 + k, none⟩) hb1 (by simp)).trans hc1
        have d2 := (ho.cell (p := ⟨b2, o2 + k, none⟩) hb2 (by simp)).trans hc2
        have hst : L.take (k + 1) = M.take (k + 1) ↔ x = y := by
          rw [List.take_add_one, List.take_add_one, hx, hy, ht]
          simp
        have HT := Lib.hid hst
        have HXY := Lib.hid (And.intro hx hy)
        have HO := Lib.hid ho
        have hk0 : (0 : Int) ≤ (k : Int) := Int.natCast_nonneg _
        have hkM : (k : Int) < (M.length : Int) := by omega
        clear hx hy hc1 hc2 hst ht ho hA hB
        go_wp2_with fail
        go_quiet (fail)
        have HO2 := Lib.hid (HO.out.drewN nq)
        clear d1 d2
        by_cases e : x = y
        · have e' : (x != y) = false := by simp [e]
          have HE := Lib.hid (HT.out.2 e)
          clear e
          go_wp2_with fail
          go_roundw
          case rel => exact ⟨k + 1, by omega, by go_num, HE.out, HO2.out⟩
          case measure => simp [intOf]; omega
        · have e' : (x != y) = true := by simp [e]
          have HE : Hid (q = false) := Lib.hid (by
            rw [← hq.out]
            apply decide_eq_false
            intro hh
            have h1 := HXY.out.1
            rw [hh, HXY.out.2] at h1
            injection h1 with h1
            exact e h1.symm)
          clear e
          go_wp2_with fail
          go_ret
          exact ⟨by rw [HE.out]; rfl, HO2.out⟩
      · obtain rfl : k = M.length := by omega
        have HE : Hid (q = true) := Lib.hid (by
          rw [← hq.out]
          apply decide_eq_true
          rw [List.take_length, ← HL.out, List.take_length] at ht
          exact ht)
        clear hlt ht
        go_wp2_with fail
        go_ret
        exact ⟨by rw [HE.out]; rfl, ho⟩
  · have hq : decide (L = M) = false := decide_eq_false (fun h => hl (by rw [h]))
    rw [hq]
    have hne : ((L.length : Int) != (M.length : Int)) = true := by simp; omega
    clear hq hl
    go_enter Try.func16, Try.ntmps16
    go_wp2_with fail
    go_ret
    exact ⟨rfl, Only.refl _ _⟩
end Go.Proofs.Ytloeofhchfaieaa
/- Plain words and a sound state of the document side by side in memory (layers 12 to 21): the words are the state's. -/
namespace Go.Proofs.Ytloeofhchfaieaa
open Go.RowKit
section
variable {w w' w0 : World} {g p gs go n : Nat} {L : List Int} {S S' : RSt}
theorem RefAt.blkG (h : RefM w p gs go S) : (∃ cur, Blk w gs SlT cur) ∧ ∃ cur, Blk w go ObT cur := by obtain ⟨-, ⟨cur, h2, -⟩, ⟨cur', h3, -⟩⟩ := h; exact ⟨⟨cur, h2⟩, cur', h3⟩
theorem apartG (h : RefM w p gs go S) (hm : MemP g n UT w L) (ho : Only [g] w w') : RefM w' p gs go S := by
  obtain ⟨cur, hb⟩ := hm.blkG
  obtain ⟨⟨cs, co, h1⟩, ⟨cs', h2, -⟩, ⟨co', h3, -⟩⟩ := id h
  refine h.only ho ?_ ?_ ?_ ?_
  · intro e; simp at e; subst e; exact absurd (hb.uniq h1).1 (by decide)
  · intro e; simp at e; subst e; exact absurd (hb.uniq h2).1 (by decide)
  · intro e; simp at e; subst e; exact absurd (hb.uniq h3).1 (by decide)
  · intro k cur' hk e; simp at e; subst e; exact absurd (hb.uniq hk).1 (by decide)
/-- what a law has made: words, a state that is sound, the words the state's -/
structure Duet (w0 w : World) (p gs go g : Nat) (S : RSt) : Prop where
  mem : MemP g 738 UT w (wordsG S)
  ref : RefM w p gs go S
  sok : Sok S
  only : Only [] w0 w
  ng : w0.heap.size ≤ g
  np : w0.heap.size ≤ p
  ns : w0.heap.size ≤ gs
  no : w0.heap.size ≤ go
theorem Duet.only0 (h : Duet w0 w p gs go g S) (ho : Only [] w w') : Duet w0 w' p gs go g S := ⟨h.mem.only ho (by simp), h.ref.only0 ho, h.sok, h.only.trans ho, h.ng, h.np, h.ns, h.no⟩
theorem Duet.read (h : Duet w0 w p gs go g S) (hm : MemP g 738 UT w' (wordsG S)) (ho : Only [g] w w') : Duet w0 w' p gs go g S :=
  ⟨hm, apartG h.ref h.mem ho, h.sok, h.only.then ho (fun x hx => .inr (by have := h.ng; simp at hx; omega)), h.ng, h.np, h.ns, h.no⟩
/-- the words are apart from the state -/
theorem Duet.away (h : Duet w0 w p gs go g S) : g ∉ [p, gs, go] := by
  obtain ⟨cur, hb⟩ := h.mem.blkG
  obtain ⟨⟨cs, co, h1⟩, ⟨cs', h2, -⟩, ⟨co', h3, -⟩⟩ := id h.ref
  have e1 := hb.ne_ h1 (by decide)
  have e2 := hb.ne_ h2 (by decide)
  have e3 := hb.ne_ h3 (by decide)
  simp
  exact ⟨e1, e2, e3⟩
/-- a call on the words, then its like on the state -/
theorem Duet.both {w1 w2 : World} {F : List Nat} (h : Duet w0 w p gs go g S) (hm : MemP g 738 UT w1 (wordsG S')) (ho : Only [g] w w1) (hr : RefM w2 p gs go S') (ho2 : Only F w1 w2) (hF : ∀ x, x ∈ F → x ∈ [p, gs, go]) (hs : Sok S') : Duet w0 w2 p gs go g S' :=
  ⟨hm.only ho2 (fun e => h.away (hF g e)), hr, hs, (h.only.then ho (fun x hx => .inr (by have := h.ng; simp at hx; omega))).then ho2 (fun x hx => .inr (by
    have e := hF x hx
    have h1 := h.np
    have h2 := h.ns
    have h3 := h.no
    simp at e
    omega)), h.ng, h.np, h.ns, h.no⟩
/-- a row of one's own that is neither the words nor the state's slots -/
theorem Duet.keep {t : TypeId} {k : Nat} {cs : Array Value} (h : Duet w0 w p gs go g S) (ht : t ≠ UT) (hb : Blk w k t cs) (ho : Only [g] w w') : Blk w' k t cs := by
  obtain ⟨cur, hg⟩ := h.mem.blkG
  exact ho.blk hb (fun e => by simp at e; exact hb.ne_ hg ht e)
/-- Same of like words -/
theorem sameG_yes {A B : Option Addr} (cp cq : Nat) (hl : L.length = 738) (hA : Wds w A L) (hB : Wds w B L) :
    Calls Try.prog 16 #[.slice A 738 cp, .slice B 738 cq] w fun e w' => e = .returned (.bool true) ∧ Only [] w w' := by
  have h := same_any cp cq hA hB (by omega)
  rw [hl, decide_eq_true rfl] at h
  exact h
end
end Go.Proofs.Ytloeofhchfaieaa
