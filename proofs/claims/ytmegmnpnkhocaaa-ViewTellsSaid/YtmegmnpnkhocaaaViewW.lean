/- append of a slice of words onto an empty one; where a list differs from itself with a word put (layer 5). No dump is read here. -/
import Derived.OwnWalkIn
import Derived.Deep.AppendSrc
import Derived.RangeFuncNested
import Derived.Test.YtmegmnpnkhocaaaViewN
namespace Go.Proofs.Ytmegmnpnkhocaaa
open Go.RowKit
theorem addr_add {b off j : Nat} : (⟨b, off, none⟩ : Addr).add j = ⟨b, off + j, none⟩ := by
  unfold Addr.add
  split
  · next h => simp [h]
  · rfl
/-- 'append(s, l...)' onto a slice of no words and no room, nil let in for l -/
theorem wpListIn_append_words {F : Fence} {n : Nat} {P : Program} (w : World) {ops : Array Oper} {rest : List Oper} {o : Oper} {a : Act} {Q : Exit → Act → World → Prop}
    (hg : o.guard = none) (s x : Operand) (t : TypeId) (hop : o.op = Op.call { callee := Callee.builtin Builtin.append, args := #[s, x], argTypes := #[t, t] })
    (base : Nat) (e : TypeId) (i : TypeInfo) (z : Value) (h1 : P.underlying t = some (.slice e)) (h2 : P.info? e = some i) (h3 : i.zero = some z) (h4 : i.size = 1) (h5 : i.bytes = 8) (h6 : z.cells.size = 1)
    (E : Nat) (hs : a.eval s = .slice (some ⟨E, 0, none⟩) 0 0) (hown : w.ownsRow base e 1 (.slice (some ⟨E, 0, none⟩) 0 0) 0 []) (A : Option Addr) (L : List Int) (cp : Nat) (hx : a.eval x = .slice A L.length cp) (hL : Wds w A L) (hl : L.length ≤ 1000) (hb : base ≤ w.heap.size)
    (hK : ∀ g cap w', w'.ownsRow base e 1 (.slice (some ⟨g, 0, none⟩) L.length cap) L.length (L.map (Value.int .u64)) → w.grownBy w' (some E) → wpListIn F n P ops Q rest (a.put o.dst (.slice (some ⟨g, 0, none⟩) L.length cap)) w') :
    wpListIn F n P ops Q (o :: rest) a w := by
  cases A with
  | some ad =>
    refine wpListIn_append_own w hg s x t hop base e i z 1 8 h1 h2 h3 h4 h5 h6 (by omega) _ 0 [] hs hown ad L.length cp (L.map (Value.int .u64)) hx (by simp) (fun j u hj => ?_) (fun u hu => ?_) (by unfold maxLen; omega) (by omega) hb ?_
    · rw [List.getElem?_map] at hj
      obtain ⟨y, hy, rfl⟩ := Option.map_eq_some_iff.1 hj
      obtain ⟨b, off, e1, _, hc⟩ := hL j y hy
      injection e1 with e1
      subst e1
      rw [addr_add]
      exact hc
    · obtain ⟨y, _, rfl⟩ := List.mem_map.1 hu
      rfl
    · intro v' w' hown' hgrow hnil
      rw [Nat.zero_add] at hown'
      rcases hown'.2 with ⟨rfl, _⟩ | ⟨g, cap, cur, rfl, r⟩
      · have := (hnil.1 rfl).1
        cases this
      · exact hK g cap w' (by simpa using hown') hgrow
  | none =>
    obtain rfl : L = [] := by
      cases L with
      | nil => rfl
      | cons y L => obtain ⟨b, off, e1, _⟩ := hL 0 y rfl; cases e1
    refine wpListIn_plain hg fun K hK' => ?_
    have hrun := run_append_room_src w t t o.type e i h1 h2 E 0 0 0 (.slice none 0 cp) 0 [] (by rw [h4]; exact Src.ofNil w h1 cp) (Nat.le_refl _) (fun j hj => by simp at hj) (fun j hj => by simp at hj)
    unfold Oper.wpIn
    refine ⟨?_, ?_⟩
    · simp [Oper.about, hop, resolve, Target.leads, Sem.run_pure]
    · rw [Oper.semAt_plain F _ _ (by rw [hop]; intro c hc'; cases hc')]
      have hx' : a.eval x = .slice none 0 cp := hx
      simp [execOp, hop, resolve, invoke, builtin, hs, hx', hrun, Result.andThen]
      exact hK' _ _ (hK E 0 _ hown ⟨rfl, rfl, rfl, Nat.le_refl _, fun _ _ _ => rfl⟩)
theorem only_grew {S : List Nat} {a w w' : World} {row : Option Nat} (h : Only S a w) (hg : w.grownBy w' row) (hr : ∀ j, row = some j → a.heap.size ≤ j) : Only S a w' :=
  ⟨hg.os.trans h.os, hg.tape.trans h.tape, hg.output.trans h.output, Nat.le_trans h.size hg.size, fun k hk hn => (hg.block k (Nat.lt_of_lt_of_le hk h.size) (fun e => by have := hr k e.symm; omega)).trans (h.block k hk hn)⟩
theorem ownFrom_only {β : Type} {S : List Nat} {w₀ : World} : OwnFrom w₀.heap.size (fun (_ : β) W => Only S w₀ W) := fun _ X Y row hs hg hr =>
  ⟨hg.os.trans hs.os, hg.tape.trans hs.tape, hg.output.trans hs.output, Nat.le_trans hs.size hg.size, fun k hk hn => (hg.block k (Nat.lt_of_lt_of_le hk hs.size) (fun e => by have := (hr k e.symm).1; omega)).trans (hs.block k hk hn)⟩
/-- one more of a range -/
theorem good_iff {L : List Int} {lo : Int} {pre : List (Int × Int)} (h : pre = rngF L lo pre.length) (x : Int × Int) : pre ++ [x] = rngF L lo (pre ++ [x]).length ↔ x = (lo + pre.length, atL L (lo + pre.length)) := by
  rw [List.length_append, List.length_singleton, rngF_succ, ← h]
  simp
/-- where a list is unlike itself with a word put -/
theorem chgL_put (L : List Int) (i v : Int) : chgL L (setL L i v) = if atL L i = atL (setL L i v) i then [] else [(i, v)] := by
  have hM : max L.length (setL L i v).length = L.length := by rw [setL_length]; omega
  have hmem : ∀ p : Int × Int, p ∈ chgL L (setL L i v) ↔ (atL L i ≠ atL (setL L i v) i ∧ p = (i, v)) := fun p => by
    rw [chgL_mem, hM]
    obtain ⟨j, x⟩ := p
    simp only [Prod.mk.injEq]
    constructor
    · rintro ⟨h1, h2, h3⟩
      have e : hasB L.length i = true ∧ j = i := by
        refine Classical.byContradiction fun hn => h3 ?_
        rw [h2, atL_setL, if_neg hn]
      obtain ⟨hb, rfl⟩ := e
      have hv : atL (setL L j v) j = v := by rw [atL_setL, if_pos ⟨hb, rfl⟩]
      rw [hv] at h2 ⊢
      subst h2
      exact ⟨fun h => h3 h.symm, rfl, rfl⟩
    · rintro ⟨h1, rfl, rfl⟩
      have hb : hasB L.length j = true := by
        cases hb : hasB L.length j with
        | true => rfl
        | false => exact absurd (by rw [setL_out x hb]) h1
      have hv : atL (setL L j x) j = x := by rw [atL_setL, if_pos ⟨hb, rfl⟩]
      rw [hv] at h1 ⊢
      exact ⟨hasB_yes.1 hb, rfl, fun h => h1 h.symm⟩
  have hs := chgL_sorted L (setL L i v)
  generalize chgL L (setL L i v) = R at hmem hs ⊢
  split
  · next h =>
    cases R with
    | nil => rfl
    | cons p R => exact absurd h ((hmem p).1 (by simp)).1
  · next h =>
    cases R with
    | nil => have := (hmem (i, v)).2 ⟨h, rfl⟩; simp at this
    | cons p R =>
      have hp := ((hmem p).1 (by simp)).2
      cases R with
      | nil => rw [hp]
      | cons q R =>
        have hq := ((hmem q).1 (by simp)).2
        have := (List.pairwise_cons.1 hs).1 q (by simp)
        rw [hp, hq] at this
        omega
end Go.Proofs.Ytmegmnpnkhocaaa
