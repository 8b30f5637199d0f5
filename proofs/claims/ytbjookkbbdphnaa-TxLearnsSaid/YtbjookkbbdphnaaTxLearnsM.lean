/- What TxLearns' loops come to, as mathematics (layer 6); append of a slice of words onto an empty one. No dump is read here. -/
import Derived.Test.YtbjookkbbdphnaaTxDoM
import Derived.Test.YtbjookkbbdphnaaTxEnts
import Derived.Test.YtbjookkbbdphnaaWordM
import Derived.Laws.AppendOwn
import Derived.Deep.AppendSrc
import Derived.OwnWalk
namespace Go.Proofs.Ytbjookkbbdphnaa
open Go.RowKit Go.Maps
/-- a cell of a store that was set and not put -/
def cz (v : Int) : C := ⟨v, 0, 0⟩
/-- a store whose first k cells are set -/
def stV (V : List Int) (k : Nat) : St := ⟨9, fillTo (V.map cz) ⟨0, 0, 0⟩ k⟩
theorem stV_new (V : List Int) : stV V 0 = ⟨9, List.replicate V.length ⟨0, 0, 0⟩⟩ := by simp [stV, fillTo_zero]
theorem stV_get_all (V : List Int) {k : Nat} {x : Int} (h : V[k]? = some x) : (stV V V.length).get (k : Int) = some ⟨x, 0, 0⟩ := by
  have e : fillTo (V.map cz) ⟨0, 0, 0⟩ V.length = V.map cz := by
    have := fillTo_all (xs := V.map cz) (z := (⟨0, 0, 0⟩ : C))
    simpa using this
  simp [stV, St.get_nat, e, h, cz]
theorem stV_set {V : List Int} {k : Nat} {x : Int} (h : V[k]? = some x) : setI (stV V k) (k : Int) x = (0, stV V (k + 1)) := by
  have hk := (List.getElem?_eq_some_iff.1 h).1
  have h1 : (stV V k).L[k]? = some ⟨0, 0, 0⟩ := fillTo_at (by simpa using hk)
  have h2 : (fillTo (V.map cz) ⟨0, 0, 0⟩ k).set k (cz x) = fillTo (V.map cz) ⟨0, 0, 0⟩ (k + 1) := fillTo_set (by simp [h])
  simp only [setI, St.get_nat, h1, St.put, Int.toNat_natCast]
  simp only [ne_eq, not_true_eq_false, if_false]
  exact congrArg (fun l => ((0 : Int), (⟨9, l⟩ : St))) h2
/-- a row of bools -/
def brow (b : Bool) : List Value := [.bool b]
theorem brow_len (b : Bool) : (brow b).length = 1 := rfl
theorem brow_at {B : List Bool} {k : Nat} {b : Bool} (h : B[k]? = some b) : (flat brow B)[k]? = some (.bool b) := by
  have := flat_at (f := brow) (n := 1) (j := 0) brow_len h rfl
  simpa using this
theorem brow_set {B : List Bool} {k : Nat} {b : Bool} (h : B[k]? = some b) (c : Bool) : (flat brow B).setIfInBounds k (.bool c) = flat brow (B.set k c) := by
  have := flat_set (f := brow) (n := 1) (j := 0) (b := c) (v := .bool c) brow_len h (by omega) rfl
  simpa using this
theorem count_set {B : List Bool} {k : Nat} (h : B[k]? = some false) : (B.set k true).count true = B.count true + 1 := by
  induction B generalizing k with
  | nil => simp at h
  | cons b B ih =>
    cases k with
    | zero =>
      simp only [List.getElem?_cons_zero, Option.some.injEq] at h
      subst h
      simp
    | succ k =>
      simp only [List.getElem?_cons_succ] at h
      simp only [List.set_cons_succ, List.count_cons, ih h]
      omega
theorem count_lt {B : List Bool} {k : Nat} (h : B[k]? = some false) : B.count true < B.length := by
  have h1 := count_set h
  have h2 : (B.set k true).count true ≤ (B.set k true).length := List.count_le_length
  simp at h2
  omega
/-- the learnt cells, as the law marks them -/
structure Marks (cells : Int) (V : List Int) (R : Int → Option Cl) (B : List Bool) (many : Nat) : Prop where
  len : B.length = V.length
  at_ : ∀ (k : Nat) (b : Bool), B[k]? = some b → b = (R k).isSome
  many : B.count true = many
  learnt : Learnt cells V R
theorem marks_new (V : List Int) {cells : Int} : Marks cells V (fun _ => none) (List.replicate V.length false) 0 := by
  refine ⟨by simp, fun k b h => ?_, by simp [List.count_replicate], fun i c h => by cases h⟩
  simp only [List.getElem?_replicate] at h
  split at h
  · cases h; rfl
  · cases h
section
variable {cells : Int} {V : List Int} {R : Int → Option Cl} {B : List Bool} {many : Nat}
theorem Marks.no (h : Marks cells V R B many) {k : Nat} (hk : k < V.length) (hR : R k = none) : B[k]? = some false := by
  have hb : k < B.length := by rw [h.len]; exact hk
  have := h.at_ k B[k] (List.getElem?_eq_getElem hb)
  rw [hR] at this
  rw [List.getElem?_eq_getElem hb, this]
  rfl
theorem Marks.yes (h : Marks cells V R B many) {k : Nat} (hk : k < V.length) (hR : (R k).isSome = true) : B[k]? = some true := by
  have hb : k < B.length := by rw [h.len]; exact hk
  have := h.at_ k B[k] (List.getElem?_eq_getElem hb)
  rw [hR] at this
  rw [List.getElem?_eq_getElem hb, this]
theorem Marks.le (h : Marks cells V R B many) : many ≤ V.length := by
  have : B.count true ≤ B.length := List.count_le_length
  rw [h.len, h.many] at this
  exact this
theorem Marks.more (h : Marks cells V R B many) {k : Nat} {x : Int} (hc : (V.length : Int) = cells) (hk : V[k]? = some x) (hR : R k = none) : Marks cells V (upd R k ⟨x, 0, 0⟩) (B.set k true) (many + 1) := by
  have hkl := (List.getElem?_eq_some_iff.1 hk).1
  have hb := h.no hkl hR
  refine ⟨by rw [List.length_set]; exact h.len, fun j b hj => ?_, by rw [count_set hb, h.many], fun i c hi => ?_⟩
  · by_cases e : j = k
    · subst e
      rw [List.getElem?_set_self (by rw [h.len]; exact hkl)] at hj
      cases hj
      rw [upd_same]
      rfl
    · rw [List.getElem?_set_ne (Ne.symm e)] at hj
      rw [upd_other _ (by omega)]
      exact h.at_ j b hj
  · by_cases e : i = (k : Int)
    · subst e
      rw [upd_same] at hi
      cases hi
      refine ⟨inB_yes.2 ⟨by omega, by omega⟩, ?_, rfl⟩
      exact (atL_in hk).symm
    · rw [upd_other _ e] at hi
      exact h.learnt i c hi
end
/-- what out has, once the first k entries are written -/
def OutAt (cells : Int) (V : List Int) (s : Dt) (ks : List Int) (k : Nat) (O : List Int) : Prop :=
  O.length = V.length ∧ ∀ j, inB cells j = true → atL O j = if j ∈ ks.take k then (s.wr j).getD (atL V j) else atL V j
theorem outAt_new (cells : Int) (V : List Int) (s : Dt) (ks : List Int) : OutAt cells V s ks 0 V := ⟨rfl, fun j _ => by simp⟩
theorem outAt_more {cells : Int} {V : List Int} {s : Dt} {ks : List Int} {k : Nat} {O : List Int} {x v : Int} (h : OutAt cells V s ks k O) (hx : ks[k]? = some x) (hl : (V.length : Int) = cells) (hb : inB cells x = true) (hv : v = (s.wr x).getD (atL V x)) :
    OutAt cells V s ks (k + 1) (setL O x v) := by
  refine ⟨by rw [setL_length]; exact h.1, fun j hj => ?_⟩
  have hh : hasB O.length x = true := by rw [h.1, hasB_inB hl]; exact hb
  have hk := (List.getElem?_eq_some_iff.1 hx).1
  have hxe := (List.getElem?_eq_some_iff.1 hx).2
  rw [atL_setL, List.take_succ_eq_append_getElem hk, hxe]
  by_cases e : j = x
  · subst e
    rw [if_pos ⟨hh, rfl⟩, if_pos (by simp), hv]
  · rw [if_neg (fun h => e h.2), h.2 j hj]
    simp [e]
theorem outAt_all {cells : Int} {V : List Int} {s : Dt} {ks : List Int} {O L : List Int} {R : Int → Option Cl} {sz : Nat} (h : OutAt cells V s ks ks.length O) (hK : KeysF R sz ks) (hS : Sim cells R V s L) {j : Int} (hj : inB cells j = true) : atL O j = atL L j := by
  rw [h.2 j hj, hS.at_ j hj, List.take_length]
  split
  · rfl
  · next hn =>
    cases hw : s.wr j with
    | none => rfl
    | some v => exact absurd (hK.all j (hS.wrote j (by rw [hw]; rfl))) hn
/-- an entry's form -/
theorem ent_form (W : Int → Option Int) (i : Int) (c : Cl) : ∃ (nw : Int) (b : Bool), ent W i c = ⟨i, c.ver, c.v, nw, b⟩ ∧ (c.v != nw) = b ∧ nw = (W i).getD c.v := by
  unfold ent
  cases h : W i with
  | none => exact ⟨_, _, rfl, by simp, rfl⟩
  | some v =>
    refine ⟨_, _, rfl, ?_, rfl⟩
    rw [Bool.eq_iff_iff]
    simp only [bne_iff_ne, ne_eq]
    exact ⟨fun h h2 => h h2.symm, fun h h2 => h h2.symm⟩
/-- 'append(s, l...)' onto a slice of no words and no room, nil let in for l -/
theorem wpList_append_words {P : Program} (w : World) {ops : Array Oper} {rest : List Oper} {o : Oper} {a : Act} {Q : Exit → Act → World → Prop}
    (hg : o.guard = none) (s x : Operand) (t : TypeId) (hop : o.op = Op.call { callee := Callee.builtin Builtin.append, args := #[s, x], argTypes := #[t, t] })
    (base : Nat) (e : TypeId) (i : TypeInfo) (z : Value) (h1 : P.underlying t = some (.slice e)) (h2 : P.info? e = some i) (h3 : i.zero = some z) (h4 : i.size = 1) (h5 : i.bytes = 8) (h6 : z.cells.size = 1)
    (E : Nat) (hs : a.eval s = .slice (some ⟨E, 0, none⟩) 0 0) (hown : w.ownsRow base e 1 (.slice (some ⟨E, 0, none⟩) 0 0) 0 []) (A : Option Addr) (L : List Int) (cp : Nat) (hx : a.eval x = .slice A L.length cp) (hL : Wds w A L) (hl : L.length ≤ 1000) (hb : base ≤ w.heap.size)
    (hK : ∀ g cap w', w'.ownsRow base e 1 (.slice (some ⟨g, 0, none⟩) L.length cap) L.length (L.map (Value.int .u64)) → w.grownBy w' (some E) → wpList P ops Q rest (a.put o.dst (.slice (some ⟨g, 0, none⟩) L.length cap)) w') :
    wpList P ops Q (o :: rest) a w := by
  cases A with
  | some ad =>
    refine wpList_append_own w hg s x t hop base e i z 1 8 h1 h2 h3 h4 h5 h6 (by omega) _ 0 [] hs hown ad L.length cp (L.map (Value.int .u64)) hx (by simp) (fun j u hj => ?_) (fun u hu => ?_) (by unfold maxLen; omega) (by omega) hb ?_
    · rw [List.getElem?_map] at hj
      obtain ⟨y, hy, rfl⟩ := Option.map_eq_some_iff.1 hj
      obtain ⟨b, off, e1, _, hc⟩ := hL j y hy
      injection e1 with e1
      subst e1
      have ea : (⟨b, off, none⟩ : Addr).add j = ⟨b, off + j, none⟩ := by
        unfold Addr.add
        split
        · next h => simp [h]
        · rfl
      rw [ea]
      exact hc
    · obtain ⟨y, _, rfl⟩ := List.mem_map.1 hu
      rfl
    · intro v' w' hown' hgrow hnil
      rw [Nat.zero_add] at hown'
      rcases hown'.2 with ⟨rfl, _⟩ | ⟨g, cap, cur, rfl, r⟩
      · have := (hnil.1 rfl).1
        cases this
      · exact hK g cap w' (by simpa using hown') hgrow
  | none =>
    obtain rfl : L = [] := by
      cases L with
      | nil => rfl
      | cons y L => obtain ⟨b, off, e1, _⟩ := hL 0 y rfl; cases e1
    refine wpList_plain hg fun K hK' => ?_
    have hrun := run_append_room_src w t t o.type e i h1 h2 E 0 0 0 (.slice none 0 cp) 0 [] (by rw [h4]; exact Src.ofNil w h1 cp) (Nat.le_refl _) (fun j hj => by simp at hj) (fun j hj => by simp at hj)
    have hx' : a.eval x = .slice none 0 cp := hx
    unfold Oper.wp
    simp [execOp, hop, resolve, invoke, builtin, hs, hx', hrun, Result.andThen]
    exact hK' _ _ (hK E 0 _ hown ⟨rfl, rfl, rfl, Nat.le_refl _, fun _ _ _ => rfl⟩)
end Go.Proofs.Ytbjookkbbdphnaa
