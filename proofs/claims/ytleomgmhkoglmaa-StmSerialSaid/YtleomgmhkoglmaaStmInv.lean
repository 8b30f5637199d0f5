/- Descriptors that help each other, as layer 8 has them: ever more of them, a store of any limit (layer 8). No dump is read here. -/
import Derived.Test.YtleomgmhkoglmaaDescM
import Derived.Test.YtleomgmhkoglmaaTxDoM
namespace Go.Proofs.Ytleomgmhkoglmaa
open Go.RowKit
/-- entries that rise by cells, each of a store of N -/
def Rising (N : Nat) (L : List En) : Prop := ∀ (j : Nat) (e : En), L[j]? = some e → (0 ≤ e.cell ∧ e.cell < N) ∧ ∀ (i : Nat) (e' : En), i < j → L[i]? = some e' → e'.cell < e.cell
theorem Rising.of_adj {N : Nat} {L : List En} (h : ∀ (j : Nat) (e : En), L[j]? = some e → (0 ≤ e.cell ∧ e.cell < N) ∧ ∀ e', 0 < j → L[j - 1]? = some e' → e'.cell < e.cell) : Rising N L := by
  intro j
  induction j with
  | zero => exact fun e he => ⟨(h 0 e he).1, fun i e' hi => absurd hi (by omega)⟩
  | succ j ih =>
    intro e he
    refine ⟨(h _ e he).1, fun i e' hi he' => ?_⟩
    have hj : j < L.length := by have := (List.getElem?_eq_some_iff.1 he).1; omega
    have hm : L[j]? = some L[j] := List.getElem?_eq_getElem hj
    have h1 := (h _ e he).2 L[j] (by omega) (by simp)
    by_cases hij : i = j
    · subst hij
      rw [hm] at he'
      cases he'
      exact h1
    · have := (ih _ hm).2 i e' (by omega) he'
      omega
theorem Rising.le {N : Nat} {L : List En} (h : Rising N L) : ∀ (j : Nat) (e : En), L[j]? = some e → (j : Int) ≤ e.cell := by
  intro j
  induction j with
  | zero => exact fun e he => (h 0 e he).1.1
  | succ j ih =>
    intro e he
    have hj : j < L.length := by have := (List.getElem?_eq_some_iff.1 he).1; omega
    have hm : L[j]? = some L[j] := List.getElem?_eq_getElem hj
    have h1 := ih _ hm
    have h2 := (h _ e he).2 j _ (by omega) hm
    omega
theorem Rising.length {N : Nat} {L : List En} (h : Rising N L) : L.length ≤ N := by
  rcases Nat.eq_zero_or_pos L.length with h0 | h0
  · omega
  · have hm : L[L.length - 1]? = some L[L.length - 1] := List.getElem?_eq_getElem (by omega)
    have h1 := h.le _ _ hm
    have h2 := (h _ _ hm).1.2
    omega
theorem Rising.inj {N : Nat} {L : List En} (h : Rising N L) {i j : Nat} {e e' : En} (hi : L[i]? = some e) (hj : L[j]? = some e') (hc : e.cell = e'.cell) : i = j := by
  rcases Nat.lt_trichotomy i j with h1 | h1 | h1
  · have := (h j e' hj).2 i e h1 hi; omega
  · exact h1
  · have := (h i e hi).2 j e' h1 hj; omega
/-- what a descriptor has reserved, or has still to release -/
def De.holds (d : De) (j : Nat) : Prop := (d.st = 0 ∧ j < d.pos) ∨ (d.st ≠ 0 ∧ d.pos ≤ j)
/-- the entry of a cell -/
def entAt (L : List En) (i : Nat) : Option En := L.find? fun e => e.cell == (i : Int)
theorem entAt_is {N : Nat} {L : List En} (h : Rising N L) {j : Nat} {e : En} (he : L[j]? = some e) {i : Nat} (hi : e.cell = i) : entAt L i = some e := by
  unfold entAt
  cases hf : L.find? (fun e => e.cell == (i : Int)) with
  | none =>
    have := List.find?_eq_none.1 hf e (List.mem_of_getElem? he)
    simp [hi] at this
  | some e' =>
    have h1 := List.find?_some hf
    obtain ⟨k, hk⟩ := List.getElem?_of_mem (List.mem_of_find?_eq_some hf)
    have h2 : e'.cell = e.cell := by simpa [hi] using h1
    have := h.inj hk he h2
    subst this
    rw [hk] at he
    cases he
    rfl
/-- a cell, once what is Done has been put -/
def pend (Ds : List De) (i : Nat) (c : C) : C :=
  match Ds[(c.mark - 1).toNat]? with
  | some d => if c.mark ≠ 0 ∧ d.st = 1 then (match entAt d.L i with
    | some e => if e.wr = true then ⟨e.new, e.ver + 1, 0⟩ else { c with mark := 0 }
    | none => { c with mark := 0 }) else { c with mark := 0 }
  | none => { c with mark := 0 }
theorem pend_free {Ds : List De} {i : Nat} {c : C} (h : c.mark = 0) : pend Ds i c = c := by
  obtain ⟨v, r, m⟩ := c
  simp only at h
  subst h
  unfold pend
  split
  · rw [if_neg (by simp)]
  · rfl
theorem pend_at {Ds : List De} {i k : Nat} {c : C} {d : De} (hm : c.mark = (k : Int) + 1) (hd : Ds[k]? = some d) :
    pend Ds i c = if d.st = 1 then (match entAt d.L i with
      | some e => if e.wr = true then ⟨e.new, e.ver + 1, 0⟩ else { c with mark := 0 }
      | none => { c with mark := 0 }) else { c with mark := 0 } := by
  have e : (c.mark - 1).toNat = k := by omega
  unfold pend
  rw [e, hd]
  have h0 : c.mark ≠ 0 := by omega
  simp only [ne_eq, h0, not_false_eq_true, true_and]
/-- all that holds of descriptors that go on on a store, and of what is wanted of it -/
structure Inv (N : Nat) (Ds : List De) (s : St) (W : List C) : Prop where
  mark : ∀ (k : Nat) (d : De), Ds[k]? = some d → d.mark = (k : Int) + 1
  ok : ∀ (k : Nat) (d : De), Ds[k]? = some d → d.ok
  rise : ∀ (k : Nat) (d : De), Ds[k]? = some d → Rising N d.L
  len : s.L.length = N
  lim : 1 ≤ s.lim
  wlen : W.length = N
  marks : ∀ (i : Nat) (c : C), s.L[i]? = some c → c.mark ≠ 0 → ∃ (k : Nat) (d : De) (j : Nat) (e : En), Ds[k]? = some d ∧ c.mark = (k : Int) + 1 ∧ d.L[j]? = some e ∧ e.cell = (i : Int) ∧ d.holds j
  held : ∀ (k : Nat) (d : De) (j : Nat) (e : En), Ds[k]? = some d → d.L[j]? = some e → d.holds j → d.st ≤ 1 → ∃ c, s.L[e.cell.toNat]? = some c ∧ c.mark = (k : Int) + 1 ∧ c.ver = e.ver ∧ (e.wr = true → c.ver ≠ s.lim)
  want : ∀ (i : Nat) (c : C), s.L[i]? = some c → W[i]? = some (pend Ds i c)
theorem St.get_pos {s : St} {x : Int} (h : 0 ≤ x) : s.get x = s.L[x.toNat]? := by simp [St.get, h]
theorem St.put_get {s : St} {x : Int} {c : C} {i : Nat} : (s.put x c).L[i]? = if x.toNat = i then (if i < s.L.length then some c else none) else s.L[i]? := by
  unfold St.put
  rw [List.getElem?_set]
  by_cases h : x.toNat = i
  · subst h; simp
  · simp [h]
section
variable {N : Nat} {Ds : List De} {s : St} {W : List C}
/-- the entries of one descriptor lie at unlike cells -/
theorem cell_ne {L : List En} (h : Rising N L) {i j : Nat} {e e' : En} (hi : L[i]? = some e) (hj : L[j]? = some e') (hne : i ≠ j) : e.cell.toNat ≠ e'.cell.toNat := fun hc => hne (h.inj hi hj (by
  have h1 := (h i e hi).1.1
  have h2 := (h j e' hj).1.1
  omega))
theorem Inv.get (h : Inv N Ds s W) {k : Nat} {d : De} (hd : Ds[k]? = some d) {j : Nat} {e : En} (he : d.L[j]? = some e) : ∃ c, s.L[e.cell.toNat]? = some c ∧ s.get e.cell = some c := by
  obtain ⟨h1, h2⟩ := (h.rise k d hd j e he).1
  have hl : e.cell.toNat < s.L.length := by rw [h.len]; omega
  exact ⟨_, List.getElem?_eq_getElem hl, by rw [St.get_pos h1]; exact List.getElem?_eq_getElem hl⟩
/-- one whose status and place have turned, and a cell perhaps -/
theorem set_at {k j : Nat} {d' x : De} (hj : (Ds.set k d')[j]? = some x) : (j = k ∧ x = d') ∨ (j ≠ k ∧ Ds[j]? = some x) := by
  rw [List.getElem?_set] at hj
  split at hj
  · next h =>
    split at hj
    · cases hj; exact .inl ⟨h.symm, rfl⟩
    · cases hj
  · next h => exact .inr ⟨fun e => h e.symm, hj⟩
theorem set_self {k : Nat} {d d' : De} (hd : Ds[k]? = some d) : (Ds.set k d')[k]? = some d' := List.getElem?_set_self (List.getElem?_eq_some_iff.1 hd).1
end
section
variable {N : Nat} {Ds : List De} {s : St} {W : List C} {k : Nat} {d : De}
/-- one that has failed, or is spent -/
theorem Inv.fail (h : Inv N Ds s W) (hd : Ds[k]? = some d) (h0 : d.st = 0) (x : Int) (hx : x = 2 ∨ x = 3) : Inv N (Ds.set k { d with st := x, pos := 0 }) s W := by
  have hok := h.ok k d hd
  refine ⟨fun j e hj => ?_, fun j e hj => ?_, fun j e hj => ?_, h.len, h.lim, h.wlen, fun i c hc hm => ?_, fun k' d' j e hk' hj hh hst => ?_, fun i c hc => ?_⟩
  · rcases set_at hj with ⟨rfl, rfl⟩ | ⟨_, hj⟩
    · exact h.mark j d hd
    · exact h.mark j e hj
  · rcases set_at hj with ⟨rfl, rfl⟩ | ⟨_, hj⟩
    · exact ⟨hok.mark, by simp; omega, by simp; omega, by simp, hok.len⟩
    · exact h.ok j e hj
  · rcases set_at hj with ⟨rfl, rfl⟩ | ⟨_, hj⟩
    · exact h.rise j d hd
    · exact h.rise j e hj
  · obtain ⟨k0, d0, j, e, h1, h2, h3, h4, h5⟩ := h.marks i c hc hm
    by_cases hk : k0 = k
    · subst hk
      rw [hd] at h1
      cases h1
      exact ⟨k0, _, j, e, set_self hd, h2, h3, h4, .inr ⟨by simp; omega, by simp⟩⟩
    · exact ⟨k0, d0, j, e, by rw [List.getElem?_set_ne (Ne.symm hk)]; exact h1, h2, h3, h4, h5⟩
  · rcases set_at hk' with ⟨rfl, rfl⟩ | ⟨_, hk'⟩
    · simp at hst; omega
    · exact h.held k' d' j e hk' hj hh hst
  · rw [h.want i c hc]
    by_cases hm : c.mark = 0
    · rw [pend_free hm, pend_free hm]
    · obtain ⟨k0, d0, j, e, h1, h2, h3, h4, h5⟩ := h.marks i c hc hm
      by_cases hk : k0 = k
      · subst hk
        rw [pend_at h2 hd, pend_at h2 (set_self hd), if_neg (by omega), if_neg (by simp; omega)]
      · rw [pend_at h2 h1, pend_at h2 (by rw [List.getElem?_set_ne (Ne.symm hk)]; exact h1)]
/-- one whose next cell is reserved -/
theorem Inv.reserve (h : Inv N Ds s W) (hd : Ds[k]? = some d) (h0 : d.st = 0) {e : En} (he : d.L[d.pos]? = some e) {c : C} (hc : s.L[e.cell.toNat]? = some c) (hm : c.mark = 0 ∨ c.mark = d.mark) (hv : c.ver = e.ver) (hl : e.wr = true → c.ver ≠ s.lim) :
    Inv N (Ds.set k { d with pos := d.pos + 1 }) (s.put e.cell { c with mark := d.mark }) W := by
  have hok := h.ok k d hd
  have hmk := h.mark k d hd
  have hp : d.pos < d.L.length := (List.getElem?_eq_some_iff.1 he).1
  have hcl := (List.getElem?_eq_some_iff.1 hc).1
  refine ⟨fun j e' hj => ?_, fun j e' hj => ?_, fun j e' hj => ?_, by rw [put_len]; exact h.len, h.lim, h.wlen, fun i c' hc' hm' => ?_, fun k' d' j e' hk' hj hh hst => ?_, fun i c' hc' => ?_⟩
  · rcases set_at hj with ⟨rfl, rfl⟩ | ⟨_, hj⟩
    · exact hmk
    · exact h.mark j e' hj
  · rcases set_at hj with ⟨rfl, rfl⟩ | ⟨_, hj⟩
    · exact ⟨hok.mark, hok.st0, hok.st1, hp, hok.len⟩
    · exact h.ok j e' hj
  · rcases set_at hj with ⟨rfl, rfl⟩ | ⟨_, hj⟩
    · exact h.rise j d hd
    · exact h.rise j e' hj
  · rw [St.put_get] at hc'
    by_cases hi : e.cell.toNat = i
    · rw [if_pos hi, if_pos (by omega)] at hc'
      cases hc'
      exact ⟨k, _, d.pos, e, set_self hd, hmk, he, by have := (h.rise k d hd d.pos e he).1.1; omega, .inl ⟨h0, by simp⟩⟩
    · rw [if_neg hi] at hc'
      obtain ⟨k0, d0, j, e0, h1, h2, h3, h4, h5⟩ := h.marks i c' hc' hm'
      by_cases hk : k0 = k
      · subst hk
        rw [hd] at h1
        cases h1
        refine ⟨k0, _, j, e0, set_self hd, h2, h3, h4, .inl ⟨h0, ?_⟩⟩
        rcases h5 with ⟨_, h5⟩ | ⟨h5, _⟩
        · simp; omega
        · exact absurd h0 h5
      · exact ⟨k0, d0, j, e0, by rw [List.getElem?_set_ne (Ne.symm hk)]; exact h1, h2, h3, h4, h5⟩
  · rcases set_at hk' with ⟨rfl, rfl⟩ | ⟨hne, hk'⟩
    · rcases hh with ⟨_, hh⟩ | ⟨hh, _⟩
      · simp only at hh hj
        by_cases hjp : j = d.pos
        · subst hjp
          rw [he] at hj
          cases hj
          exact ⟨{ c with mark := d.mark }, by rw [St.put_get, if_pos rfl, if_pos hcl], hmk, hv, hl⟩
        · obtain ⟨c1, h1, h2, h3, h4⟩ := h.held k' d j e' hd hj (.inl ⟨h0, by omega⟩) (by omega)
          exact ⟨c1, by rw [St.put_get, if_neg (cell_ne (h.rise k' d hd) he hj (Ne.symm hjp))]; exact h1, h2, h3, h4⟩
      · exact absurd h0 hh
    · obtain ⟨c1, h1, h2, h3, h4⟩ := h.held k' d' j e' hk' hj hh hst
      refine ⟨c1, ?_, h2, h3, h4⟩
      rw [St.put_get, if_neg]
      · exact h1
      · intro hi
        rw [← hi, hc] at h1
        cases h1
        omega
  · rw [St.put_get] at hc'
    by_cases hi : e.cell.toNat = i
    · rw [if_pos hi, if_pos (by omega)] at hc'
      cases hc'
      rw [hi] at hc
      rw [h.want i c hc, pend_at (k := k) (d := { d with pos := d.pos + 1 }) (by exact hmk) (set_self hd), if_neg (by simp; omega)]
      rcases hm with hm | hm
      · rw [pend_free hm]
        simp [← hm]
      · rw [pend_at (k := k) (by omega) hd, if_neg (by omega)]
    · rw [if_neg hi] at hc'
      rw [h.want i c' hc']
      by_cases hm' : c'.mark = 0
      · rw [pend_free hm', pend_free hm']
      · obtain ⟨k0, d0, j, e0, h1, h2, h3, h4, h5⟩ := h.marks i c' hc' hm'
        by_cases hk : k0 = k
        · subst hk
          rw [pend_at h2 hd, pend_at h2 (set_self hd)]
        · rw [pend_at h2 h1, pend_at h2 (by rw [List.getElem?_set_ne (Ne.symm hk)]; exact h1)]
end
/-- what is wanted, behind the first j entries of one that has become Done -/
def putW (W : List C) (e : En) : List C := if e.wr = true then W.set e.cell.toNat ⟨e.new, e.ver + 1, 0⟩ else W
def wantTo (W : List C) (L : List En) (j : Nat) : List C := (L.take j).foldl putW W
theorem wantTo_zero (W : List C) (L : List En) : wantTo W L 0 = W := rfl
theorem wantTo_succ {W : List C} {L : List En} {j : Nat} {e : En} (h : L[j]? = some e) : wantTo W L (j + 1) = putW (wantTo W L j) e := by
  unfold wantTo
  rw [List.take_add_one, h]
  simp [List.foldl_append]
theorem putW_length (W : List C) (e : En) : (putW W e).length = W.length := by unfold putW; split <;> simp
theorem wantTo_length (W : List C) (L : List En) (j : Nat) : (wantTo W L j).length = W.length := by
  unfold wantTo
  generalize L.take j = M
  induction M generalizing W with
  | nil => rfl
  | cons e M ih => rw [List.foldl_cons, ih, putW_length]
theorem wantTo_out {W : List C} {L : List En} {i : Nat} : ∀ (j : Nat), j ≤ L.length → (∀ (j' : Nat) (e : En), j' < j → L[j']? = some e → e.cell.toNat ≠ i) → (wantTo W L j)[i]? = W[i]? := by
  intro j
  induction j with
  | zero => exact fun _ _ => rfl
  | succ j ih =>
    intro hj h
    obtain ⟨e, he⟩ : ∃ e, L[j]? = some e := ⟨_, List.getElem?_eq_getElem (by omega)⟩
    rw [wantTo_succ he]
    unfold putW
    split
    · rw [List.getElem?_set_ne (h j e (by omega) he)]
      exact ih (by omega) fun j' e' h1 h2 => h j' e' (by omega) h2
    · exact ih (by omega) fun j' e' h1 h2 => h j' e' (by omega) h2
theorem wantTo_in {N : Nat} {W : List C} {L : List En} (hr : Rising N L) (hW : W.length = N) {j' : Nat} {e : En} (he : L[j']? = some e) : ∀ (j : Nat), j' < j → j ≤ L.length → (wantTo W L j)[e.cell.toNat]? = if e.wr = true then some ⟨e.new, e.ver + 1, 0⟩ else W[e.cell.toNat]? := by
  intro j
  induction j with
  | zero => exact fun h => absurd h (by omega)
  | succ j ih =>
    intro h1 h2
    obtain ⟨e2, he2⟩ : ∃ e, L[j]? = some e := ⟨_, List.getElem?_eq_getElem (by omega)⟩
    rw [wantTo_succ he2]
    unfold putW
    by_cases hjj : j' = j
    · subst hjj
      rw [he] at he2
      cases he2
      split
      · rw [List.getElem?_set_self]
        rw [wantTo_length, hW]
        have := (hr j' e he).1
        omega
      · exact wantTo_out j' (by omega) fun i e' h3 h4 => cell_ne hr h4 he (by omega)
    · have hne := cell_ne hr he2 he (Ne.symm hjj)
      split
      · rw [List.getElem?_set_ne hne]
        exact ih (by omega) (by omega)
      · exact ih (by omega) (by omega)
section
variable {N : Nat} {Ds : List De} {s : St} {W : List C} {k : Nat} {d : De}
/-- whoever becomes Done finds what it has read -/
theorem Inv.check (h : Inv N Ds s W) (hd : Ds[k]? = some d) (h0 : d.st = 0) (hp : d.pos = d.L.length) {j : Nat} {e : En} (he : d.L[j]? = some e) : ∃ c c0, (wantTo W d.L j)[e.cell.toNat]? = some c ∧ c.ver = e.ver ∧ s.L[e.cell.toNat]? = some c0 ∧ c0.ver = e.ver ∧ (e.wr = true → e.ver ≠ s.lim) := by
  have hj := (List.getElem?_eq_some_iff.1 he).1
  obtain ⟨c, h1, h2, h3, h4⟩ := h.held k d j e hd he (.inl ⟨h0, by omega⟩) (by omega)
  refine ⟨{ c with mark := 0 }, c, ?_, h3, h1, h3, fun hw => ?_⟩
  · rw [wantTo_out j (by omega) fun i e' h5 h6 => cell_ne (h.rise k d hd) h6 he (by omega), h.want _ _ h1, pend_at h2 hd, if_neg (by omega)]
  · have := h4 hw
    rw [h3] at this
    exact this
/-- one that has become Done -/
theorem Inv.done (h : Inv N Ds s W) (hd : Ds[k]? = some d) (h0 : d.st = 0) (hp : d.pos = d.L.length) : Inv N (Ds.set k { d with st := 1, pos := 0 }) s (wantTo W d.L d.L.length) := by
  have hok := h.ok k d hd
  have hr := h.rise k d hd
  refine ⟨fun j e hj => ?_, fun j e hj => ?_, fun j e hj => ?_, h.len, h.lim, by rw [wantTo_length]; exact h.wlen, fun i c hc hm => ?_, fun k' d' j e hk' hj hh hst => ?_, fun i c hc => ?_⟩
  · rcases set_at hj with ⟨rfl, rfl⟩ | ⟨_, hj⟩
    · exact h.mark j d hd
    · exact h.mark j e hj
  · rcases set_at hj with ⟨rfl, rfl⟩ | ⟨_, hj⟩
    · exact ⟨hok.mark, by simp, by simp, by simp, hok.len⟩
    · exact h.ok j e hj
  · rcases set_at hj with ⟨rfl, rfl⟩ | ⟨_, hj⟩
    · exact hr
    · exact h.rise j e hj
  · obtain ⟨k0, d0, j, e, h1, h2, h3, h4, h5⟩ := h.marks i c hc hm
    by_cases hk : k0 = k
    · subst hk
      rw [hd] at h1
      cases h1
      exact ⟨k0, _, j, e, set_self hd, h2, h3, h4, .inr ⟨by simp, by simp⟩⟩
    · exact ⟨k0, d0, j, e, by rw [List.getElem?_set_ne (Ne.symm hk)]; exact h1, h2, h3, h4, h5⟩
  · rcases set_at hk' with ⟨rfl, rfl⟩ | ⟨_, hk'⟩
    · simp only at hj
      have := (List.getElem?_eq_some_iff.1 hj).1
      exact h.held k' d j e hd hj (.inl ⟨h0, by omega⟩) (by omega)
    · exact h.held k' d' j e hk' hj hh hst
  · by_cases hin : ∃ (j : Nat) (e : En), d.L[j]? = some e ∧ e.cell.toNat = i
    · obtain ⟨j, e, he, rfl⟩ := hin
      have hj := (List.getElem?_eq_some_iff.1 he).1
      obtain ⟨c1, h1, h2, h3, h4⟩ := h.held k d j e hd he (.inl ⟨h0, by omega⟩) (by omega)
      rw [hc] at h1
      cases h1
      have hcell : e.cell = ((e.cell.toNat : Nat) : Int) := by have := (hr j e he).1.1; omega
      rw [wantTo_in hr h.wlen he _ hj (Nat.le_refl _), pend_at h2 (set_self hd), if_pos rfl, entAt_is hr he hcell]
      simp only
      split
      · rfl
      · rw [h.want _ _ hc, pend_at h2 hd, if_neg (by omega)]
    · rw [wantTo_out _ (Nat.le_refl _) fun j' e h1 h2 h3 => hin ⟨j', e, h2, h3⟩, h.want i c hc]
      by_cases hm : c.mark = 0
      · rw [pend_free hm, pend_free hm]
      · obtain ⟨k0, d0, j, e, h1, h2, h3, h4, h5⟩ := h.marks i c hc hm
        by_cases hk : k0 = k
        · subst hk
          rw [hd] at h1
          cases h1
          exact absurd ⟨j, e, h3, by omega⟩ hin
        · rw [pend_at h2 h1, pend_at h2 (by rw [List.getElem?_set_ne (Ne.symm hk)]; exact h1)]
/-- one that goes through its entries once more -/
theorem Inv.release (h : Inv N Ds s W) (hd : Ds[k]? = some d) (h0 : d.st ≠ 0) {e : En} (he : d.L[d.pos]? = some e) : Inv N (Ds.set k { d with pos := d.pos + 1 }) (relD d e s) W := by
  have hok := h.ok k d hd
  have hr := h.rise k d hd
  have hmk := h.mark k d hd
  have hp : d.pos < d.L.length := (List.getElem?_eq_some_iff.1 he).1
  obtain ⟨c, hc, hg⟩ := h.get hd he
  have hcl := (List.getElem?_eq_some_iff.1 hc).1
  have hcell : e.cell = ((e.cell.toNat : Nat) : Int) := by have := (hr d.pos e he).1.1; omega
  -- what becomes of the cell
  have hput : (c.mark = d.mark ∧ ∃ c', relD d e s = s.put e.cell c' ∧ c'.mark = 0 ∧ c' = pend Ds e.cell.toNat c) ∨ (c.mark ≠ d.mark ∧ relD d e s = s) := by
    by_cases hm : c.mark = d.mark
    · refine .inl ⟨hm, ?_⟩
      have hm2 : c.mark = (k : Int) + 1 := by omega
      rw [pend_at hm2 hd, entAt_is hr he hcell]
      have hmm : ¬ (d.mark < 1 ∨ c.mark ≠ d.mark) := by have := hok.mark; omega
      unfold relD
      by_cases h1 : d.st = 1
      · obtain ⟨c1, g1, g2, g3, g4⟩ := h.held k d d.pos e hd he (.inr ⟨h0, Nat.le_refl _⟩) (by omega)
        rw [hc] at g1
        cases g1
        rw [if_pos h1]
        by_cases hw : e.wr = true
        · rw [if_pos ⟨h1, hw⟩]
          simp only [putI, hg, if_neg hmm, if_neg (g4 hw)]
          exact ⟨_, rfl, rfl, by rw [if_pos hw, g3]⟩
        · rw [if_neg (fun x => hw x.2)]
          simp only [relI, hg, if_neg hmm]
          exact ⟨_, rfl, rfl, by rw [if_neg hw]⟩
      · rw [if_neg (fun x => h1 x.1), if_neg h1]
        simp only [relI, hg, if_neg hmm]
        exact ⟨_, rfl, rfl, rfl⟩
    · refine .inr ⟨hm, ?_⟩
      unfold relD
      split
      · simp only [putI, hg]; rw [if_pos (.inr hm)]
      · simp only [relI, hg]; rw [if_pos (.inr hm)]
  have hlen : (relD d e s).L.length = N := by
    rcases hput with ⟨_, c', h1, _⟩ | ⟨_, h1⟩
    · rw [h1, put_len]; exact h.len
    · rw [h1]; exact h.len
  have hlim : (relD d e s).lim = s.lim := by
    rcases hput with ⟨_, c', h1, _⟩ | ⟨_, h1⟩
    · rw [h1]; rfl
    · rw [h1]
  -- a cell that bears a mark is as it was, and isn't this one's
  have hsame : ∀ (i : Nat) (x : C), (relD d e s).L[i]? = some x → x.mark ≠ 0 → s.L[i]? = some x ∧ (x.mark = d.mark → e.cell.toNat ≠ i) := fun i x hx hm => by
    rcases hput with ⟨_, c', h1, h2, _⟩ | ⟨h2, h1⟩
    · rw [h1, St.put_get] at hx
      by_cases hi : e.cell.toNat = i
      · rw [if_pos hi, if_pos (by omega)] at hx
        cases hx
        exact absurd h2 hm
      · rw [if_neg hi] at hx
        exact ⟨hx, fun _ => hi⟩
    · rw [h1] at hx
      refine ⟨hx, fun h3 hi => ?_⟩
      rw [← hi, hc] at hx
      cases hx
      exact h2 h3
  have hback : ∀ (i : Nat) (x : C), s.L[i]? = some x → e.cell.toNat ≠ i ∨ x.mark ≠ d.mark → (relD d e s).L[i]? = some x := fun i x hx hi => by
    rcases hput with ⟨hm, c', h1, h2, _⟩ | ⟨h2, h1⟩
    · rw [h1, St.put_get, if_neg]
      · exact hx
      · intro h3
        rw [← h3, hc] at hx
        cases hx
        rcases hi with hi | hi
        · exact hi h3
        · exact hi hm
    · rw [h1]; exact hx
  refine ⟨fun j e' hj => ?_, fun j e' hj => ?_, fun j e' hj => ?_, hlen, by rw [hlim]; exact h.lim, h.wlen, fun i x hx hm => ?_, fun k' d' j e' hk' hj hh hst => ?_, fun i x hx => ?_⟩
  · rcases set_at hj with ⟨rfl, rfl⟩ | ⟨_, hj⟩
    · exact hmk
    · exact h.mark j e' hj
  · rcases set_at hj with ⟨rfl, rfl⟩ | ⟨_, hj⟩
    · exact ⟨hok.mark, hok.st0, hok.st1, hp, hok.len⟩
    · exact h.ok j e' hj
  · rcases set_at hj with ⟨rfl, rfl⟩ | ⟨_, hj⟩
    · exact hr
    · exact h.rise j e' hj
  · obtain ⟨hx', hne⟩ := hsame i x hx hm
    obtain ⟨k0, d0, j, e0, h1, h2, h3, h4, h5⟩ := h.marks i x hx' hm
    by_cases hk : k0 = k
    · subst hk
      rw [hd] at h1
      cases h1
      refine ⟨k0, _, j, e0, set_self hd, h2, h3, h4, .inr ⟨h0, ?_⟩⟩
      rcases h5 with ⟨h5, _⟩ | ⟨_, h5⟩
      · exact absurd h5 h0
      · have : j ≠ d.pos := by
          rintro rfl
          rw [he] at h3
          cases h3
          exact hne (by omega) (by omega)
        simp
        omega
    · exact ⟨k0, d0, j, e0, by rw [List.getElem?_set_ne (Ne.symm hk)]; exact h1, h2, h3, h4, h5⟩
  · rw [hlim]
    rcases set_at hk' with ⟨rfl, rfl⟩ | ⟨hne, hk'⟩
    · simp only at hj hst
      rcases hh with ⟨hh, _⟩ | ⟨_, hh⟩
      · exact absurd hh h0
      · simp only at hh
        obtain ⟨c1, h1, h2, h3, h4⟩ := h.held k' d j e' hd hj (.inr ⟨h0, by omega⟩) hst
        exact ⟨c1, hback _ _ h1 (.inl (cell_ne hr he hj (by omega))), h2, h3, h4⟩
    · obtain ⟨c1, h1, h2, h3, h4⟩ := h.held k' d' j e' hk' hj hh hst
      exact ⟨c1, hback _ _ h1 (.inr (by omega)), h2, h3, h4⟩
  · by_cases hm : x.mark = 0
    · rw [pend_free hm]
      rcases hput with ⟨hmm, c', h1, h2, h3⟩ | ⟨h2, h1⟩
      · rw [h1, St.put_get] at hx
        by_cases hi : e.cell.toNat = i
        · rw [if_pos hi, if_pos (by omega)] at hx
          cases hx
          rw [h3, ← hi]
          exact h.want _ _ hc
        · rw [if_neg hi] at hx
          rw [h.want i x hx, pend_free hm]
      · rw [h1] at hx
        rw [h.want i x hx, pend_free hm]
    · obtain ⟨hx', -⟩ := hsame i x hx hm
      obtain ⟨k0, d0, j, e0, h1, h2, h3, h4, h5⟩ := h.marks i x hx' hm
      rw [h.want i x hx']
      by_cases hk : k0 = k
      · subst hk
        rw [pend_at h2 hd, pend_at h2 (set_self hd)]
      · rw [pend_at h2 h1, pend_at h2 (by rw [List.getElem?_set_ne (Ne.symm hk)]; exact h1)]
end
/-- how much a descriptor has still to do -/
def phi (d : De) : Nat := if d.st = 0 then 2 * d.L.length - d.pos + 1 else d.L.length - d.pos
theorem set_same {Ds : List De} {k : Nat} {d : De} (hd : Ds[k]? = some d) : Ds.set k d = Ds := by
  have hl := (List.getElem?_eq_some_iff.1 hd)
  have := List.set_getElem_self (as := Ds) (i := k) hl.1
  rwa [hl.2] at this
section
variable {N : Nat} {Ds : List De} {s : St} {W : List C} {k : Nat} {d : De}
/-- what a step comes to -/
theorem Inv.step (h : Inv N Ds s W) (hd : Ds[k]? = some d) {x : Int} {d' : De} {s' : St} (hs : stepD d s = (x, d', s')) :
    (x ≠ 0 ∧ d' = d ∧ s' = s ∧ d.st = 0 ∧ ∃ e c, d.L[d.pos]? = some e ∧ s.L[e.cell.toNat]? = some c ∧ c.mark = x) ∨
    (x = 0 ∧ Inv N (Ds.set k d') s' (if d.st = 0 ∧ d'.st = 1 then wantTo W d.L d.L.length else W) ∧ (d.over = true → d' = d ∧ s' = s) ∧ (d.over = false → phi d' + 1 ≤ phi d) ∧ (d.st = 0 → d'.st = 1 → d.pos = d.L.length)) := by
  have hok := h.ok k d hd
  have hself : Ds.set k d = Ds := by
    have hl := (List.getElem?_eq_some_iff.1 hd)
    have := List.set_getElem_self (as := Ds) (i := k) hl.1
    rwa [hl.2] at this
  by_cases h0 : d.st = 0
  · have hov : ¬ d.over = true := by simp [De.over, h0]
    by_cases hp : d.pos < d.L.length
    · obtain ⟨e, he⟩ : ∃ e, d.L[d.pos]? = some e := ⟨_, List.getElem?_eq_getElem hp⟩
      obtain ⟨c, hc, hg⟩ := h.get hd he
      simp only [stepD, he, if_pos h0, rsvD, hg] at hs
      by_cases h4 : c.mark ≠ 0 ∧ c.mark ≠ d.mark
      · rw [if_pos h4] at hs
        cases hs
        exact .inl ⟨h4.1, rfl, rfl, h0, e, c, he, hc, rfl⟩
      · rw [if_neg h4] at hs
        right
        by_cases hv : c.ver = e.ver
        · rw [if_neg (not_not_intro hv)] at hs
          by_cases h3 : e.wr = true ∧ c.ver = s.lim
          · rw [if_pos h3] at hs
            cases hs
            refine ⟨rfl, ?_, fun g => absurd g hov, fun _ => by simp [phi, h0]; omega, fun _ g => by simp at g⟩
            rw [if_neg (by simp)]
            exact h.fail hd h0 3 (.inr rfl)
          · rw [if_neg h3] at hs
            cases hs
            refine ⟨rfl, ?_, fun g => absurd g hov, fun _ => by simp [phi, h0]; omega, fun _ g => by simp at g; omega⟩
            rw [if_neg (by simp; omega)]
            exact h.reserve hd h0 he hc (by omega) hv (fun g1 g2 => h3 ⟨g1, g2⟩)
        · rw [if_pos hv] at hs
          cases hs
          refine ⟨rfl, ?_, fun g => absurd g hov, fun _ => by simp [phi, h0]; omega, fun _ g => by simp at g⟩
          rw [if_neg (by simp)]
          exact h.fail hd h0 2 (.inl rfl)
    · have hn : d.L[d.pos]? = none := List.getElem?_eq_none (by omega)
      have hpl : d.pos = d.L.length := by have := hok.pos; omega
      simp only [stepD, hn, if_pos h0] at hs
      cases hs
      refine .inr ⟨rfl, ?_, fun g => absurd g hov, fun _ => by simp [phi, h0]; omega, fun _ _ => hpl⟩
      rw [if_pos ⟨h0, rfl⟩]
      exact h.done hd h0 hpl
  · right
    by_cases hp : d.pos < d.L.length
    · obtain ⟨e, he⟩ : ∃ e, d.L[d.pos]? = some e := ⟨_, List.getElem?_eq_getElem hp⟩
      simp only [stepD, he, if_neg h0] at hs
      cases hs
      refine ⟨rfl, ?_, fun g => ?_, fun _ => by simp [phi, h0]; omega, fun g => absurd g h0⟩
      · rw [if_neg (fun g => h0 g.1)]
        exact h.release hd h0 he
      · simp [De.over] at g
        omega
    · have hn : d.L[d.pos]? = none := List.getElem?_eq_none (by omega)
      simp only [stepD, hn, if_neg h0] at hs
      cases hs
      refine ⟨rfl, ?_, fun _ => ⟨rfl, rfl⟩, fun g => ?_, fun g => absurd g h0⟩
      · rw [if_neg (fun g => h0 g.1), hself]
        exact h
      · simp [De.over, h0] at g
        have := hok.pos
        omega
end
/-- does one look at a cell beyond b? -/
def nxt (b : Int) (d : De) : Bool := d.st == 0 && (match d.L[d.pos]? with
  | some e => decide (b < e.cell)
  | none => false)
theorem countP_less {α : Type} {p q : α → Bool} {l : List α} (h : ∀ x ∈ l, p x = true → q x = true) {y : α} (hy : y ∈ l) (h1 : q y = true) (h2 : p y = false) : l.countP p + 1 ≤ l.countP q := by
  induction l with
  | nil => simp at hy
  | cons x l ih =>
    have hl : ∀ x ∈ l, p x = true → q x = true := fun z hz => h z (by simp [hz])
    have hm : l.countP p ≤ l.countP q := List.countP_mono_left hl
    rw [List.countP_cons, List.countP_cons]
    rcases List.mem_cons.1 hy with rfl | hy
    · rw [h1, h2]
      simp
      omega
    · have := ih hl hy
      have hx := h x (by simp)
      cases hp : p x with
      | false => simp; omega
      | true => rw [hx hp]; simp; omega
end Go.Proofs.Ytleomgmhkoglmaa
