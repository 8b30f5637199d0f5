/- Descriptors that help each other, as mathematics (layer 7): what holds of them at each step; a chain of helpers ends; all are over before long. No dump is read here. -/
import Derived.Test.YtgkjkmdenmighaaDescL
namespace Go.Proofs.Ytgkjkmdenmighaa
open Go.RowKit
/-- entries that rise by cells, each of a store of N -/
def Rising (N : Nat) (L : List En) : Prop := ∀ (j : Nat) (e : En), L[j]? = some e → (0 ≤ e.cell ∧ e.cell < N) ∧ ∀ (i : Nat) (e' : En), i < j → L[i]? = some e' → e'.cell < e.cell
theorem Rising.of_adj {N : Nat} {L : List En} (h : ∀ (j : Nat) (e : En), L[j]? = some e → (0 ≤ e.cell ∧ e.cell < N) ∧ ∀ e', 0 < j → L[j - 1]? = some e' → e'.cell < e.cell) : Rising N L := by
  intro j
  induction j with
  | zero => exact fun e he => ⟨(h 0 e he).1, fun i e' hi => absurd hi (by omega)⟩
  | succ j ih =>
    intro e he
    refine ⟨(h _ e he).1, fun i e' hi he' => ?_⟩
    have hj : j < L.length := by have := (List.getElem?_eq_some_iff.1 he).1; omega
    have hm : L[j]? = some L[j] := List.getElem?_eq_getElem hj
    have h1 := (h _ e he).2 L[j] (by omega) (by simp)
    by_cases hij : i = j
    · subst hij
      rw [hm] at he'
      cases he'
      exact h1
    · have := (ih _ hm).2 i e' (by omega) he'
      omega
theorem Rising.le {N : Nat} {L : List En} (h : Rising N L) : ∀ (j : Nat) (e : En), L[j]? = some e → (j : Int) ≤ e.cell := by
  intro j
  induction j with
  | zero => exact fun e he => (h 0 e he).1.1
  | succ j ih =>
    intro e he
    have hj : j < L.length := by have := (List.getElem?_eq_some_iff.1 he).1; omega
    have hm : L[j]? = some L[j] := List.getElem?_eq_getElem hj
    have h1 := ih _ hm
    have h2 := (h _ e he).2 j _ (by omega) hm
    omega
theorem Rising.length {N : Nat} {L : List En} (h : Rising N L) : L.length ≤ N := by
  rcases Nat.eq_zero_or_pos L.length with h0 | h0
  · omega
  · have hm : L[L.length - 1]? = some L[L.length - 1] := List.getElem?_eq_getElem (by omega)
    have h1 := h.le _ _ hm
    have h2 := (h _ _ hm).1.2
    omega
theorem Rising.inj {N : Nat} {L : List En} (h : Rising N L) {i j : Nat} {e e' : En} (hi : L[i]? = some e) (hj : L[j]? = some e') (hc : e.cell = e'.cell) : i = j := by
  rcases Nat.lt_trichotomy i j with h1 | h1 | h1
  · have := (h j e' hj).2 i e h1 hi; omega
  · exact h1
  · have := (h i e hi).2 j e' h1 hj; omega
/-- what a descriptor has reserved, or has still to release -/
def De.holds (d : De) (j : Nat) : Prop := (d.st = 0 ∧ j < d.pos) ∨ (d.st ≠ 0 ∧ d.pos ≤ j)
/-- the entry of a cell -/
def entAt (L : List En) (i : Nat) : Option En := L.find? fun e => e.cell == (i : Int)
theorem entAt_is {N : Nat} {L : List En} (h : Rising N L) {j : Nat} {e : En} (he : L[j]? = some e) {i : Nat} (hi : e.cell = i) : entAt L i = some e := by
  unfold entAt
  cases hf : L.find? (fun e => e.cell == (i : Int)) with
  | none =>
    have := List.find?_eq_none.1 hf e (List.mem_of_getElem? he)
    simp [hi] at this
  | some e' =>
    have h1 := List.find?_some hf
    obtain ⟨k, hk⟩ := List.getElem?_of_mem (List.mem_of_find?_eq_some hf)
    have h2 : e'.cell = e.cell := by simpa [hi] using h1
    have := h.inj hk he h2
    subst this
    rw [hk] at he
    cases he
    rfl
/-- a cell, once what is Done has been put -/
def pend (Ds : List De) (i : Nat) (c : C) : C :=
  match Ds[(c.mark - 1).toNat]? with
  | some d => if c.mark ≠ 0 ∧ d.st = 1 then (match entAt d.L i with
    | some e => if e.wr = true then ⟨e.new, e.ver + 1, 0⟩ else { c with mark := 0 }
    | none => { c with mark := 0 }) else { c with mark := 0 }
  | none => { c with mark := 0 }
theorem pend_free {Ds : List De} {i : Nat} {c : C} (h : c.mark = 0) : pend Ds i c = c := by
  obtain ⟨v, r, m⟩ := c
  simp only at h
  subst h
  unfold pend
  split
  · rw [if_neg (by simp)]
  · rfl
theorem pend_at {Ds : List De} {i k : Nat} {c : C} {d : De} (hm : c.mark = (k : Int) + 1) (hd : Ds[k]? = some d) :
    pend Ds i c = if d.st = 1 then (match entAt d.L i with
      | some e => if e.wr = true then ⟨e.new, e.ver + 1, 0⟩ else { c with mark := 0 }
      | none => { c with mark := 0 }) else { c with mark := 0 } := by
  have e : (c.mark - 1).toNat = k := by omega
  unfold pend
  rw [e, hd]
  have h0 : c.mark ≠ 0 := by omega
  simp only [ne_eq, h0, not_false_eq_true, true_and]
/-- all that holds of descriptors that go on on a store, and of what is wanted of it -/
structure Inv (N : Nat) (Ls : List (List En)) (Ds : List De) (s : St) (W : List C) : Prop where
  n : Ds.length = Ls.length
  mark : ∀ (k : Nat) (d : De), Ds[k]? = some d → d.mark = (k : Int) + 1
  list : ∀ (k : Nat) (d : De), Ds[k]? = some d → Ls[k]? = some d.L
  ok : ∀ (k : Nat) (d : De), Ds[k]? = some d → d.ok
  rise : ∀ (k : Nat) (d : De), Ds[k]? = some d → Rising N d.L
  len : s.L.length = N
  lim : s.lim = 1000
  wlen : W.length = N
  marks : ∀ (i : Nat) (c : C), s.L[i]? = some c → c.mark ≠ 0 → ∃ (k : Nat) (d : De) (j : Nat) (e : En), Ds[k]? = some d ∧ c.mark = (k : Int) + 1 ∧ d.L[j]? = some e ∧ e.cell = (i : Int) ∧ d.holds j
  held : ∀ (k : Nat) (d : De) (j : Nat) (e : En), Ds[k]? = some d → d.L[j]? = some e → d.holds j → d.st ≤ 1 → ∃ c, s.L[e.cell.toNat]? = some c ∧ c.mark = (k : Int) + 1 ∧ c.ver = e.ver ∧ (e.wr = true → c.ver ≠ s.lim)
  want : ∀ (i : Nat) (c : C), s.L[i]? = some c → W[i]? = some (pend Ds i c)
theorem St.get_pos {s : St} {x : Int} (h : 0 ≤ x) : s.get x = s.L[x.toNat]? := by simp [St.get, h]
theorem St.put_get {s : St} {x : Int} {c : C} {i : Nat} : (s.put x c).L[i]? = if x.toNat = i then (if i < s.L.length then some c else none) else s.L[i]? := by
  unfold St.put
  rw [List.getElem?_set]
  by_cases h : x.toNat = i
  · subst h; simp
  · simp [h]
section
variable {N : Nat} {Ls : List (List En)} {Ds : List De} {s : St} {W : List C}
/-- the entries of one descriptor lie at unlike cells -/
theorem cell_ne {L : List En} (h : Rising N L) {i j : Nat} {e e' : En} (hi : L[i]? = some e) (hj : L[j]? = some e') (hne : i ≠ j) : e.cell.toNat ≠ e'.cell.toNat := fun hc => hne (h.inj hi hj (by
  have h1 := (h i e hi).1.1
  have h2 := (h j e' hj).1.1
  omega))
theorem Inv.get (h : Inv N Ls Ds s W) {k : Nat} {d : De} (hd : Ds[k]? = some d) {j : Nat} {e : En} (he : d.L[j]? = some e) : ∃ c, s.L[e.cell.toNat]? = some c ∧ s.get e.cell = some c := by
  obtain ⟨h1, h2⟩ := (h.rise k d hd j e he).1
  have hl : e.cell.toNat < s.L.length := by rw [h.len]; omega
  exact ⟨_, List.getElem?_eq_getElem hl, by rw [St.get_pos h1]; exact List.getElem?_eq_getElem hl⟩
/-- one whose status and place have turned, and a cell perhaps -/
theorem set_at {k j : Nat} {d' x : De} (hj : (Ds.set k d')[j]? = some x) : (j = k ∧ x = d') ∨ (j ≠ k ∧ Ds[j]? = some x) := by
  rw [List.getElem?_set] at hj
  split at hj
  · next h =>
    split at hj
    · cases hj; exact .inl ⟨h.symm, rfl⟩
    · cases hj
  · next h => exact .inr ⟨fun e => h e.symm, hj⟩
theorem set_self {k : Nat} {d d' : De} (hd : Ds[k]? = some d) : (Ds.set k d')[k]? = some d' := List.getElem?_set_self (List.getElem?_eq_some_iff.1 hd).1
end
section
variable {N : Nat} {Ls : List (List En)} {Ds : List De} {s : St} {W : List C} {k : Nat} {d : De}
/-- one that has failed, or is spent -/
theorem Inv.fail (h : Inv N Ls Ds s W) (hd : Ds[k]? = some d) (h0 : d.st = 0) (x : Int) (hx : x = 2 ∨ x = 3) : Inv N Ls (Ds.set k { d with st := x, pos := 0 }) s W := by
  have hok := h.ok k d hd
  refine ⟨by simp [h.n], fun j e hj => ?_, fun j e hj => ?_, fun j e hj => ?_, fun j e hj => ?_, h.len, h.lim, h.wlen, fun i c hc hm => ?_, fun k' d' j e hk' hj hh hst => ?_, fun i c hc => ?_⟩
  · rcases set_at hj with ⟨rfl, rfl⟩ | ⟨_, hj⟩
    · exact h.mark j d hd
    · exact h.mark j e hj
  · rcases set_at hj with ⟨rfl, rfl⟩ | ⟨_, hj⟩
    · exact h.list j d hd
    · exact h.list j e hj
  · rcases set_at hj with ⟨rfl, rfl⟩ | ⟨_, hj⟩
    · exact ⟨hok.mark, by simp; omega, by simp; omega, by simp, hok.len⟩
    · exact h.ok j e hj
  · rcases set_at hj with ⟨rfl, rfl⟩ | ⟨_, hj⟩
    · exact h.rise j d hd
    · exact h.rise j e hj
  · obtain ⟨k0, d0, j, e, h1, h2, h3, h4, h5⟩ := h.marks i c hc hm
    by_cases hk : k0 = k
    · subst hk
      rw [hd] at h1
      cases h1
      exact ⟨k0, _, j, e, set_self hd, h2, h3, h4, .inr ⟨by simp; omega, by simp⟩⟩
    · exact ⟨k0, d0, j, e, by rw [List.getElem?_set_ne (Ne.symm hk)]; exact h1, h2, h3, h4, h5⟩
  · rcases set_at hk' with ⟨rfl, rfl⟩ | ⟨_, hk'⟩
    · simp at hst; omega
    · exact h.held k' d' j e hk' hj hh hst
  · rw [h.want i c hc]
    by_cases hm : c.mark = 0
    · rw [pend_free hm, pend_free hm]
    · obtain ⟨k0, d0, j, e, h1, h2, h3, h4, h5⟩ := h.marks i c hc hm
      by_cases hk : k0 = k
      · subst hk
        rw [pend_at h2 hd, pend_at h2 (set_self hd), if_neg (by omega), if_neg (by simp; omega)]
      · rw [pend_at h2 h1, pend_at h2 (by rw [List.getElem?_set_ne (Ne.symm hk)]; exact h1)]
/-- one whose next cell is reserved -/
theorem Inv.reserve (h : Inv N Ls Ds s W) (hd : Ds[k]? = some d) (h0 : d.st = 0) {e : En} (he : d.L[d.pos]? = some e) {c : C} (hc : s.L[e.cell.toNat]? = some c) (hm : c.mark = 0 ∨ c.mark = d.mark) (hv : c.ver = e.ver) (hl : e.wr = true → c.ver ≠ s.lim) :
    Inv N Ls (Ds.set k { d with pos := d.pos + 1 }) (s.put e.cell { c with mark := d.mark }) W := by
  have hok := h.ok k d hd
  have hmk := h.mark k d hd
  have hp : d.pos < d.L.length := (List.getElem?_eq_some_iff.1 he).1
  have hcl := (List.getElem?_eq_some_iff.1 hc).1
  refine ⟨by simp [h.n], fun j e' hj => ?_, fun j e' hj => ?_, fun j e' hj => ?_, fun j e' hj => ?_, by rw [put_len]; exact h.len, h.lim, h.wlen, fun i c' hc' hm' => ?_, fun k' d' j e' hk' hj hh hst => ?_, fun i c' hc' => ?_⟩
  · rcases set_at hj with ⟨rfl, rfl⟩ | ⟨_, hj⟩
    · exact hmk
    · exact h.mark j e' hj
  · rcases set_at hj with ⟨rfl, rfl⟩ | ⟨_, hj⟩
    · exact h.list j d hd
    · exact h.list j e' hj
  · rcases set_at hj with ⟨rfl, rfl⟩ | ⟨_, hj⟩
    · exact ⟨hok.mark, hok.st0, hok.st1, hp, hok.len⟩
    · exact h.ok j e' hj
  · rcases set_at hj with ⟨rfl, rfl⟩ | ⟨_, hj⟩
    · exact h.rise j d hd
    · exact h.rise j e' hj
  · rw [St.put_get] at hc'
    by_cases hi : e.cell.toNat = i
    · rw [if_pos hi, if_pos (by omega)] at hc'
      cases hc'
      exact ⟨k, _, d.pos, e, set_self hd, hmk, he, by have := (h.rise k d hd d.pos e he).1.1; omega, .inl ⟨h0, by simp⟩⟩
    · rw [if_neg hi] at hc'
      obtain ⟨k0, d0, j, e0, h1, h2, h3, h4, h5⟩ := h.marks i c' hc' hm'
      by_cases hk : k0 = k
      · subst hk
        rw [hd] at h1
        cases h1
        refine ⟨k0, _, j, e0, set_self hd, h2, h3, h4, .inl ⟨h0, ?_⟩⟩
        rcases h5 with ⟨_, h5⟩ | ⟨h5, _⟩
        · simp; omega
        · exact absurd h0 h5
      · exact ⟨k0, d0, j, e0, by rw [List.getElem?_set_ne (Ne.symm hk)]; exact h1, h2, h3, h4, h5⟩
  · rcases set_at hk' with ⟨rfl, rfl⟩ | ⟨hne, hk'⟩
    · rcases hh with ⟨_, hh⟩ | ⟨hh, _⟩
      · simp only at hh hj
        by_cases hjp : j = d.pos
        · subst hjp
          rw [he] at hj
          cases hj
          exact ⟨{ c with mark := d.mark }, by rw [St.put_get, if_pos rfl, if_pos hcl], hmk, hv, hl⟩
        · obtain ⟨c1, h1, h2, h3, h4⟩ := h.held k' d j e' hd hj (.inl ⟨h0, by omega⟩) (by omega)
          exact ⟨c1, by rw [St.put_get, if_neg (cell_ne (h.rise k' d hd) he hj (Ne.symm hjp))]; exact h1, h2, h3, h4⟩
      · exact absurd h0 hh
    · obtain ⟨c1, h1, h2, h3, h4⟩ := h.held k' d' j e' hk' hj hh hst
      refine ⟨c1, ?_, h2, h3, h4⟩
      rw [St.put_get, if_neg]
      · exact h1
      · intro hi
        rw [← hi, hc] at h1
        cases h1
        omega
  · rw [St.put_get] at hc'
    by_cases hi : e.cell.toNat = i
    · rw [if_pos hi, if_pos (by omega)] at hc'
      cases hc'
      rw [hi] at hc
      rw [h.want i c hc, pend_at (k := k) (d := { d with pos := d.pos + 1 }) (by exact hmk) (set_self hd), if_neg (by simp; omega)]
      rcases hm with hm | hm
      · rw [pend_free hm]
        simp [← hm]
      · rw [pend_at (k := k) (by omega) hd, if_neg (by omega)]
    · rw [if_neg hi] at hc'
      rw [h.want i c' hc']
      by_cases hm' : c'.mark = 0
      · rw [pend_free hm', pend_free hm']
      · obtain ⟨k0, d0, j, e0, h1, h2, h3, h4, h5⟩ := h.marks i c' hc' hm'
        by_cases hk : k0 = k
        · subst hk
          rw [pend_at h2 hd, pend_at h2 (set_self hd)]
        · rw [pend_at h2 h1, pend_at h2 (by rw [List.getElem?_set_ne (Ne.symm hk)]; exact h1)]
end
/-- what is wanted, behind the first j entries of one that has become Done -/
def putW (W : List C) (e : En) : List C := if e.wr = true then W.set e.cell.toNat ⟨e.new, e.ver + 1, 0⟩ else W
def wantTo (W : List C) (L : List En) (j : Nat) : List C := (L.take j).foldl putW W
theorem wantTo_zero (W : List C) (L : List En) : wantTo W L 0 = W := rfl
theorem wantTo_succ {W : List C} {L : List En} {j : Nat} {e : En} (h : L[j]? = some e) : wantTo W L (j + 1) = putW (wantTo W L j) e := by
  unfold wantTo
  rw [List.take_add_one, h]
  simp [List.foldl_append]
theorem putW_length (W : List C) (e : En) : (putW W e).length = W.length := by unfold putW; split <;> simp
theorem wantTo_length (W : List C) (L : List En) (j : Nat) : (wantTo W L j).length = W.length := by
  unfold wantTo
  generalize L.take j = M
  induction M generalizing W with
  | nil => rfl
  | cons e M ih => rw [List.foldl_cons, ih, putW_length]
theorem wantTo_out {W : List C} {L : List En} {i : Nat} : ∀ (j : Nat), j ≤ L.length → (∀ (j' : Nat) (e : En), j' < j → L[j']? = some e → e.cell.toNat ≠ i) → (wantTo W L j)[i]? = W[i]? := by
  intro j
  induction j with
  | zero => exact fun _ _ => rfl
  | succ j ih =>
    intro hj h
    obtain ⟨e, he⟩ : ∃ e, L[j]? = some e := ⟨_, List.getElem?_eq_getElem (by omega)⟩
    rw [wantTo_succ he]
    unfold putW
    split
    · rw [List.getElem?_set_ne (h j e (by omega) he)]
      exact ih (by omega) fun j' e' h1 h2 => h j' e' (by omega) h2
    · exact ih (by omega) fun j' e' h1 h2 => h j' e' (by omega) h2
theorem wantTo_in {N : Nat} {W : List C} {L : List En} (hr : Rising N L) (hW : W.length = N) {j' : Nat} {e : En} (he : L[j']? = some e) : ∀ (j : Nat), j' < j → j ≤ L.length → (wantTo W L j)[e.cell.toNat]? = if e.wr = true then some ⟨e.new, e.ver + 1, 0⟩ else W[e.cell.toNat]? := by
  intro j
  induction j with
  | zero => exact fun h => absurd h (by omega)
  | succ j ih =>
    intro h1 h2
    obtain ⟨e2, he2⟩ : ∃ e, L[j]? = some e := ⟨_, List.getElem?_eq_getElem (by omega)⟩
    rw [wantTo_succ he2]
    unfold putW
    by_cases hjj : j' = j
    · subst hjj
      rw [he] at he2
      cases he2
      split
      · rw [List.getElem?_set_self]
        rw [wantTo_length, hW]
        have := (hr j' e he).1
        omega
      · exact wantTo_out j' (by omega) fun i e' h3 h4 => cell_ne hr h4 he (by omega)
    · have hne := cell_ne hr he2 he (Ne.symm hjj)
      split
      · rw [List.getElem?_set_ne hne]
        exact ih (by omega) (by omega)
      · exact ih (by omega) (by omega)
section
variable {N : Nat} {Ls : List (List En)} {Ds : List De} {s : St} {W : List C} {k : Nat} {d : De}
/-- whoever becomes Done finds what it has read -/
theorem Inv.check (h : Inv N Ls Ds s W) (hd : Ds[k]? = some d) (h0 : d.st = 0) (hp : d.pos = d.L.length) {j : Nat} {e : En} (he : d.L[j]? = some e) : ∃ c c0, (wantTo W d.L j)[e.cell.toNat]? = some c ∧ c.ver = e.ver ∧ s.L[e.cell.toNat]? = some c0 ∧ c0.ver = e.ver ∧ (e.wr = true → e.ver ≠ 1000) := by
  have hj := (List.getElem?_eq_some_iff.1 he).1
  obtain ⟨c, h1, h2, h3, h4⟩ := h.held k d j e hd he (.inl ⟨h0, by omega⟩) (by omega)
  refine ⟨{ c with mark := 0 }, c, ?_, h3, h1, h3, fun hw => ?_⟩
  · rw [wantTo_out j (by omega) fun i e' h5 h6 => cell_ne (h.rise k d hd) h6 he (by omega), h.want _ _ h1, pend_at h2 hd, if_neg (by omega)]
  · have := h4 hw
    rw [h.lim, h3] at this
    exact this
/-- one that has become Done -/
theorem Inv.done (h : Inv N Ls Ds s W) (hd : Ds[k]? = some d) (h0 : d.st = 0) (hp : d.pos = d.L.length) : Inv N Ls (Ds.set k { d with st := 1, pos := 0 }) s (wantTo W d.L d.L.length) := by
  have hok := h.ok k d hd
  have hr := h.rise k d hd
  refine ⟨by simp [h.n], fun j e hj => ?_, fun j e hj => ?_, fun j e hj => ?_, fun j e hj => ?_, h.len, h.lim, by rw [wantTo_length]; exact h.wlen, fun i c hc hm => ?_, fun k' d' j e hk' hj hh hst => ?_, fun i c hc => ?_⟩
  · rcases set_at hj with ⟨rfl, rfl⟩ | ⟨_, hj⟩
    · exact h.mark j d hd
    · exact h.mark j e hj
  · rcases set_at hj with ⟨rfl, rfl⟩ | ⟨_, hj⟩
    · exact h.list j d hd
    · exact h.list j e hj
  · rcases set_at hj with ⟨rfl, rfl⟩ | ⟨_, hj⟩
    · exact ⟨hok.mark, by simp, by simp, by simp, hok.len⟩
    · exact h.ok j e hj
  · rcases set_at hj with ⟨rfl, rfl⟩ | ⟨_, hj⟩
    · exact hr
    · exact h.rise j e hj
  · obtain ⟨k0, d0, j, e, h1, h2, h3, h4, h5⟩ := h.marks i c hc hm
    by_cases hk : k0 = k
    · subst hk
      rw [hd] at h1
      cases h1
      exact ⟨k0, _, j, e, set_self hd, h2, h3, h4, .inr ⟨by simp, by simp⟩⟩
    · exact ⟨k0, d0, j, e, by rw [List.getElem?_set_ne (Ne.symm hk)]; exact h1, h2, h3, h4, h5⟩
  · rcases set_at hk' with ⟨rfl, rfl⟩ | ⟨_, hk'⟩
    · simp only at hj
      have := (List.getElem?_eq_some_iff.1 hj).1
      exact h.held k' d j e hd hj (.inl ⟨h0, by omega⟩) (by omega)
    · exact h.held k' d' j e hk' hj hh hst
  · by_cases hin : ∃ (j : Nat) (e : En), d.L[j]? = some e ∧ e.cell.toNat = i
    · obtain ⟨j, e, he, rfl⟩ := hin
      have hj := (List.getElem?_eq_some_iff.1 he).1
      obtain ⟨c1, h1, h2, h3, h4⟩ := h.held k d j e hd he (.inl ⟨h0, by omega⟩) (by omega)
      rw [hc] at h1
      cases h1
      have hcell : e.cell = ((e.cell.toNat : Nat) : Int) := by have := (hr j e he).1.1; omega
      rw [wantTo_in hr h.wlen he _ hj (Nat.le_refl _), pend_at h2 (set_self hd), if_pos rfl, entAt_is hr he hcell]
      simp only
      split
      · rfl
      · rw [h.want _ _ hc, pend_at h2 hd, if_neg (by omega)]
    · rw [wantTo_out _ (Nat.le_refl _) fun j' e h1 h2 h3 => hin ⟨j', e, h2, h3⟩, h.want i c hc]
      by_cases hm : c.mark = 0
      · rw [pend_free hm, pend_free hm]
      · obtain ⟨k0, d0, j, e, h1, h2, h3, h4, h5⟩ := h.marks i c hc hm
        by_cases hk : k0 = k
        · subst hk
          rw [hd] at h1
          cases h1
          exact absurd ⟨j, e, h3, by omega⟩ hin
        · rw [pend_at h2 h1, pend_at h2 (by rw [List.getElem?_set_ne (Ne.symm hk)]; exact h1)]
/-- one that goes through its entries once more -/
theorem Inv.release (h : Inv N Ls Ds s W) (hd : Ds[k]? = some d) (h0 : d.st ≠ 0) {e : En} (he : d.L[d.pos]? = some e) : Inv N Ls (Ds.set k { d with pos := d.pos + 1 }) (relD d e s) W := by
  have hok := h.ok k d hd
  have hr := h.rise k d hd
  have hmk := h.mark k d hd
  have hp : d.pos < d.L.length := (List.getElem?_eq_some_iff.1 he).1
  obtain ⟨c, hc, hg⟩ := h.get hd he
  have hcl := (List.getElem?_eq_some_iff.1 hc).1
  have hcell : e.cell = ((e.cell.toNat : Nat) : Int) := by have := (hr d.pos e he).1.1; omega
  -- what becomes of the cell
  have hput : (c.mark = d.mark ∧ ∃ c', relD d e s = s.put e.cell c' ∧ c'.mark = 0 ∧ c' = pend Ds e.cell.toNat c) ∨ (c.mark ≠ d.mark ∧ relD d e s = s) := by
    by_cases hm : c.mark = d.mark
    · refine .inl ⟨hm, ?_⟩
      have hm2 : c.mark = (k : Int) + 1 := by omega
      rw [pend_at hm2 hd, entAt_is hr he hcell]
      have hmm : ¬ (d.mark < 1 ∨ c.mark ≠ d.mark) := by have := hok.mark; omega
      unfold relD
      by_cases h1 : d.st = 1
      · obtain ⟨c1, g1, g2, g3, g4⟩ := h.held k d d.pos e hd he (.inr ⟨h0, Nat.le_refl _⟩) (by omega)
        rw [hc] at g1
        cases g1
        rw [if_pos h1]
        by_cases hw : e.wr = true
        · rw [if_pos ⟨h1, hw⟩]
          simp only [putI, hg, if_neg hmm, if_neg (g4 hw)]
          exact ⟨_, rfl, rfl, by rw [if_pos hw, g3]⟩
        · rw [if_neg (fun x => hw x.2)]
          simp only [relI, hg, if_neg hmm]
          exact ⟨_, rfl, rfl, by rw [if_neg hw]⟩
      · rw [if_neg (fun x => h1 x.1), if_neg h1]
        simp only [relI, hg, if_neg hmm]
        exact ⟨_, rfl, rfl, rfl⟩
    · refine .inr ⟨hm, ?_⟩
      unfold relD
      split
      · simp only [putI, hg]; rw [if_pos (.inr hm)]
      · simp only [relI, hg]; rw [if_pos (.inr hm)]
  have hlen : (relD d e s).L.length = N := by
    rcases hput with ⟨_, c', h1, _⟩ | ⟨_, h1⟩
    · rw [h1, put_len]; exact h.len
    · rw [h1]; exact h.len
  have hlim : (relD d e s).lim = s.lim := by
    rcases hput with ⟨_, c', h1, _⟩ | ⟨_, h1⟩
    · rw [h1]; rfl
    · rw [h1]
  -- a cell that bears a mark is as it was, and isn't this one's
  have hsame : ∀ (i : Nat) (x : C), (relD d e s).L[i]? = some x → x.mark ≠ 0 → s.L[i]? = some x ∧ (x.mark = d.mark → e.cell.toNat ≠ i) := fun i x hx hm => by
    rcases hput with ⟨_, c', h1, h2, _⟩ | ⟨h2, h1⟩
    · rw [h1, St.put_get] at hx
      by_cases hi : e.cell.toNat = i
      · rw [if_pos hi, if_pos (by omega)] at hx
        cases hx
        exact absurd h2 hm
      · rw [if_neg hi] at hx
        exact ⟨hx, fun _ => hi⟩
    · rw [h1] at hx
      refine ⟨hx, fun h3 hi => ?_⟩
      rw [← hi, hc] at hx
      cases hx
      exact h2 h3
  have hback : ∀ (i : Nat) (x : C), s.L[i]? = some x → e.cell.toNat ≠ i ∨ x.mark ≠ d.mark → (relD d e s).L[i]? = some x := fun i x hx hi => by
    rcases hput with ⟨hm, c', h1, h2, _⟩ | ⟨h2, h1⟩
    · rw [h1, St.put_get, if_neg]
      · exact hx
      · intro h3
        rw [← h3, hc] at hx
        cases hx
        rcases hi with hi | hi
        · exact hi h3
        · exact hi hm
    · rw [h1]; exact hx
  refine ⟨by simp [h.n], fun j e' hj => ?_, fun j e' hj => ?_, fun j e' hj => ?_, fun j e' hj => ?_, hlen, hlim.trans h.lim, h.wlen, fun i x hx hm => ?_, fun k' d' j e' hk' hj hh hst => ?_, fun i x hx => ?_⟩
  · rcases set_at hj with ⟨rfl, rfl⟩ | ⟨_, hj⟩
    · exact hmk
    · exact h.mark j e' hj
  · rcases set_at hj with ⟨rfl, rfl⟩ | ⟨_, hj⟩
    · exact h.list j d hd
    · exact h.list j e' hj
  · rcases set_at hj with ⟨rfl, rfl⟩ | ⟨_, hj⟩
    · exact ⟨hok.mark, hok.st0, hok.st1, hp, hok.len⟩
    · exact h.ok j e' hj
  · rcases set_at hj with ⟨rfl, rfl⟩ | ⟨_, hj⟩
    · exact hr
    · exact h.rise j e' hj
  · obtain ⟨hx', hne⟩ := hsame i x hx hm
    obtain ⟨k0, d0, j, e0, h1, h2, h3, h4, h5⟩ := h.marks i x hx' hm
    by_cases hk : k0 = k
    · subst hk
      rw [hd] at h1
      cases h1
      refine ⟨k0, _, j, e0, set_self hd, h2, h3, h4, .inr ⟨h0, ?_⟩⟩
      rcases h5 with ⟨h5, _⟩ | ⟨_, h5⟩
      · exact absurd h5 h0
      · have : j ≠ d.pos := by
          rintro rfl
          rw [he] at h3
          cases h3
          exact hne (by omega) (by omega)
        simp
        omega
    · exact ⟨k0, d0, j, e0, by rw [List.getElem?_set_ne (Ne.symm hk)]; exact h1, h2, h3, h4, h5⟩
  · rw [hlim]
    rcases set_at hk' with ⟨rfl, rfl⟩ | ⟨hne, hk'⟩
    · simp only at hj hst
      rcases hh with ⟨hh, _⟩ | ⟨_, hh⟩
      · exact absurd hh h0
      · simp only at hh
        obtain ⟨c1, h1, h2, h3, h4⟩ := h.held k' d j e' hd hj (.inr ⟨h0, by omega⟩) hst
        exact ⟨c1, hback _ _ h1 (.inl (cell_ne hr he hj (by omega))), h2, h3, h4⟩
    · obtain ⟨c1, h1, h2, h3, h4⟩ := h.held k' d' j e' hk' hj hh hst
      exact ⟨c1, hback _ _ h1 (.inr (by omega)), h2, h3, h4⟩
  · by_cases hm : x.mark = 0
    · rw [pend_free hm]
      rcases hput with ⟨hmm, c', h1, h2, h3⟩ | ⟨h2, h1⟩
      · rw [h1, St.put_get] at hx
        by_cases hi : e.cell.toNat = i
        · rw [if_pos hi, if_pos (by omega)] at hx
          cases hx
          rw [h3, ← hi]
          exact h.want _ _ hc
        · rw [if_neg hi] at hx
          rw [h.want i x hx, pend_free hm]
      · rw [h1] at hx
        rw [h.want i x hx, pend_free hm]
    · obtain ⟨hx', -⟩ := hsame i x hx hm
      obtain ⟨k0, d0, j, e0, h1, h2, h3, h4, h5⟩ := h.marks i x hx' hm
      rw [h.want i x hx']
      by_cases hk : k0 = k
      · subst hk
        rw [pend_at h2 hd, pend_at h2 (set_self hd)]
      · rw [pend_at h2 h1, pend_at h2 (by rw [List.getElem?_set_ne (Ne.symm hk)]; exact h1)]
end
/-- how much a descriptor has still to do -/
def phi (d : De) : Nat := if d.st = 0 then 2 * d.L.length - d.pos + 1 else d.L.length - d.pos
def Phi (Ds : List De) : Nat := (Ds.map phi).sum
theorem Phi_set {Ds : List De} : ∀ {k : Nat} {d : De} (d' : De), Ds[k]? = some d → Phi (Ds.set k d') + phi d = Phi Ds + phi d' := by
  induction Ds with
  | nil => intro k d d' h; simp at h
  | cons x Ds ih =>
    intro k d d' h
    cases k with
    | zero =>
      simp only [List.getElem?_cons_zero, Option.some.injEq] at h
      subst h
      simp [Phi]
      omega
    | succ k =>
      simp only [List.getElem?_cons_succ] at h
      have := ih d' h
      simp [Phi] at this ⊢
      omega
theorem phi_le {Ds : List De} : ∀ {k : Nat} {d : De}, Ds[k]? = some d → phi d ≤ Phi Ds := by
  induction Ds with
  | nil => intro k d h; simp at h
  | cons x Ds ih =>
    intro k d h
    cases k with
    | zero =>
      simp only [List.getElem?_cons_zero, Option.some.injEq] at h
      subst h
      simp [Phi]
    | succ k =>
      simp only [List.getElem?_cons_succ] at h
      have := ih h
      simp [Phi] at this ⊢
      omega
theorem over_iff {d : De} (h : d.ok) : d.over = true ↔ phi d = 0 := by
  have := h.pos
  unfold De.over phi
  by_cases h0 : d.st = 0
  · simp [h0]
  · simp [h0]
    omega
/-- what is left: those that aren't over -/
def leftOf (Ds : List De) : Nat := Ds.countP fun d => !d.over
theorem left_zero {Ds : List De} (h : leftOf Ds = 0) {k : Nat} {d : De} (hd : Ds[k]? = some d) : d.over = true := by
  have := List.countP_eq_zero.1 h d (List.mem_of_getElem? hd)
  simpa using this
theorem left_pos {Ds : List De} (h : ∀ (k : Nat) (d : De), Ds[k]? = some d → d.over = true) : leftOf Ds = 0 := by
  refine List.countP_eq_zero.2 fun d hd => ?_
  obtain ⟨k, hk⟩ := List.getElem?_of_mem hd
  simp [h k d hk]
theorem set_same {Ds : List De} {k : Nat} {d : De} (hd : Ds[k]? = some d) : Ds.set k d = Ds := by
  have hl := (List.getElem?_eq_some_iff.1 hd)
  have := List.set_getElem_self (as := Ds) (i := k) hl.1
  rwa [hl.2] at this
section
variable {N : Nat} {Ls : List (List En)} {Ds : List De} {s : St} {W : List C} {k : Nat} {d : De}
/-- what a step comes to -/
theorem Inv.step (h : Inv N Ls Ds s W) (hd : Ds[k]? = some d) {x : Int} {d' : De} {s' : St} (hs : stepD d s = (x, d', s')) :
    (x ≠ 0 ∧ d' = d ∧ s' = s ∧ d.st = 0 ∧ ∃ e c, d.L[d.pos]? = some e ∧ s.L[e.cell.toNat]? = some c ∧ c.mark = x) ∨
    (x = 0 ∧ Inv N Ls (Ds.set k d') s' (if d.st = 0 ∧ d'.st = 1 then wantTo W d.L d.L.length else W) ∧ (d.over = true → d' = d ∧ s' = s) ∧ (d.over = false → phi d' + 1 ≤ phi d) ∧ (d.st = 0 → d'.st = 1 → d.pos = d.L.length)) := by
  have hok := h.ok k d hd
  have hself : Ds.set k d = Ds := by
    have hl := (List.getElem?_eq_some_iff.1 hd)
    have := List.set_getElem_self (as := Ds) (i := k) hl.1
    rwa [hl.2] at this
  by_cases h0 : d.st = 0
  · have hov : ¬ d.over = true := by simp [De.over, h0]
    by_cases hp : d.pos < d.L.length
    · obtain ⟨e, he⟩ : ∃ e, d.L[d.pos]? = some e := ⟨_, List.getElem?_eq_getElem hp⟩
      obtain ⟨c, hc, hg⟩ := h.get hd he
      simp only [stepD, he, if_pos h0, rsvD, hg] at hs
      by_cases h4 : c.mark ≠ 0 ∧ c.mark ≠ d.mark
      · rw [if_pos h4] at hs
        cases hs
        exact .inl ⟨h4.1, rfl, rfl, h0, e, c, he, hc, rfl⟩
      · rw [if_neg h4] at hs
        right
        by_cases hv : c.ver = e.ver
        · rw [if_neg (not_not_intro hv)] at hs
          by_cases h3 : e.wr = true ∧ c.ver = s.lim
          · rw [if_pos h3] at hs
            cases hs
            refine ⟨rfl, ?_, fun g => absurd g hov, fun _ => by simp [phi, h0]; omega, fun _ g => by simp at g⟩
            rw [if_neg (by simp)]
            exact h.fail hd h0 3 (.inr rfl)
          · rw [if_neg h3] at hs
            cases hs
            refine ⟨rfl, ?_, fun g => absurd g hov, fun _ => by simp [phi, h0]; omega, fun _ g => by simp at g; omega⟩
            rw [if_neg (by simp; omega)]
            exact h.reserve hd h0 he hc (by omega) hv (fun g1 g2 => h3 ⟨g1, g2⟩)
        · rw [if_pos hv] at hs
          cases hs
          refine ⟨rfl, ?_, fun g => absurd g hov, fun _ => by simp [phi, h0]; omega, fun _ g => by simp at g⟩
          rw [if_neg (by simp)]
          exact h.fail hd h0 2 (.inl rfl)
    · have hn : d.L[d.pos]? = none := List.getElem?_eq_none (by omega)
      have hpl : d.pos = d.L.length := by have := hok.pos; omega
      simp only [stepD, hn, if_pos h0] at hs
      cases hs
      refine .inr ⟨rfl, ?_, fun g => absurd g hov, fun _ => by simp [phi, h0]; omega, fun _ _ => hpl⟩
      rw [if_pos ⟨h0, rfl⟩]
      exact h.done hd h0 hpl
  · right
    by_cases hp : d.pos < d.L.length
    · obtain ⟨e, he⟩ : ∃ e, d.L[d.pos]? = some e := ⟨_, List.getElem?_eq_getElem hp⟩
      simp only [stepD, he, if_neg h0] at hs
      cases hs
      refine ⟨rfl, ?_, fun g => ?_, fun _ => by simp [phi, h0]; omega, fun g => absurd g h0⟩
      · rw [if_neg (fun g => h0 g.1)]
        exact h.release hd h0 he
      · simp [De.over] at g
        omega
    · have hn : d.L[d.pos]? = none := List.getElem?_eq_none (by omega)
      simp only [stepD, hn, if_neg h0] at hs
      cases hs
      refine ⟨rfl, ?_, fun _ => ⟨rfl, rfl⟩, fun g => ?_, fun g => absurd g h0⟩
      · rw [if_neg (fun g => h0 g.1), hself]
        exact h
      · simp [De.over, h0] at g
        have := hok.pos
        omega
end
/-- does one look at a cell beyond b? -/
def nxt (b : Int) (d : De) : Bool := d.st == 0 && (match d.L[d.pos]? with
  | some e => decide (b < e.cell)
  | none => false)
theorem countP_less {α : Type} {p q : α → Bool} {l : List α} (h : ∀ x ∈ l, p x = true → q x = true) {y : α} (hy : y ∈ l) (h1 : q y = true) (h2 : p y = false) : l.countP p + 1 ≤ l.countP q := by
  induction l with
  | nil => simp at hy
  | cons x l ih =>
    have hl : ∀ x ∈ l, p x = true → q x = true := fun z hz => h z (by simp [hz])
    have hm : l.countP p ≤ l.countP q := List.countP_mono_left hl
    rw [List.countP_cons, List.countP_cons]
    rcases List.mem_cons.1 hy with rfl | hy
    · rw [h1, h2]
      simp
      omega
    · have := ih hl hy
      have hx := h x (by simp)
      cases hp : p x with
      | false => simp; omega
      | true => rw [hx hp]; simp; omega
/-- where a chain of helpers stands -/
structure Chain (Ds : List De) (k h : Nat) (b : Int) : Prop where
  at_ : k < Ds.length
  le : Ds.countP (nxt b) + h ≤ Ds.length
  b : (h = 0 ∧ b = -1) ∨ ∃ d j e, Ds[k]? = some d ∧ d.L[j]? = some e ∧ e.cell = b ∧ d.holds j
theorem Chain.start {Ds : List De} {k : Nat} (h : k < Ds.length) : Chain Ds k 0 (-1) := ⟨h, by simpa using List.countP_le_length, .inl ⟨rfl, rfl⟩⟩
/-- who is in the way isn't over -/
theorem Chain.busy {Ds : List De} {k h : Nat} {b : Int} (hc : Chain Ds k h b) (h1 : h ≠ 0) {d : De} (hd : Ds[k]? = some d) : d.over = false := by
  rcases hc.b with ⟨h2, _⟩ | ⟨d2, j, e, g1, g2, _, g4⟩
  · exact absurd h2 h1
  · rw [hd] at g1
    cases g1
    have hj := (List.getElem?_eq_some_iff.1 g2).1
    rcases g4 with ⟨g4, _⟩ | ⟨g4, g5⟩
    · simp [De.over, g4]
    · simp [De.over]
      intro _
      omega
/-- the next one of the chain -/
theorem Chain.next {N : Nat} {Ls : List (List En)} {Ds : List De} {s : St} {W : List C} (h : Inv N Ls Ds s W) {k n : Nat} {b : Int} (hc : Chain Ds k n b) {d : De} (hd : Ds[k]? = some d) (h0 : d.st = 0) {e : En} (he : d.L[d.pos]? = some e) {c : C} (hcc : s.L[e.cell.toNat]? = some c) (hm : c.mark ≠ 0) :
    ∃ k' : Nat, c.mark = (k' : Int) + 1 ∧ k' < Ds.length ∧ n + 1 ≤ Ds.length ∧ Chain Ds k' (n + 1) e.cell := by
  obtain ⟨k', d2, j, e2, g1, g2, g3, g4, g5⟩ := h.marks _ c hcc hm
  have hr := h.rise k d hd
  have hcell : e.cell = ((e.cell.toNat : Nat) : Int) := by have := (hr d.pos e he).1.1; omega
  have hb : b < e.cell := by
    rcases hc.b with ⟨_, hb⟩ | ⟨d3, j3, e3, f1, f2, f3, f4⟩
    · have := (hr d.pos e he).1.1; omega
    · rw [hd] at f1
      cases f1
      rcases f4 with ⟨_, f4⟩ | ⟨f4, _⟩
      · have := (hr d.pos e he).2 j3 e3 f4 f2
        omega
      · exact absurd h0 f4
  have hless : Ds.countP (nxt e.cell) + 1 ≤ Ds.countP (nxt b) := by
    refine countP_less (fun x _ hx => ?_) (List.mem_of_getElem? hd) (by simp [nxt, h0, he, hb]) (by simp [nxt, h0, he])
    unfold nxt at hx ⊢
    rw [Bool.and_eq_true] at hx ⊢
    refine ⟨hx.1, ?_⟩
    cases hq : x.L[x.pos]? with
    | none => rw [hq] at hx; exact hx.2
    | some y =>
      rw [hq] at hx
      have := hx.2
      simp only [decide_eq_true_eq] at this ⊢
      omega
  have hl := (List.getElem?_eq_some_iff.1 g1).1
  have := hc.le
  exact ⟨k', g2, hl, by omega, hl, by omega, .inr ⟨d2, j, e2, g1, g3, by omega, g5⟩⟩
/-- one round: who is over stays so; if the first one wasn't over, there is less to do -/
structure Round (N : Nat) (Ls : List (List En)) (Ds Ds' : List De) (k : Nat) (s' : St) (W' : List C) : Prop where
  inv : Inv N Ls Ds' s' W'
  stay : ∀ (j : Nat) (d : De), Ds[j]? = some d → d.over = true → Ds'[j]? = some d
  less : (∃ d, Ds[k]? = some d ∧ d.over = true) ∨ Phi Ds' + 1 ≤ Phi Ds
  le : Phi Ds' ≤ Phi Ds
theorem Inv.round {N : Nat} {Ls : List (List En)} {Ds : List De} {s : St} {W : List C} (h : Inv N Ls Ds s W) {k0 k n : Nat} {b : Int} (hc : Chain Ds k n b) (hk0 : n = 0 → k0 = k) {d : De} (hd : Ds[k]? = some d) {d' : De} {s' : St} (hs : stepD d s = (0, d', s')) :
    Round N Ls Ds (Ds.set k d') k0 s' (if d.st = 0 ∧ d'.st = 1 then wantTo W d.L d.L.length else W) := by
  rcases h.step hd hs with ⟨hx, _⟩ | ⟨_, h1, h2, h3, _⟩
  · exact absurd rfl hx
  · have hps := Phi_set d' hd
    refine ⟨h1, fun j e hj ho => ?_, ?_, ?_⟩
    · by_cases hjk : j = k
      · subst hjk
        rw [hd] at hj
        cases hj
        rw [(h2 ho).1]
        exact set_self hd
      · rw [List.getElem?_set_ne (Ne.symm hjk)]
        exact hj
    · cases ho : d.over with
      | true =>
        by_cases hn : n = 0
        · exact .inl ⟨d, by rw [hk0 hn]; exact hd, ho⟩
        · rw [hc.busy hn hd] at ho
          cases ho
      | false =>
        have := h3 ho
        exact .inr (by omega)
    · cases ho : d.over with
      | true => rw [(h2 ho).1] at hps ⊢; omega
      | false => have := h3 ho; omega
/-- how far the rounds have come -/
structure Sched (n S T : Nat) (Ds : List De) (i : Nat) : Prop where
  le : Phi Ds ≤ T
  turn : S ≤ i → ∃ u v, i = S + v + u ∧ v ≤ n * (T - Phi Ds) ∧ ∀ t, i - u ≤ t → t < i → ∃ d, Ds[t % n]? = some d ∧ d.over = true
theorem Sched.start {n S T : Nat} {Ds : List De} (h : Phi Ds ≤ T) : Sched n S T Ds 0 := ⟨h, fun hs => ⟨0, 0, by omega, by omega, fun t h1 h2 => by omega⟩⟩
theorem cover {n i u : Nat} {p : Nat → Prop} (hn : 0 < n) (hu : n ≤ u) (hi : u ≤ i) (h : ∀ t, i - u ≤ t → t < i → p (t % n)) : ∀ k, k < n → p k := fun k hk => by
  have ht : (i - n + (k + n - (i - n) % n) % n) % n = k := by
    have h1 : (i - n) % n < n := Nat.mod_lt _ hn
    rw [Nat.add_mod_mod, Nat.add_mod, ← Nat.add_mod]
    have h2 : i - n + (k + n - (i - n) % n) = n * ((i - n) / n) + (k + n) := by
      have := Nat.div_add_mod (i - n) n
      omega
    rw [h2, Nat.mul_add_mod, Nat.add_mod_right, Nat.mod_eq_of_lt hk]
  have h3 : (k + n - (i - n) % n) % n < n := Nat.mod_lt _ hn
  have := h (i - n + (k + n - (i - n) % n) % n) (by omega) (by omega)
  rwa [ht] at this
theorem Sched.short {n S : Nat} {Ds : List De} {i u v : Nat} (hn : 0 < n) (hl : leftOf Ds ≠ 0) (hlen : Ds.length = n) (hi : i = S + v + u) (h : ∀ t, i - u ≤ t → t < i → ∃ d, Ds[t % n]? = some d ∧ d.over = true) : u < n := by
  rcases Nat.lt_or_ge u n with h1 | h1
  · exact h1
  · exfalso
    have := cover (p := fun k => ∃ d, Ds[k]? = some d ∧ d.over = true) hn h1 (by omega) h
    refine hl (left_pos fun k d hd => ?_)
    obtain ⟨d2, h2, h3⟩ := this k (by rw [← hlen]; exact (List.getElem?_eq_some_iff.1 hd).1)
    rw [hd] at h2
    cases h2
    exact h3
theorem Sched.more {N : Nat} {Ls : List (List En)} {n S T : Nat} {Ds Ds' : List De} {i k : Nat} {s' : St} {W' : List C} (h : Sched n S T Ds i) (hr : Round N Ls Ds Ds' k s' W') (hk : S ≤ i → k = i % n) (hn : 0 < n) (hl : leftOf Ds ≠ 0) (hlen : Ds.length = n) : Sched n S T Ds' (i + 1) := by
  have hle := hr.le
  have hT := h.le
  refine ⟨by omega, fun hS => ?_⟩
  by_cases hi : S ≤ i
  · obtain ⟨u, v, h1, h2, h3⟩ := h.turn hi
    have hu := Sched.short hn hl hlen h1 h3
    rcases hr.less with ⟨d, hd, ho⟩ | hp
    · refine ⟨u + 1, v, by omega, Nat.le_trans h2 (Nat.mul_le_mul_left _ (by omega)), fun t h4 h5 => ?_⟩
      by_cases hti : t = i
      · subst hti
        rw [← hk hi]
        exact ⟨d, hr.stay k d hd ho, ho⟩
      · obtain ⟨d2, g1, g2⟩ := h3 t (by omega) (by omega)
        exact ⟨d2, hr.stay _ d2 g1 g2, g2⟩
    · refine ⟨0, v + u + 1, by omega, ?_, fun t h4 h5 => by omega⟩
      have h6 : T - Phi Ds + 1 ≤ T - Phi Ds' := by omega
      have h7 := Nat.mul_le_mul_left n h6
      rw [Nat.mul_add] at h7
      omega
  · exact ⟨0, 0, by omega, by omega, fun t h4 h5 => by omega⟩
theorem Sched.over {n S T : Nat} {Ds : List De} {i : Nat} (h : Sched n S T Ds i) (hn : 0 < n) (hlen : Ds.length = n) (hi : S + (T + 1) * n ≤ i) : leftOf Ds = 0 := by
  rcases Nat.eq_zero_or_pos (leftOf Ds) with h0 | h0
  · exact h0
  · exfalso
    obtain ⟨u, v, h1, h2, h3⟩ := h.turn (by have := Nat.zero_le ((T + 1) * n); omega)
    have hu := Sched.short hn (by omega) hlen h1 h3
    have h4 : n * (T - Phi Ds) ≤ n * T := Nat.mul_le_mul_left _ (by omega)
    have h5 : (T + 1) * n = n * T + n := by rw [Nat.succ_mul, Nat.mul_comm]
    omega
theorem phi_new (m : Int) (L : List En) : phi ⟨m, L, 0, 0⟩ = 2 * L.length + 1 := by simp [phi]
theorem Phi_push (Ds : List De) (d : De) : Phi (Ds ++ [d]) = Phi Ds + phi d := by simp [Phi]
/-- as all begins -/
theorem Inv.start {N : Nat} {Ls : List (List En)} (hN : N ≤ 1000) (h : ∀ (k : Nat) (L : List En), Ls[k]? = some L → Rising N L) : Inv N Ls (made Ls) ⟨1000, List.replicate N ⟨0, 0, 0⟩⟩ (List.replicate N ⟨0, 0, 0⟩) := by
  have hat : ∀ (k : Nat) (d : De), (made Ls)[k]? = some d → ∃ L, Ls[k]? = some L ∧ d = ⟨(k : Int) + 1, L, 0, 0⟩ := fun k d hd => by
    have hl := (List.getElem?_eq_some_iff.1 hd).1
    rw [made_length] at hl
    refine ⟨_, List.getElem?_eq_getElem hl, ?_⟩
    rw [made_at (List.getElem?_eq_getElem hl)] at hd
    cases hd
    rfl
  have hz : ∀ (i : Nat) (c : C), (List.replicate N (⟨0, 0, 0⟩ : C))[i]? = some c → c = ⟨0, 0, 0⟩ := fun i c hc => by
    simp only [List.getElem?_replicate] at hc
    split at hc
    · cases hc; rfl
    · cases hc
  refine ⟨made_length Ls, fun k d hd => ?_, fun k d hd => ?_, fun k d hd => ?_, fun k d hd => ?_, by simp, rfl, by simp, fun i c hc hm => ?_, fun k d j e hd hj hh => ?_, fun i c hc => ?_⟩
  · obtain ⟨L, _, rfl⟩ := hat k d hd; rfl
  · obtain ⟨L, hL, rfl⟩ := hat k d hd; exact hL
  · obtain ⟨L, hL, rfl⟩ := hat k d hd
    have := (h k L hL).length
    exact ⟨by simp; omega, by simp, by simp, by simp, by simp; omega⟩
  · obtain ⟨L, hL, rfl⟩ := hat k d hd; exact h k L hL
  · rw [hz i c hc] at hm
    exact absurd rfl hm
  · obtain ⟨L, hL, rfl⟩ := hat k d hd
    rcases hh with ⟨_, hh⟩ | ⟨hh, _⟩
    · exact absurd hh (by simp)
    · exact absurd rfl hh
  · rw [pend_free (by rw [hz i c hc])]
    exact hc
/-- once all are over, all is as wanted -/
theorem Inv.over {N : Nat} {Ls : List (List En)} {Ds : List De} {s : St} {W : List C} (h : Inv N Ls Ds s W) (hl : leftOf Ds = 0) {i : Nat} {c : C} (hc : s.L[i]? = some c) : W[i]? = some c := by
  rw [h.want i c hc]
  by_cases hm : c.mark = 0
  · rw [pend_free hm]
  · exfalso
    obtain ⟨k, d, j, e, h1, h2, h3, h4, h5⟩ := h.marks i c hc hm
    have ho := left_zero hl h1
    have hj := (List.getElem?_eq_some_iff.1 h3).1
    simp [De.over] at ho
    rcases h5 with ⟨h5, _⟩ | ⟨_, h5⟩
    · exact ho.1 h5
    · omega
/-- what is wanted of a cell, as it is written -/
theorem putW_no {W : List C} {e : En} (h : e.wr = false) : putW W e = W := by simp [putW, h]
theorem putW_yes {W : List C} {e : En} (h : e.wr = true) : putW W e = W.set e.cell.toNat ⟨e.new, e.ver + 1, 0⟩ := by simp [putW, h]
theorem left_made (Ls : List (List En)) : leftOf (made Ls) = Ls.length := by
  rw [← made_length Ls]
  refine List.countP_eq_length.2 fun d hd => ?_
  obtain ⟨k, hk⟩ := List.getElem?_of_mem hd
  have hl := (List.getElem?_eq_some_iff.1 hk).1
  rw [made_length] at hl
  rw [made_at (List.getElem?_eq_getElem hl)] at hk
  cases hk
  rfl
/-- those among the first k that aren't over -/
theorem left_take {Ds : List De} {k : Nat} {d : De} (h : Ds[k]? = some d) : leftOf (Ds.take (k + 1)) = leftOf (Ds.take k) + (if d.over = true then 0 else 1) := by
  rw [List.take_add_one, h]
  simp only [Option.toList_some, leftOf, List.countP_append]
  congr 1
  cases ho : d.over <;> simp [ho]
end Go.Proofs.Ytgkjkmdenmighaa
