/- Lists of entries, crowds of descriptors, as layer 7's laws hold them. No dump is read here. -/
import Derived.Test.YtleomgmhkoglmaaDescM
namespace Go.Proofs.Ytleomgmhkoglmaa
open Go.RowKit
/-- a slice of slices of entries, each nil let in -/
def EntLists (w : World) (C : Option Addr) (Ls : List (List En)) : Prop :=
  ∀ (k : Nat) (L : List En), Ls[k]? = some L → ∃ b off A cap, C = some ⟨b, off, none⟩ ∧ b < w.heap.size ∧ w.cell? ⟨b, off + k, none⟩ = some (.slice A L.length cap) ∧ RowsAt w A En.row 5 L
theorem EntLists.only0 {w w' : World} {C : Option Addr} {Ls : List (List En)} (h : EntLists w C Ls) (ho : Only [] w w') : EntLists w' C Ls := fun k L hk => by
  obtain ⟨b, off, A, cap, hC, hb, hc, hr⟩ := h k L hk
  exact ⟨b, off, A, cap, hC, Nat.lt_of_lt_of_le hb ho.size, (ho.cell (p := ⟨b, _, none⟩) hb (by simp)).trans hc, hr.only0 ho⟩
/-- the descriptors as they are made -/
def made (Ls : List (List En)) : List De := Ls.mapIdx fun i L => ⟨(i : Int) + 1, L, 0, 0⟩
theorem made_length (Ls : List (List En)) : (made Ls).length = Ls.length := by simp [made]
theorem made_at {Ls : List (List En)} {k : Nat} {L : List En} (h : Ls[k]? = some L) : (made Ls)[k]? = some ⟨(k : Int) + 1, L, 0, 0⟩ := by simp [made, h]
theorem made_take {Ls : List (List En)} {k : Nat} {L : List En} (h : Ls[k]? = some L) : (made Ls).take k ++ [⟨(k : Int) + 1, L, 0, 0⟩] = (made Ls).take (k + 1) := by
  rw [List.take_add_one, made_at h]
  rfl
/-- descriptors at blocks of their own -/
structure Crowd (W : World) (ty et : TypeId) (f : En → List Value) (n : Nat) (Ps : List Nat) (Ds : List De) : Prop where
  len : Ps.length = Ds.length
  nodup : Ps.Nodup
  at_ : ∀ (k p : Nat) (d : De), Ps[k]? = some p → Ds[k]? = some d → ∃ A cap, DescAt W ty et f n p A cap d
section
variable {W W' : World} {ty et : TypeId} {f : En → List Value} {n : Nat} {Ps : List Nat} {Ds : List De}
theorem Crowd.nil (W : World) (ty et : TypeId) (f : En → List Value) (n : Nat) : Crowd W ty et f n [] [] := ⟨rfl, List.nodup_nil, fun k p d hp => by simp at hp⟩
theorem Crowd.get (h : Crowd W ty et f n Ps Ds) {k : Nat} (hk : k < Ds.length) : ∃ p d A cap, Ps[k]? = some p ∧ Ds[k]? = some d ∧ DescAt W ty et f n p A cap d := by
  have hp : k < Ps.length := by rw [h.len]; exact hk
  obtain ⟨A, cap, hd⟩ := h.at_ k _ _ (List.getElem?_eq_getElem hp) (List.getElem?_eq_getElem hk)
  exact ⟨_, _, A, cap, List.getElem?_eq_getElem hp, List.getElem?_eq_getElem hk, hd⟩
theorem Crowd.lt (h : Crowd W ty et f n Ps Ds) {p : Nat} (hp : p ∈ Ps) : p < W.heap.size := by
  obtain ⟨k, hk⟩ := List.getElem?_of_mem hp
  have hl := (List.getElem?_eq_some_iff.1 hk).1
  rw [h.len] at hl
  obtain ⟨A, cap, hd⟩ := h.at_ k p _ hk (List.getElem?_eq_getElem hl)
  exact hd.head.lt
theorem Crowd.only0 (h : Crowd W ty et f n Ps Ds) (ho : Only [] W W') : Crowd W' ty et f n Ps Ds :=
  ⟨h.len, h.nodup, fun k p d hp hd => by obtain ⟨A, cap, h1⟩ := h.at_ k p d hp hd; exact ⟨A, cap, h1.only0 ho⟩⟩
theorem Crowd.push (h : Crowd W ty et f n Ps Ds) (ho : Only [] W W') {p : Nat} {A : Option Addr} {cap : Nat} {d : De} (hd : DescAt W' ty et f n p A cap d) (hp : W.heap.size ≤ p) : Crowd W' ty et f n (Ps ++ [p]) (Ds ++ [d]) := by
  refine ⟨by simp [h.len], ?_, fun k p' d' hp' hd' => ?_⟩
  · rw [List.nodup_append]
    refine ⟨h.nodup, by simp, fun a ha b hb => ?_⟩
    simp only [List.mem_cons, List.not_mem_nil, or_false] at hb
    have := h.lt ha
    omega
  · by_cases hk : k < Ps.length
    · rw [List.getElem?_append_left hk] at hp'
      rw [List.getElem?_append_left (by rw [← h.len]; exact hk)] at hd'
      exact (h.only0 ho).at_ k p' d' hp' hd'
    · rw [List.getElem?_append_right (by omega)] at hp'
      rw [List.getElem?_append_right (by rw [← h.len]; omega)] at hd'
      have e : k - Ps.length = 0 := by
        have := (List.getElem?_eq_some_iff.1 hp').1
        simp at this
        omega
      rw [e] at hp'
      rw [← h.len, e] at hd'
      simp at hp' hd'
      subst hp' hd'
      exact ⟨A, cap, hd⟩
/-- one has gone a step -/
theorem Crowd.step (h : Crowd W ty et f n Ps Ds) {k p g : Nat} {A : Option Addr} {cap : Nat} {d d' : De} {t : TypeId} {cs : Array Value} (ho : Only [p, g] W W') (hp : Ps[k]? = some p) (hd : DescAt W ty et f n p A cap d) (hd' : DescAt W' ty et f n p A cap d')
    (hb : Blk W g t cs) (h1 : ty ≠ t) (h2 : et ≠ t) (h3 : et ≠ ty) : Crowd W' ty et f n Ps (Ds.set k d') := by
  refine ⟨by simpa using h.len, h.nodup, fun j p' e hj he => ?_⟩
  by_cases hk : j = k
  · subst hk
    rw [hp] at hj
    cases hj
    have hl := (List.getElem?_eq_some_iff.1 hp).1
    rw [List.getElem?_set_self (by rw [← h.len]; exact hl)] at he
    cases he
    exact ⟨A, cap, hd'⟩
  · rw [List.getElem?_set_ne (Ne.symm hk)] at he
    obtain ⟨A', cap', h4⟩ := h.at_ j p' e hj he
    have hne : p' ≠ p := by
      rintro rfl
      have hj' := (List.getElem?_eq_some_iff.1 hj)
      have hp' := (List.getElem?_eq_some_iff.1 hp)
      exact hk ((List.getElem_inj h.nodup (h₀ := hj'.1) (h₁ := hp'.1)).1 (hj'.2.trans hp'.2.symm))
    exact ⟨A', cap', h4.apart2 ho hb h1 h2 hd.head hne h3⟩
/-- others have gone a step -/
theorem Crowd.other (h : Crowd W ty et f n Ps Ds) {p g : Nat} {t t' : TypeId} {cs cs' : Array Value} (ho : Only [p, g] W W') (hb : Blk W g t cs) (hb' : Blk W p t' cs') (h1 : ty ≠ t) (h2 : et ≠ t) (h3 : ty ≠ t') (h4 : et ≠ t') : Crowd W' ty et f n Ps Ds :=
  ⟨h.len, h.nodup, fun j p' e hj he => by
    obtain ⟨A', cap', h5⟩ := h.at_ j p' e hj he
    exact ⟨A', cap', h5.apart2 ho hb h1 h2 hb' (h5.head.ne_ hb' h3) h4⟩⟩
end
/-- the pointers to them, as a slice of one's own -/
def ptr (p : Nat) : List Value := [.pointer (some ⟨p, 0, none⟩)]
theorem ptr_len (p : Nat) : (ptr p).length = 1 := rfl
theorem ptr_at {W : World} {A : Option Addr} {t : TypeId} {Ps : List Nat} (h : RowN W A t ptr 1 Ps) {k p : Nat} (hk : Ps[k]? = some p) : ∃ g cur, A = some ⟨g, 0, none⟩ ∧ Blk W g t cur ∧ W.cell? ⟨g, k, none⟩ = some (.pointer (some ⟨p, 0, none⟩)) := by
  obtain ⟨g, cur, hA, hb, hc⟩ := h k p hk
  refine ⟨g, cur, hA, hb, ?_⟩
  rw [hb.cell]
  have := hc 0 _ rfl
  simpa using this
/-- what a step leaves of a crowd -/
structure Told (Ds : List De) (n : Nat) : Prop where
  len : Ds.length = n
  mark : ∀ (k : Nat) (d : De), Ds[k]? = some d → d.mark = (k : Int) + 1
theorem told_made (Ls : List (List En)) : Told (made Ls) Ls.length := ⟨made_length _, fun k d hk => by
  have hl := (List.getElem?_eq_some_iff.1 hk).1
  rw [made_length] at hl
  rw [made_at (List.getElem?_eq_getElem hl)] at hk
  cases hk
  rfl⟩
theorem Told.set {Ds : List De} {n k : Nat} {d d' : De} (h : Told Ds n) (hk : Ds[k]? = some d) (hm : d'.mark = d.mark) : Told (Ds.set k d') n := ⟨by simpa using h.len, fun j e hj => by
  by_cases hjk : j = k
  · subst hjk
    have hl := (List.getElem?_eq_some_iff.1 hk).1
    rw [List.getElem?_set_self hl] at hj
    cases hj
    rw [hm]
    exact h.mark j d hk
  · rw [List.getElem?_set_ne (Ne.symm hjk)] at hj
    exact h.mark j e hj⟩
section
variable {w w' : World} {base size n : Nat} {e : TypeId} {v : Value} {xs : List Value}
/-- a row of one's own has grown: nothing else has turned -/
theorem grown_only (h : w.ownsRow base e size v n xs) (hg : w.grownBy w' v.ownBlock) : ∃ S : List Nat, Only S w w' ∧ (∀ g ∈ S, base ≤ g ∧ ∃ cur, Blk w g e cur) := by
  have hall : ∀ S : List Nat, (∀ k, v.ownBlock = some k → k ∈ S) → Only S w w' := fun S hS =>
    ⟨hg.os, hg.tape, hg.output, hg.size, fun k hk hn => hg.block k hk (fun e => hn (hS k e.symm))⟩
  rcases h.2 with ⟨rfl, _⟩ | ⟨g, cap, cur, rfl, hB, hgb, _⟩
  · exact ⟨[], hall [] (fun k hk => by simp [Value.ownBlock] at hk), fun g hm => by simp at hm⟩
  · refine ⟨[g], hall [g] (fun k hk => ?_), fun g' hm => ?_⟩
    · simp [Value.ownBlock] at hk
      simp [hk]
    · simp at hm
      subst hm
      exact ⟨hB, cur, hgb⟩
theorem grown_crowd {ty et : TypeId} {f : En → List Value} {m : Nat} {Ps : List Nat} {Ds : List De} (hc : Crowd w ty et f m Ps Ds) (h : w.ownsRow base e size v n xs) (hg : w.grownBy w' v.ownBlock) (h1 : ty ≠ e) (h2 : et ≠ e) : Crowd w' ty et f m Ps Ds := by
  obtain ⟨S, ho, hS⟩ := grown_only h hg
  exact ⟨hc.len, hc.nodup, fun k p d hp hd => by
    obtain ⟨A, cap, h3⟩ := hc.at_ k p d hp hd
    exact ⟨A, cap, h3.only ho (fun hm => by obtain ⟨_, cur, hb⟩ := hS p hm; exact h1 (h3.head.uniq hb).1) (fun g cur hb hm => by obtain ⟨_, cur', hb'⟩ := hS g hm; exact h2 (hb.uniq hb').1)⟩⟩
theorem grown_desc {ty et : TypeId} {f : En → List Value} {m p cap : Nat} {A : Option Addr} {d : De} (h3 : DescAt w ty et f m p A cap d) (h : w.ownsRow base e size v n xs) (hg : w.grownBy w' v.ownBlock) (h1 : ty ≠ e) (h2 : et ≠ e) : DescAt w' ty et f m p A cap d := by
  obtain ⟨S, ho, hS⟩ := grown_only h hg
  exact h3.only ho (fun hm => by obtain ⟨_, cur, hb⟩ := hS p hm; exact h1 (h3.head.uniq hb).1) (fun g cur hb hm => by obtain ⟨_, cur', hb'⟩ := hS g hm; exact h2 (hb.uniq hb').1)
theorem grown_row {base' size' n' : Nat} {e' : TypeId} {v' : Value} {xs' : List Value} (h' : w.ownsRow base' e' size' v' n' xs') (h : w.ownsRow base e size v n xs) (hg : w.grownBy w' v.ownBlock) (hne : e' ≠ e) : w'.ownsRow base' e' size' v' n' xs' := by
  refine h'.kept hg ?_
  rcases h'.2 with ⟨rfl, _⟩ | ⟨g, cap, cur, rfl, hB, hgb, _⟩
  · exact .inl rfl
  · refine .inr fun h4 => ?_
    rcases h.2 with ⟨rfl, _⟩ | ⟨g2, cap2, cur2, rfl, hB2, hgb2, _⟩
    · simp [Value.ownBlock] at h4
    · simp [Value.ownBlock] at h4
      subst h4
      exact hne (Blk.uniq (show Blk w g e' cur from hgb) (show Blk w g e cur2 from hgb2)).1
theorem grown_base {W : World} (ho : Only [] W w) (hb : W.heap.size ≤ base) (h : w.ownsRow base e size v n xs) (hg : w.grownBy w' v.ownBlock) : Only [] W w' := by
  obtain ⟨S, ho', hS⟩ := grown_only h hg
  exact ho.then ho' fun x hx => .inr (Nat.le_trans hb (hS x hx).1)
theorem owns_only0 (h : w.ownsRow base e size v n xs) (ho : Only [] w w') : w'.ownsRow base e size v n xs := by
  refine ⟨h.1, h.2.imp id ?_⟩
  rintro ⟨g, cap, cur, rfl, hB, hg, r⟩
  exact ⟨g, cap, cur, rfl, hB, (ho.block g (Array.getElem?_eq_some_iff.1 hg).1 (by simp)).trans hg, r⟩
end
end Go.Proofs.Ytleomgmhkoglmaa
