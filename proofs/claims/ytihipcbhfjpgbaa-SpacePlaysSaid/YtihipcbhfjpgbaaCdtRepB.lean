/- What Unlink and Replace of package cdt come to on words that tell a tree (layer 10), as mathematics. No dump is read here. -/
import Derived.Test.YtihipcbhfjpgbaaCdtRep
namespace Go.Proofs.Ytihipcbhfjpgbaa
open Go.RowKit
section
variable {L L' : List Int} {P P' : Int → Int} {K K' : Int → List Int} {i j k p a b x : Int}
theorem after_ne {l : List Int} (hn : l.Nodup) (hk : 0 ≤ k) : after k l ≠ k + 1 := by
  induction l with
  | nil => simp [after]; omega
  | cons x l ih =>
    obtain ⟨hx, hn⟩ := List.nodup_cons.1 hn
    rw [after_cons]
    split
    · next e => intro h; subst e; exact hx (headK_mem h hk)
    · exact ih hn
theorem before_ne {l : List Int} (hn : l.Nodup) (hk : 0 ≤ k) : before k l ≠ k + 1 := by
  induction l with
  | nil => simp [before]; omega
  | cons x l ih =>
    obtain ⟨hx, hn⟩ := List.nodup_cons.1 hn
    rw [before_cons hk]
    split
    · next e => intro h; obtain rfl : x = k := by omega
                exact hx (headK_mem e hk)
    · exact ih hn
theorem Tree.nxt_ne (t : Tree P K) (hi : InS i) : nxt P K i ≠ i + 1 := by
  unfold nxt
  split
  · have := hi.1; omega
  · next h => exact after_ne (t.nodup _ (t.mem hi h).1) hi.1
theorem Tree.prv_ne (t : Tree P K) (hi : InS i) : prv P K i ≠ i + 1 := by
  unfold prv
  split
  · have := hi.1; omega
  · next h => exact before_ne (t.nodup _ (t.mem hi h).1) hi.1
/-- who stands beside has the same parent -/
theorem Tree.nxt_mem (_t : Tree P K) (_hi : InS i) (h : nxt P K i = x + 1) (hx : 0 ≤ x) : P i ≠ -1 ∧ x ∈ K (P i) := by
  unfold nxt at h
  split at h
  · omega
  · next h0 => exact ⟨h0, after_mem h hx⟩
theorem Tree.prv_mem (_t : Tree P K) (hi : InS i) (h : prv P K i = x + 1) (hx : 0 ≤ x) : P i ≠ -1 ∧ x ∈ K (P i) := by
  unfold prv at h
  split at h
  · omega
  · next h0 => exact ⟨h0, before_mem hi.1 h hx⟩
theorem unlink_none (h : Rep L P K) (t : Tree P K) (hk : InS k) (h0 : P k = -1) : unlinkL L k = L := by
  unfold unlinkL
  rw [if_neg]
  rw [h.place t hk]
  exact fun hh => hh.2 h0
theorem besideL_len {n q nx pv : Int} : (besideL L p n q nx pv).length = L.length := by
  unfold besideL
  rw [tellL_len]
  split <;> rw [tellL_len]
theorem atL_besideL {n q nx pv : Int} (hl : L.length = 738) : atL (besideL L p n q nx pv) j = if (0 ≤ n ∧ n < 96) ∧ j = 5 * n + 4 then pv + 1 else if q = -1 then (if (0 ≤ p ∧ p < 96) ∧ j = 5 * p + 2 then nx + 1 else atL L j) else if (0 ≤ q ∧ q < 96) ∧ j = 5 * q + 3 then nx + 1 else atL L j := by
  unfold besideL
  rw [atL_tellL (by split <;> (rw [tellL_len]; exact hl)) (by omega) (by omega)]
  by_cases e : q = -1
  · rw [if_pos e, if_pos e, atL_tellL hl (by omega) (by omega)]
  · rw [if_neg e, if_neg e, atL_tellL hl (by omega) (by omega)]
theorem standL_len {c : Int} : (standL L i a b c).length = L.length := by unfold standL; simp only [tellL_len]
theorem atL_standL {c : Int} (hl : L.length = 738) : atL (standL L i a b c) j = if (0 ≤ i ∧ i < 96) ∧ j = 5 * i + 4 then c + 1 else if (0 ≤ i ∧ i < 96) ∧ j = 5 * i + 3 then b + 1 else if (0 ≤ i ∧ i < 96) ∧ j = 5 * i + 1 then a + 1 else atL L j := by
  unfold standL
  rw [atL_tellL (by simp only [tellL_len]; exact hl) (by omega) (by omega), atL_tellL (by simp only [tellL_len]; exact hl) (by omega) (by omega), atL_tellL hl (by omega) (by omega)]
set_option maxHeartbeats 4000000 in
theorem Rep.unlink_to (h : Rep L P K) (t : Tree P K) (hk : InS k) (h0 : P k ≠ -1) :
    Rep (unlinkL L k) (setF P k (-1)) (setF K (P k) ((K (P k)).erase k)) ∧ ∀ j, Far j → atL (unlinkL L k) j = atL L j := by
  have hl := h.len
  have hp := (t.mem hk h0).1
  have hn := t.nxt_rng hk
  have hv := t.prv_rng hk
  have hnn := t.nxt_ne hk
  have hvn := t.prv_ne hk
  have hpk : P k ≠ k := by
    rcases t.par k hk with e | ⟨-, e⟩
    · exact absurd e h0
    · exact e
  have s1 : slotB k 0 = true := slotB_yes.2 ⟨hk.1, hk.2, by omega, by omega⟩
  have eL : unlinkL L k = standL (besideL L (P k) (nxt P K k - 1) (prv P K k - 1) (nxt P K k - 1) (prv P K k - 1)) k (-1) (-1) (-1) := by
    unfold unlinkL
    rw [h.place t hk, if_pos ⟨s1, h0⟩]
  have hlen : (unlinkL L k).length = 738 := by rw [eL, standL_len, besideL_len, hl]
  have ea : ∀ j, atL (unlinkL L k) j = _ := fun j => by
    rw [eL, atL_standL (by rw [besideL_len, hl]), atL_besideL hl]
  have hkr := hk
  have hpr := hp
  unfold InS at hkr hpr
  generalize unlinkL L k = M at ea hlen ⊢
  have hN : nxt P K k - 1 + 1 = nxt P K k := by omega
  have hV : prv P K k - 1 + 1 = prv P K k := by omega
  simp only [hN, hV] at ea
  generalize hH : nxt P K k = H at *
  generalize hG : prv P K k = G at *
  refine ⟨Rep.unlink h t hk h0 hlen ?_ ?_ ?_ ?_ ?_ ?_ ?_, ?_⟩
  · rw [ea]
    omega
  · rw [ea]
    omega
  · rw [ea]
    omega
  · intro e
    rw [hG] at e
    rw [ea, hH]
    omega
  · intro y hy e
    rw [hG] at e
    unfold InS at hy
    rw [ea, hH]
    omega
  · intro y hy e
    rw [hH] at e
    unfold InS at hy
    rw [ea, hG]
    omega
  · intro j j1 j2 j3 j4 j5 j6
    rw [hG] at j4 j5
    rw [hH] at j6
    have j7 : (0 ≤ H - 1 ∧ H - 1 < 96) → j ≠ 5 * (H - 1) + 4 := fun hx => j6 (H - 1) hx (by omega)
    have j8 : (0 ≤ G - 1 ∧ G - 1 < 96) → j ≠ 5 * (G - 1) + 3 := fun hx => j5 (G - 1) hx (by omega)
    rw [ea]
    by_cases hG0 : G = 0
    · have := j4 hG0; omega
    · omega
  · intro j hj
    have j1 := hj k 1 hk (by omega) (by omega)
    have j3 := hj k 3 hk (by omega) (by omega)
    have j4 := hj k 4 hk (by omega) (by omega)
    have j5 := hj (P k) 2 hp (by omega) (by omega)
    have j6 : (0 ≤ H - 1 ∧ H - 1 < 96) → j ≠ 5 * (H - 1) + 4 := fun hx => hj (H - 1) 4 hx (by omega) (by omega)
    have j7 : (0 ≤ G - 1 ∧ G - 1 < 96) → j ≠ 5 * (G - 1) + 3 := fun hx => hj (G - 1) 3 hx (by omega) (by omega)
    rw [ea]
    omega
set_option maxHeartbeats 8000000 in
theorem Rep.replace_to (h : Rep L P K) (r : Repl P K a b) :
    replaceA L a b = 0 ∧ Rep (replaceL L a b) (repP P K a b) (repK P K a b) ∧ ∀ j, Far j → atL (replaceL L a b) j = atL L j := by
  have t := r.tree
  have ha := r.ia
  have hb := r.ib
  have hne := r.ne
  have hl := h.len
  have hn := t.nxt_rng ha
  have hv := t.prv_rng ha
  have hnn := t.nxt_ne ha
  have hvn := t.prv_ne ha
  have hpr := t.par_rng ha
  have hpa := r.paa
  have hpb := r.pab
  have hf := headK_rng (t.kids ha)
  have hnb : nxt P K a ≠ b + 1 := fun e => by
    obtain ⟨q1, q2⟩ := t.nxt_mem ha e hb.1
    exact r.out (t.mem ha q1).1 q2
  have hvb : prv P K a ≠ b + 1 := fun e => by
    obtain ⟨q1, q2⟩ := t.prv_mem ha e hb.1
    exact r.out (t.mem ha q1).1 q2
  have hv0 : prv P K a ≠ 0 → P a ≠ -1 := fun e e1 => e (by rw [prv, if_pos e1])
  have e0 : replaceA L a b = 0 := by
    have s1 : slotB a 0 = true := slotB_yes.2 ⟨ha.1, ha.2, by omega, by omega⟩
    have s2 : slotB b 0 = true := slotB_yes.2 ⟨hb.1, hb.2, by omega, by omega⟩
    rw [replaceA, if_neg (by simp [s1, s2]), if_neg hne, if_neg (by rw [h.told1 t hb]; simp [r.pb]), if_neg (by rw [h.told2 t hb, r.kb, headK_nil]; simp)]
  have eL : replaceL L a b = tellL (standL (tellL (standL (besideL (downL L b (K a)) (P a) (nxt P K a - 1) (prv P K a - 1) b b) b (P a) (nxt P K a - 1) (prv P K a - 1)) b 2 (headK (K a) - 1)) a (-1) (-1) (-1)) a 2 (-1) := by
    unfold replaceL
    rw [if_pos e0, h.place t ha, h.told2 t ha, h.kids t ha]
  have hlen : (replaceL L a b).length = 738 := by rw [eL, tellL_len, standL_len, tellL_len, standL_len, besideL_len, downL_len, hl]
  have hD1 : ∀ x, x ∈ K a → atL (downL L b (K a)) (5 * x + 1) = b + 1 := fun x hx => (atL_downL (K a) L hl (t.kids ha)).1 ⟨x, hx, rfl⟩
  have hD2 : ∀ j, (∀ x, x ∈ K a → j ≠ 5 * x + 1) → atL (downL L b (K a)) j = atL L j := fun j hj => (atL_downL (K a) L hl (t.kids ha)).2 hj
  have ea : ∀ j, atL (replaceL L a b) j = _ := fun j => by
    rw [eL, atL_tellL (by rw [standL_len, tellL_len, standL_len, besideL_len, downL_len, hl]) (by omega) (by omega), atL_standL (by rw [tellL_len, standL_len, besideL_len, downL_len, hl]), atL_tellL (by rw [standL_len, besideL_len, downL_len, hl]) (by omega) (by omega), atL_standL (by rw [besideL_len, downL_len, hl]), atL_besideL (by rw [downL_len, hl])]
  have har := ha
  have hbr := hb
  unfold InS at har hbr
  generalize replaceL L a b = M at ea hlen ⊢
  generalize downL L b (K a) = D at ea hD1 hD2
  have hN : nxt P K a - 1 + 1 = nxt P K a := by omega
  have hV : prv P K a - 1 + 1 = prv P K a := by omega
  have hF : headK (K a) - 1 + 1 = headK (K a) := by omega
  simp only [hN, hV, hF, show (-1 : Int) + 1 = 0 from rfl] at ea
  have hka : ∀ x, x ∈ K a → x ≠ a ∧ x ≠ b ∧ InS x := fun x hx => ⟨fun e => r.aa (e ▸ hx), fun e => r.out ha (e ▸ hx), t.kids ha x hx⟩
  have hin : P a ≠ -1 → InS (P a) := fun e => (t.mem ha e).1
  generalize hH : nxt P K a = H at *
  generalize hG : prv P K a = G at *
  generalize hQ : headK (K a) = Q at *
  refine ⟨e0, Rep.replace h r hlen ?_ ?_ ?_ ?_ ?_ ?_ ?_ ?_ ?_ ?_ ?_ ?_ ?_, ?_⟩
  · rw [ea]
    omega
  · rw [ea, hQ]
    omega
  · rw [ea, hH]
    omega
  · rw [ea, hG]
    omega
  · rw [ea]
    omega
  · rw [ea]
    omega
  · rw [ea]
    omega
  · rw [ea]
    omega
  · intro e1 e
    have := hin e1
    unfold InS at this
    rw [hG] at e
    rw [ea]
    omega
  · intro y hy e
    rw [hG] at e
    unfold InS at hy
    rw [ea]
    omega
  · intro y hy e
    rw [hH] at e
    unfold InS at hy
    rw [ea]
    omega
  · intro x hx
    obtain ⟨x1, x2, x3⟩ := hka x hx
    have x4 := hD1 x hx
    unfold InS at x3
    rw [ea, x4]
    omega
  · intro j j1 j2 j3 j4 j5 j6
    rw [hG] at j3 j4
    rw [hH] at j5
    have a1 := j1 1 (by omega) (by omega)
    have a2 := j1 2 (by omega) (by omega)
    have a3 := j1 3 (by omega) (by omega)
    have a4 := j1 4 (by omega) (by omega)
    have b1 := j2 1 (by omega) (by omega)
    have b2 := j2 2 (by omega) (by omega)
    have b3 := j2 3 (by omega) (by omega)
    have b4 := j2 4 (by omega) (by omega)
    have j7 : (0 ≤ H - 1 ∧ H - 1 < 96) → j ≠ 5 * (H - 1) + 4 := fun hx => j5 (H - 1) hx (by omega)
    have j8 : (0 ≤ G - 1 ∧ G - 1 < 96) → j ≠ 5 * (G - 1) + 3 := fun hx => j4 (G - 1) hx (by omega)
    have j9 := hD2 j j6
    rw [ea, j9]
    by_cases hG0 : P a ≠ -1 ∧ G = 0
    · have := j3 hG0.1 hG0.2; omega
    · omega
  · intro j hj
    have a1 := hj a 1 ha (by omega) (by omega)
    have a2 := hj a 2 ha (by omega) (by omega)
    have a3 := hj a 3 ha (by omega) (by omega)
    have a4 := hj a 4 ha (by omega) (by omega)
    have b1 := hj b 1 hb (by omega) (by omega)
    have b2 := hj b 2 hb (by omega) (by omega)
    have b3 := hj b 3 hb (by omega) (by omega)
    have b4 := hj b 4 hb (by omega) (by omega)
    have j5 : (0 ≤ P a ∧ P a < 96) → j ≠ 5 * P a + 2 := fun hx => hj (P a) 2 hx (by omega) (by omega)
    have j6 : (0 ≤ H - 1 ∧ H - 1 < 96) → j ≠ 5 * (H - 1) + 4 := fun hx => hj (H - 1) 4 hx (by omega) (by omega)
    have j7 : (0 ≤ G - 1 ∧ G - 1 < 96) → j ≠ 5 * (G - 1) + 3 := fun hx => hj (G - 1) 3 hx (by omega) (by omega)
    have j9 := hD2 j (fun x hx => hj x 1 (hka x hx).2.2 (by omega) (by omega))
    rw [ea, j9]
    omega
end
end Go.Proofs.Ytihipcbhfjpgbaa
