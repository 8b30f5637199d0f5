/- What package cdt's calls come to on plain words (layer 10), as mathematics. No dump is read here. -/
import Derived.Test.YtbklkpbcdijgoaaCdtM
import Derived.Test.YtbklkpbcdijgoaaTreeM
namespace Go.Proofs.Ytbklkpbcdijgoaa
open Go.RowKit
section
variable {L : List Int} {i j f n k p a b c x : Int}
def toldL (L : List Int) (i f : Int) : Int := if slotB i f = true then toldI (atL L (5 * i + f)) else -1
def tellL (L : List Int) (i f n : Int) : List Int := if slotB i f = true then setL L (5 * i + f) (n + 1) else L
theorem toldP_plain : (toldP i f).run machP L = (toldL L i f, L) := by
  unfold toldP toldL
  split
  · next h => rw [Vp.run_rdP, Vp.run_ret, slotI_yes h]
  · rfl
theorem tellP_plain : (tellP i f n).run machP L = ((), tellL L i f n) := by
  unfold tellP tellL
  split
  · next h => rw [Vp.run_wrP, Vp.run_ret, slotI_yes h]
  · rfl
theorem tellL_len : (tellL L i f n).length = L.length := by
  unfold tellL
  split
  · exact setL_length _ _ _
  · rfl
theorem atL_tellL (hl : L.length = 738) (h0 : 0 ≤ f) (h5 : f < 5) : atL (tellL L i f n) j = if (0 ≤ i ∧ i < 96) ∧ j = 5 * i + f then n + 1 else atL L j := by
  unfold tellL
  by_cases h : slotB i f = true
  · have hi := slotB_yes.1 h
    rw [if_pos h, atL_setL, hl]
    have hb : hasB 738 (5 * i + f) = true := hasB_yes.2 (by omega)
    by_cases e : j = 5 * i + f
    · rw [if_pos ⟨hb, e⟩, if_pos ⟨⟨hi.1, hi.2.1⟩, e⟩]
    · rw [if_neg (fun h => e h.2), if_neg (fun h => e h.2)]
  · rw [if_neg h, if_neg]
    intro hh
    exact h (slotB_yes.2 ⟨hh.1.1, hh.1.2, h0, h5⟩)
theorem tellL_us (h : Us L) (h0 : -1 ≤ n) (h1 : n ≤ 95) : Us (tellL L i f n) := by
  unfold tellL
  split
  · exact h.set _ ⟨by omega, by omega⟩
  · exact h
def standL (L : List Int) (i a b c : Int) : List Int := tellL (tellL (tellL L i 1 a) i 3 b) i 4 c
theorem standP_plain : (standP i a b c).run machP L = ((), standL L i a b c) := by
  unfold standP standL
  rw [Vp.run_bind_is tellP_plain, Vp.run_bind_is tellP_plain, tellP_plain]
def placeL (L : List Int) (i : Int) : Int × Int × Int := if toldL L i 1 = -1 then (-1, -1, -1) else (toldL L i 1, toldL L i 3, toldL L i 4)
theorem placeP_plain : (placeP i).run machP L = (placeL L i, L) := by
  unfold placeP placeL
  rw [Vp.run_bind_is toldP_plain]
  by_cases h : toldL L i 1 = -1
  · rw [Vp.run_yes h, Vp.run_ret, if_pos h]
  · rw [Vp.run_no h, Vp.run_bind_is toldP_plain, Vp.run_bind_is toldP_plain, Vp.run_ret, if_neg h]
def besideL (L : List Int) (p n q nx pv : Int) : List Int := tellL (if q = -1 then tellL L p 2 nx else tellL L q 3 nx) n 4 pv
theorem besideP_plain {q nx pv : Int} : (besideP p n q nx pv).run machP L = ((), besideL L p n q nx pv) := by
  unfold besideP besideL
  split
  · rw [Vp.run_bind_is tellP_plain, tellP_plain]
  · rw [Vp.run_bind_is tellP_plain, tellP_plain]
/-- the kids from one on, so many at most -/
def kidsN (L : List Int) : Nat → Int → List Int
  | 0, _ => []
  | n + 1, k => if k = -1 then [] else k :: kidsN L n (toldL L k 3)
def kidsL (L : List Int) (i : Int) : List Int := kidsN L 96 (toldL L i 2)
theorem kidsF_plain : ∀ (n : Nat) (k : Int), (kidsF n k).run machP L = (kidsN L n k, L) := by
  intro n
  induction n with
  | zero => intro k; rfl
  | succ n ih =>
    intro k
    by_cases hk : k = -1
    · subst hk
      rw [kidsF_none]
      rfl
    · rw [kidsF_more hk toldP_plain (ih _), show kidsN L (n + 1) k = if k = -1 then [] else k :: kidsN L n (toldL L k 3) from rfl, if_neg hk]
theorem kidsP_plain : (kidsP i).run machP L = (kidsL L i, L) := by
  unfold kidsP kidsL
  rw [Vp.run_bind_is toldP_plain, kidsF_plain]
def leafN (L : List Int) : Nat → Int → Int
  | 0, i => i
  | n + 1, i => if toldL L i 2 = -1 then i else leafN L n (toldL L i 2)
def leafL (L : List Int) (i : Int) : Int := if slotB i 0 = true then leafN L 96 i else -1
theorem leafF_plain : ∀ (n : Nat) (k : Int), (leafF n k).run machP L = (leafN L n k, L) := by
  intro n
  induction n with
  | zero => intro k; rfl
  | succ n ih =>
    intro k
    rw [show leafN L (n + 1) k = if toldL L k 2 = -1 then k else leafN L n (toldL L k 2) from rfl]
    by_cases hk : toldL L k 2 = -1
    · rw [leafF_end (by rw [toldP_plain, hk]), if_pos hk]
    · rw [leafF_more toldP_plain hk, ih, if_neg hk]
theorem leafP_plain : (leafP i).run machP L = (leafL L i, L) := by
  unfold leafP leafL
  split
  · exact leafF_plain _ _
  · rfl
def downL (L : List Int) (b : Int) (l : List Int) : List Int := l.foldl (fun L k => tellL L k 1 b) L
theorem downP_plain {b : Int} : ∀ (l : List Int) (L : List Int), (downP b l).run machP L = ((), downL L b l) := by
  intro l
  induction l with
  | nil => intro L; rfl
  | cons k l ih =>
    intro L
    rw [show downP b (k :: l) = (tellP k 1 b).bind fun _ => downP b l from rfl, Vp.run_bind_is tellP_plain, ih]
    rfl
theorem downL_len {b : Int} : ∀ (l : List Int) (L : List Int), (downL L b l).length = L.length := by
  intro l
  induction l with
  | nil => intro L; rfl
  | cons k l ih => intro L; rw [show downL L b (k :: l) = downL (tellL L k 1 b) b l from rfl, ih, tellL_len]
theorem atL_downL {b : Int} : ∀ (l : List Int) (L : List Int), L.length = 738 → (∀ x, x ∈ l → InS x) → ((∃ x, x ∈ l ∧ j = 5 * x + 1) → atL (downL L b l) j = b + 1) ∧ ((∀ x, x ∈ l → j ≠ 5 * x + 1) → atL (downL L b l) j = atL L j) := by
  intro l
  induction l with
  | nil => intro L _ _; exact ⟨fun ⟨x, hx, _⟩ => by simp at hx, fun _ => rfl⟩
  | cons k l ih =>
    intro L hl hin
    have ih' := ih (tellL L k 1 b) (by rw [tellL_len]; exact hl) (fun x hx => hin x (by simp [hx]))
    rw [show downL L b (k :: l) = downL (tellL L k 1 b) b l from rfl]
    constructor
    · rintro ⟨x, hx, e⟩
      by_cases h : ∃ y, y ∈ l ∧ j = 5 * y + 1
      · exact ih'.1 h
      · rw [ih'.2 (fun y hy e => h ⟨y, hy, e⟩), atL_tellL hl (by omega) (by omega), if_pos]
        rcases List.mem_cons.1 hx with rfl | hx
        · exact ⟨hin x (by simp), e⟩
        · exact absurd ⟨x, hx, e⟩ h
    · intro h
      rw [ih'.2 (fun y hy => h y (by simp [hy])), atL_tellL hl (by omega) (by omega), if_neg (fun hh => h k (by simp) hh.2)]
def linkA (L : List Int) (k p : Int) : Int := if slotB k 0 = false ∨ slotB p 0 = false then 2 else if k = p then 10 else if toldL L k 1 ≠ -1 then 10 else 0
def linkL (L : List Int) (k p : Int) : List Int := if linkA L k p = 0 then standL (tellL (tellL L (toldL L p 2) 4 k) p 2 k) k p (toldL L p 2) (-1) else L
theorem linkP_plain : (linkP k p).run machP L = (linkA L k p, linkL L k p) := by
  unfold linkP linkL
  by_cases h1 : slotB k 0 = false ∨ slotB p 0 = false
  · have e : linkA L k p = 2 := if_pos h1
    rw [Vp.run_yes h1, Vp.run_ret, e]
    rfl
  rw [Vp.run_no h1]
  by_cases h2 : k = p
  · have e : linkA L k p = 10 := by rw [linkA, if_neg h1, if_pos h2]
    rw [Vp.run_yes h2, Vp.run_ret, e]
    rfl
  rw [Vp.run_no h2, Vp.run_bind_is toldP_plain]
  by_cases h3 : toldL L k 1 ≠ -1
  · have e : linkA L k p = 10 := by rw [linkA, if_neg h1, if_neg h2, if_pos h3]
    rw [Vp.run_yes h3, Vp.run_ret, e]
    rfl
  have e : linkA L k p = 0 := by rw [linkA, if_neg h1, if_neg h2, if_neg h3]
  rw [Vp.run_no h3, Vp.run_bind_is toldP_plain, Vp.run_bind_is tellP_plain, Vp.run_bind_is tellP_plain, Vp.run_bind_is standP_plain, Vp.run_ret, e, if_pos rfl]
def unlinkA (k : Int) : Int := if slotB k 0 = false then 2 else 0
def unlinkL (L : List Int) (k : Int) : List Int := if slotB k 0 = true ∧ (placeL L k).1 ≠ -1 then standL (besideL L (placeL L k).1 (placeL L k).2.1 (placeL L k).2.2 (placeL L k).2.1 (placeL L k).2.2) k (-1) (-1) (-1) else L
theorem unlinkP_plain : (unlinkP k).run machP L = (unlinkA k, unlinkL L k) := by
  unfold unlinkP unlinkL unlinkA
  cases h1 : slotB k 0 with
  | false => rw [Vp.run_yes rfl, Vp.run_ret, if_pos rfl, if_neg (by simp)]
  | true =>
    have hf : ¬ true = false := by simp
    rw [Vp.run_no hf, Vp.run_bind_is placeP_plain]
    by_cases h2 : (placeL L k).1 = -1
    · rw [Vp.run_yes h2, Vp.run_ret, if_neg (fun h : true = true ∧ (placeL L k).1 ≠ -1 => h.2 h2)]; rfl
    · rw [Vp.run_no h2, Vp.run_bind_is besideP_plain, Vp.run_bind_is standP_plain, Vp.run_ret, if_pos (show true = true ∧ (placeL L k).1 ≠ -1 from ⟨rfl, h2⟩)]; rfl
def replaceA (L : List Int) (a b : Int) : Int := if slotB a 0 = false ∨ slotB b 0 = false then 2 else if a = b then 10 else if toldL L b 1 ≠ -1 then 10 else if toldL L b 2 ≠ -1 then 10 else 0
def replaceL (L : List Int) (a b : Int) : List Int :=
  if replaceA L a b = 0 then
    tellL (standL (tellL (standL (besideL (downL L b (kidsL L a)) (placeL L a).1 (placeL L a).2.1 (placeL L a).2.2 b b) b (placeL L a).1 (placeL L a).2.1 (placeL L a).2.2) b 2 (toldL L a 2)) a (-1) (-1) (-1)) a 2 (-1)
  else L
theorem replaceP_plain : (replaceP a b).run machP L = (replaceA L a b, replaceL L a b) := by
  unfold replaceP replaceL
  by_cases h1 : slotB a 0 = false ∨ slotB b 0 = false
  · have e : replaceA L a b = 2 := if_pos h1
    rw [Vp.run_yes h1, Vp.run_ret, e]
    rfl
  rw [Vp.run_no h1]
  by_cases h2 : a = b
  · have e : replaceA L a b = 10 := by rw [replaceA, if_neg h1, if_pos h2]
    rw [Vp.run_yes h2, Vp.run_ret, e]
    rfl
  rw [Vp.run_no h2, Vp.run_bind_is toldP_plain]
  by_cases h3 : toldL L b 1 ≠ -1
  · have e : replaceA L a b = 10 := by rw [replaceA, if_neg h1, if_neg h2, if_pos h3]
    rw [Vp.run_yes h3, Vp.run_ret, e]
    rfl
  rw [Vp.run_no h3, Vp.run_bind_is toldP_plain]
  by_cases h4 : toldL L b 2 ≠ -1
  · have e : replaceA L a b = 10 := by rw [replaceA, if_neg h1, if_neg h2, if_neg h3, if_pos h4]
    rw [Vp.run_yes h4, Vp.run_ret, e]
    rfl
  have e : replaceA L a b = 0 := by rw [replaceA, if_neg h1, if_neg h2, if_neg h3, if_neg h4]
  rw [Vp.run_no h4, Vp.run_bind_is placeP_plain, Vp.run_bind_is toldP_plain, Vp.run_bind_is kidsP_plain, Vp.run_bind_is (downP_plain _ _), Vp.run_bind_is besideP_plain, Vp.run_bind_is standP_plain,
    Vp.run_bind_is tellP_plain, Vp.run_bind_is standP_plain, Vp.run_bind_is tellP_plain, Vp.run_ret, e, if_pos rfl]
end
end Go.Proofs.Ytbklkpbcdijgoaa
