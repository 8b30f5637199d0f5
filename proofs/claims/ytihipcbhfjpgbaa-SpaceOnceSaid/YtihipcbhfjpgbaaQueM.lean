/- Queues of objects in the words (layers 14 and up), as mathematics: who is behind whom; what one that is pushed, or dropped, makes of them. No dump is read here. -/
import Derived.Test.YtihipcbhfjpgbaaJ1
namespace Go.Proofs.Ytihipcbhfjpgbaa
open Go.RowKit
/-- from p on, one behind the other, the last one has none behind it -/
def Ch (nx : Int → Int) : Int → List Int → Prop
  | p, [] => nx p = 0
  | p, t :: b => nx p = t + 1 ∧ Ch nx t b
def Sg (nx : Int → Int) : Int → List Int → Prop
  | _, [] => True
  | p, x :: a => nx p = x + 1 ∧ Sg nx x a
/-- the last one -/
def lst : Int → List Int → Int
  | p, [] => p
  | _, x :: a => lst x a
section
variable {nx nx' : Int → Int} {p t : Int} {a b l : List Int}
theorem lst_mem : ∀ (a : List Int) (p : Int), lst p a = p ∨ lst p a ∈ a := by
  intro a
  induction a with
  | nil => exact fun p => .inl rfl
  | cons x a ih =>
    intro p
    right
    show lst x a ∈ x :: a
    rcases ih x with h | h
    · rw [h]; exact List.mem_cons_self
    · exact List.mem_cons_of_mem _ h
theorem lst_app : ∀ (a : List Int) (p : Int), lst p (a ++ t :: b) = lst t b := by
  intro a
  induction a with
  | nil => exact fun _ => rfl
  | cons x a ih => exact fun _ => ih x
theorem Ch_append : ∀ (a : List Int) (p : Int), Ch nx p (a ++ l) ↔ Sg nx p a ∧ Ch nx (lst p a) l := by
  intro a
  induction a with
  | nil => exact fun p => ⟨fun h => ⟨trivial, h⟩, fun h => h.2⟩
  | cons x a ih =>
    intro p
    show (nx p = x + 1 ∧ Ch nx x (a ++ l)) ↔ (nx p = x + 1 ∧ Sg nx x a) ∧ Ch nx (lst x a) l
    rw [ih x, and_assoc]
theorem Ch_congr : ∀ (l : List Int) (p : Int), (∀ i, i = p ∨ i ∈ l → nx' i = nx i) → Ch nx p l → Ch nx' p l := by
  intro l
  induction l with
  | nil => exact fun p h hc => by show nx' p = 0; rw [h p (.inl rfl)]; exact hc
  | cons x l ih =>
    intro p h hc
    exact ⟨by rw [h p (.inl rfl)]; exact hc.1, ih x (fun i hi => h i (.inr (hi.elim (fun e => e ▸ List.mem_cons_self) (List.mem_cons_of_mem _)))) hc.2⟩
theorem Sg_upd : ∀ (a : List Int) (p : Int), (p :: a).Nodup → (∀ i, (i = p ∨ i ∈ a) → i ≠ lst p a → nx' i = nx i) → Sg nx p a → Sg nx' p a := by
  intro a
  induction a with
  | nil => exact fun _ _ _ _ => trivial
  | cons x a ih =>
    intro p hn h hc
    obtain ⟨h1, h2⟩ := List.nodup_cons.1 hn
    refine ⟨?_, ih x h2 (fun i hi => h i (.inr (hi.elim (fun e => e ▸ List.mem_cons_self) (List.mem_cons_of_mem _)))) hc.2⟩
    rw [h p (.inl rfl) (fun e => h1 ?_)]
    · exact hc.1
    · rcases lst_mem a x with q | q
      · rw [e]; show lst x a ∈ x :: a; rw [q]; exact List.mem_cons_self
      · rw [e]; exact List.mem_cons_of_mem _ q
/-- one is dropped -/
theorem Ch_drop (hn : (p :: (a ++ t :: b)).Nodup) (h : Ch nx p (a ++ t :: b)) (h1 : nx' (lst p a) = nx t) (hx : ∀ i, i ≠ lst p a → i ≠ t → nx' i = nx i) : Ch nx' p (a ++ b) := by
  obtain ⟨hs, -, hc⟩ := (Ch_append a p).1 h
  rw [← List.cons_append] at hn
  obtain ⟨n1, n2, n3⟩ := List.nodup_append.1 hn
  have ht : ∀ i, i = p ∨ i ∈ a → i ≠ t := fun i hi => n3 i (List.mem_cons.2 hi) t List.mem_cons_self
  refine (Ch_append a p).2 ⟨Sg_upd a p n1 (fun i hi hl => hx i hl (ht i hi)) hs, ?_⟩
  have hb : ∀ i, i ∈ b → nx' i = nx i := fun i hi => hx i (fun e => by
    have := n3 (lst p a) (List.mem_cons.2 (lst_mem a p)) i (List.mem_cons_of_mem _ hi)
    exact this e.symm) (fun e => (List.nodup_cons.1 n2).1 (e ▸ hi))
  cases b with
  | nil => show nx' _ = 0; rw [h1]; exact hc
  | cons x b => exact ⟨by rw [h1]; exact hc.1, Ch_congr b x (fun i hi => hb i (hi.elim (fun e => e ▸ List.mem_cons_self) (List.mem_cons_of_mem _))) hc.2⟩
end
/-- the word of an object's field 2, of its field 3 -/
abbrev qw (i f : Int) : Int := 480 + 8 * i + f
def nxL (L : List Int) (i : Int) : Int := atL L (qw i 2)
/-- a queue's last one, as a word -/
def lsW (l : List Int) : Int := match l with
  | [] => 0
  | x :: a => lst x a + 1
def putQ (q : Int → List Int) (o : Int) (l : List Int) (i : Int) : List Int := if i = o then l else q i
/-- words L tell queues q, of objects Z; those that are in none, of objects Y, have none behind them -/
structure QW (L : List Int) (q : Int → List Int) (Z Y : Int → Prop) : Prop where
  len : L.length = 738
  zr : ∀ o, Z o → 0 ≤ o ∧ o < 32
  own : ∀ o, q o ≠ [] → Z o
  rng : ∀ o t, t ∈ q o → 0 ≤ t ∧ t < 32
  nd : ∀ o, (q o).Nodup
  one : ∀ o p t, t ∈ q o → t ∈ q p → o = p
  top : ∀ o p, Z o → o ∉ q p
  ch : ∀ o, Z o → Ch (nxL L) o (q o)
  ls : ∀ o, Z o → atL L (qw o 3) = lsW (q o)
  free : ∀ t, Y t → ¬ Z t → (∀ o, t ∉ q o) → nxL L t = 0
section
variable {L L' : List Int} {q : Int → List Int} {Z Y : Int → Prop} {o t i : Int} {a b : List Int}
theorem QW.nd1 (h : QW L q Z Y) (ho : Z o) : (o :: q o).Nodup := List.nodup_cons.2 ⟨h.top o o ho, h.nd o⟩
theorem lsW_app : lsW (a ++ [t]) = t + 1 := by
  cases a with
  | nil => rfl
  | cons x a => show lst x (a ++ [t]) + 1 = _; rw [lst_app]; rfl
theorem lsW_drop (hb : b ≠ []) : lsW (a ++ t :: b) = lsW (a ++ b) := by
  obtain ⟨x, c, rfl⟩ : ∃ x c, b = x :: c := by cases b with
    | nil => exact absurd rfl hb
    | cons x c => exact ⟨x, c, rfl⟩
  cases a with
  | nil => rfl
  | cons y a => show lst y (a ++ t :: x :: c) + 1 = lst y (a ++ x :: c) + 1; rw [lst_app, lst_app]; rfl
/-- who is in a queue, or has one -/
theorem QW.lst_rng (h : QW L q Z Y) (ho : Z o) (hq : q o = a ++ b) : (0 ≤ lst o a ∧ lst o a < 32) ∧ (lst o a = o ∨ lst o a ∈ q o) := by
  rcases lst_mem a o with e | e
  · rw [e]; exact ⟨h.zr o ho, .inl rfl⟩
  · have : lst o a ∈ q o := by rw [hq]; exact List.mem_append_left _ e
    exact ⟨h.rng o _ this, .inr this⟩
/-- one is dropped -/
theorem QW.drop (h : QW L q Z Y) (ho : Z o) (hq : q o = a ++ t :: b) (hl : L'.length = 738)
    (hx : ∀ j, atL L' j = if j = qw t 2 then 0 else if j = qw (lst o a) 2 then atL L (qw t 2) else if j = qw o 3 then lsW (a ++ b) else atL L j) : QW L' (putQ q o (a ++ b)) Z Y := by
  obtain ⟨lr, lm⟩ := h.lst_rng ho hq
  have htq : t ∈ q o := by rw [hq]; simp
  have ht := h.rng o t htq
  have hz : ¬ Z t := fun hz => h.top t o hz htq
  have hto : t ≠ o := fun e => hz (e ▸ ho)
  have hnd := h.nd1 ho
  rw [hq] at hnd
  have hlt : lst o a ≠ t := by
    rw [← List.cons_append] at hnd
    exact (List.nodup_append.1 hnd).2.2 (lst o a) (List.mem_cons.2 (lst_mem a o)) t List.mem_cons_self
  have n1 : nxL L' (lst o a) = nxL L t := by unfold nxL; rw [hx, if_neg (by unfold qw; omega), if_pos rfl]
  have n2 : nxL L' t = 0 := by unfold nxL; rw [hx, if_pos rfl]
  have n3 : ∀ i, i ≠ lst o a → i ≠ t → nxL L' i = nxL L i := fun i h1 h2 => by
    unfold nxL
    rw [hx, if_neg (by unfold qw; omega), if_neg (by unfold qw; omega), if_neg (by unfold qw; omega)]
  have n4 : ∀ i, i ≠ o → atL L' (qw i 3) = atL L (qw i 3) := fun i h1 => by rw [hx, if_neg (by unfold qw; omega), if_neg (by unfold qw; omega), if_neg (by unfold qw; omega)]
  have n5 : atL L' (qw o 3) = lsW (a ++ b) := by rw [hx, if_neg (by unfold qw; omega), if_neg (by unfold qw; omega), if_pos rfl]
  have sub : ∀ x, x ∈ a ++ b → x ∈ q o := fun x hx => by
    rw [hq]
    rcases List.mem_append.1 hx with e | e
    · exact List.mem_append_left _ e
    · exact List.mem_append_right _ (List.mem_cons_of_mem _ e)
  have pq : ∀ p x, x ∈ putQ q o (a ++ b) p → x ∈ q p := fun p x hp => by
    unfold putQ at hp
    split at hp
    · next e => subst e; exact sub x hp
    · exact hp
  have pm : ∀ p x, x ∈ q p → x ≠ t → x ∈ putQ q o (a ++ b) p := fun p x hp hne => by
    unfold putQ
    split
    · next e =>
      subst e
      rw [hq] at hp
      rcases List.mem_append.1 hp with e | e
      · exact List.mem_append_left _ e
      · exact List.mem_append_right _ ((List.mem_cons.1 e).resolve_left hne)
    · exact hp
  refine ⟨hl, h.zr, fun p hp => ?_, fun p x hp => h.rng p x (pq p x hp), fun p => ?_, fun p p' x hp hp' => h.one p p' x (pq p x hp) (pq p' x hp'), fun p p' hp hp' => h.top p p' hp (pq p' p hp'), fun p hp => ?_, fun p hp => ?_, fun x hy hzx hfx => ?_⟩
  · by_cases e : p = o
    · exact e ▸ ho
    · exact h.own p (by unfold putQ at hp; rwa [if_neg e] at hp)
  · unfold putQ
    split
    · have := h.nd o
      rw [hq] at this
      exact List.Nodup.sublist (List.Sublist.append_left (List.sublist_cons_self t b) a) this
    · exact h.nd p
  · by_cases e : p = o
    · subst e
      unfold putQ
      rw [if_pos rfl]
      have hc := h.ch p ho
      rw [hq] at hc
      exact Ch_drop hnd hc n1 n3
    · unfold putQ
      rw [if_neg e]
      refine Ch_congr _ _ (fun i hi => n3 i (fun q' => ?_) (fun q' => ?_)) (h.ch p hp)
      · rcases lm with lm | lm
        · rw [lm] at q'
          exact hi.elim (fun q'' => e (q''.symm.trans q')) (fun q'' => h.top o p ho (q' ▸ q''))
        · exact hi.elim (fun q'' => h.top p o hp (q'' ▸ q' ▸ lm)) (fun q'' => e (h.one p o i q'' (q' ▸ lm)))
      · exact hi.elim (fun q'' => hz (q' ▸ q'' ▸ hp)) (fun q'' => e (h.one p o i q'' (q' ▸ htq)))
  · by_cases e : p = o
    · subst e
      unfold putQ
      rw [n5, if_pos rfl]
    · unfold putQ
      rw [n4 p e, if_neg e]
      exact h.ls p hp
  · by_cases e : x = t
    · rw [e]; exact n2
    · rw [n3 x (fun q' => ?_) e]
      · exact h.free x hy hzx (fun p hp => hfx p (pm p x hp e))
      · rcases lm with lm | lm
        · exact hzx (by rw [q', lm]; exact ho)
        · exact hfx o (pm o x (q' ▸ lm) e)
/-- who is behind one, as the code reads it -/
theorem refL_some {f : Int} (ho : 0 ≤ o ∧ o < 32) (hf : 0 ≤ f ∧ f < 8) (ht : 0 ≤ t ∧ t < 32) (h : atL L (480 + 8 * o + f) = t + 1) : refL L o f = (t, true) := by
  unfold refL fieldL
  rw [if_pos (objB_yes.2 ⟨ho.1, ho.2, hf.1, hf.2⟩), h]
  have e : numI (t + 1) = t + 1 := if_neg (by omega)
  rw [e, if_pos (belowB_yes.2 ⟨by omega, by omega⟩), Int.add_sub_cancel]
theorem refL_none {f : Int} (h : atL L (480 + 8 * o + f) = 0) : refL L o f = (0, false) := by
  unfold refL fieldL
  rw [h]
  have e : numI 0 = 0 := rfl
  rw [e, if_neg]
  split <;> decide
end
end Go.Proofs.Ytihipcbhfjpgbaa
