/- An object, a capability is put into the document's state (layers 11 to 21): what lies then. -/
import Derived.Test.YtihipcbhfjpgbaaRefObjM
namespace Go.Proofs.Ytihipcbhfjpgbaa
open Go.RowKit
theorem blk_setCells {g : Nat} {t : TypeId} : ∀ (vs : List Value) (o : Nat) (w : World) (cur : Array Value), Blk w g t cur → o + vs.length ≤ cur.size →
    ∃ cur', Blk (w.setCells g o vs) g t cur' ∧ cur'.size = cur.size ∧ (∀ (m : Nat) (v : Value), vs[m]? = some v → cur'[o + m]? = some v) ∧ (∀ p : Nat, p < o ∨ o + vs.length ≤ p → cur'[p]? = cur[p]?) ∧ Only [g] w (w.setCells g o vs) := by
  intro vs
  induction vs with
  | nil =>
    intro o w cur h _
    exact ⟨cur, h, rfl, fun m v hv => by simp at hv, fun p _ => rfl, Only.refl _ _⟩
  | cons v vs ih =>
    intro o w cur h hl
    simp only [List.length_cons] at hl
    have h1 := h.set_ o v
    obtain ⟨cur', a1, a2, a3, a4, a5⟩ := ih (o + 1) (w.setCell ⟨g, o, none⟩ v) (cur.setIfInBounds o v) h1 (by rw [Array.size_setIfInBounds]; omega)
    refine ⟨cur', a1, by rw [a2, Array.size_setIfInBounds], fun m u hu => ?_, fun p hp => ?_, ((Only.refl [g] w).setCell (.inl (by simp)) v).trans a5⟩
    · cases m with
      | zero =>
        simp only [List.getElem?_cons_zero, Option.some.injEq] at hu
        subst hu
        rw [Nat.add_zero, a4 o (.inl (by omega)), Array.getElem?_setIfInBounds_self_of_lt (by omega)]
      | succ m =>
        simp only [List.getElem?_cons_succ] at hu
        have := a3 m u hu
        rwa [show o + (m + 1) = o + 1 + m by omega]
    · simp only [List.length_cons] at hp
      rw [a4 p (by omega), Array.getElem?_setIfInBounds_ne (by omega)]
section
variable {w w' : World} {ts tl to ti : TypeId} {p gs go : Nat} {S : RSt}
theorem RefAt.setObj (h : RefAt w ts tl to ti p gs go S) (hts : ts ≠ to) (htl : tl ≠ to) (hti : ti ≠ to) {i : Nat} (hi : i < 32) (x : RObj) {qv : Value} (hq : NumsC w ti qv x.queue) :
    RefAt (w.setCells go (i * 32) (objRow x qv)) ts tl to ti p gs go { S with ob := setF S.ob i x } ∧ Only [go] w (w.setCells go (i * 32) (objRow x qv)) := by
  obtain ⟨⟨cs, co, h1⟩, ⟨cur, h2, h3⟩, ⟨cur', h4, h5⟩⟩ := h
  have hs : 1024 ≤ cur'.size := by
    obtain ⟨qv', q1, -⟩ := h5 31 (by omega)
    have := (Array.getElem?_eq_some_iff.1 (q1 31 _ rfl)).1
    omega
  obtain ⟨c2, a1, -, a3, a4, ho⟩ := blk_setCells (objRow x qv) (i * 32) w cur' h4 (by rw [show (objRow x qv).length = 32 from rfl]; omega)
  have hF : ∀ g cur, Blk w g ti cur → g ∉ [go] := fun g c hb hm => by
    simp at hm
    subst hm
    exact hti (hb.uniq h4).1
  refine ⟨⟨⟨cs, co, ho.blk h1 (by simp; exact h1.ne_ h4 hts)⟩, ⟨cur, ho.blk h2 (by simp; exact h2.ne_ h4 htl), fun k hk => ?_⟩, ⟨c2, a1, fun k hk => ?_⟩⟩, ho⟩
  · obtain ⟨kv, q1, q2⟩ := h3 k hk
    exact ⟨kv, q1, q2.only ho hF⟩
  · by_cases e : k = i
    · subst e
      refine ⟨qv, fun m v hv => ?_, ?_⟩
      · refine a3 m v ?_
        simpa [setF] using hv
      · simpa [setF] using hq.only ho hF
    · obtain ⟨qv', q1, q2⟩ := h5 k hk
      have e' : ((k : Int) = (i : Int)) = False := by simp; omega
      refine ⟨qv', fun m v hv => ?_, ?_⟩
      · have hm : m < 32 := (List.getElem?_eq_some_iff.1 hv).1
        have hl : (objRow x qv).length = 32 := rfl
        rw [a4 _ (by rw [hl]; omega)]
        refine q1 m v ?_
        simpa [setF, e'] using hv
      · simpa [setF, e'] using q2.only ho hF
/-- one field of an object is put (hx by 'fun _ => rfl') -/
theorem RefAt.setField (h : RefAt w ts tl to ti p gs go S) (hts : ts ≠ to) (htl : tl ≠ to) (hti : ti ≠ to) {i j : Nat} (hi : i < 32) (hj : j < 32) (v : Value) (x : RObj) (hx : ∀ qv, (objRow (S.ob i) qv).set j v = objRow x qv) (hq : x.queue = (S.ob i).queue) :
    RefAt (w.setCell ⟨go, i * 32 + j, none⟩ v) ts tl to ti p gs go { S with ob := setF S.ob i x } ∧ Only [go] w (w.setCell ⟨go, i * 32 + j, none⟩ v) := by
  obtain ⟨⟨cs, co, h1⟩, ⟨cur, h2, h3⟩, ⟨cur', h4, h5⟩⟩ := h
  have ho : Only [go] w (w.setCell ⟨go, i * 32 + j, none⟩ v) := (Only.refl _ _).setCell (.inl (by simp)) _
  have hF : ∀ g cur, Blk w g ti cur → g ∉ [go] := fun g c hb hm => by
    simp at hm
    subst hm
    exact hti (hb.uniq h4).1
  refine ⟨⟨⟨cs, co, ho.blk h1 (by simp; exact h1.ne_ h4 hts)⟩, ⟨cur, ho.blk h2 (by simp; exact h2.ne_ h4 htl), fun k hk => ?_⟩, ⟨_, h4.set_ (i * 32 + j) v, fun k hk => ?_⟩⟩, ho⟩
  · obtain ⟨kv, q1, q2⟩ := h3 k hk
    exact ⟨kv, q1, q2.only ho hF⟩
  · obtain ⟨qv, q1, q2⟩ := h5 k hk
    by_cases e : k = i
    · subst e
      refine ⟨qv, ?_, ?_⟩
      · have := q1.set_ (j := j) (by rw [show (objRow (S.ob k) qv).length = 32 from rfl]; exact hj) v
        rw [hx qv] at this
        simpa [setF] using this
      · have := q2.only ho hF
        simpa [setF, hq] using this
    · have e' : ((k : Int) = (i : Int)) = False := by simp; omega
      refine ⟨qv, ?_, ?_⟩
      · have := q1.far (k := i) (j := j) (by rw [show (objRow (S.ob k) qv).length = 32 from rfl]; exact Nat.le_refl _) hj e v
        simpa [setF, e'] using this
      · simpa [setF, e'] using q2.only ho hF
def capRow (c : Cp) : List Value := [.int .i64 c.kind, .int .i64 c.rights, .int .i64 c.obj, .int .i64 c.badge, .int .i64 c.guard, .int .i64 c.bits]
theorem RefAt.setCap (h : RefAt w ts tl to ti p gs go S) (hts : ts ≠ tl) (hto : to ≠ tl) (hti : ti ≠ tl) {i : Nat} (hi : i < 96) (c : Cp) :
    RefAt (w.setCells gs (i * 8) (capRow c)) ts tl to ti p gs go { S with cap := setF S.cap i c } ∧ Only [gs] w (w.setCells gs (i * 8) (capRow c)) := by
  obtain ⟨⟨cs, co, h1⟩, ⟨cur, h2, h3⟩, ⟨cur', h4, h5⟩⟩ := h
  have hs : i * 8 + 8 ≤ cur.size := by
    obtain ⟨kv, q1, -⟩ := h3 i hi
    have := q1 7 kv rfl
    have := (Array.getElem?_eq_some_iff.1 this).1
    omega
  have hl : (capRow c).length = 6 := rfl
  obtain ⟨c2, a1, -, a3, a4, ho⟩ := blk_setCells (capRow c) (i * 8) w cur h2 (by rw [hl]; omega)
  have hF : ∀ g cur, Blk w g ti cur → g ∉ [gs] := fun g c hb hm => by
    simp at hm
    subst hm
    exact hti (hb.uniq h2).1
  refine ⟨⟨⟨cs, co, ho.blk h1 (by simp; exact h1.ne_ h2 hts)⟩, ⟨c2, a1, fun k hk => ?_⟩, ⟨cur', ho.blk h4 (by simp; exact h4.ne_ h2 hto), fun k hk => ?_⟩⟩, ho⟩
  · obtain ⟨kv, q1, q2⟩ := h3 k hk
    refine ⟨kv, fun m v hv => ?_, q2.only ho hF⟩
    have hm : m < 8 := (List.getElem?_eq_some_iff.1 hv).1
    by_cases e : k = i
    · subst e
      by_cases h6 : m < 6
      · refine a3 m v ?_
        simp only [setF, if_true, slotRow] at hv
        match m, h6 with
        | 0, _ => exact hv
        | 1, _ => exact hv
        | 2, _ => exact hv
        | 3, _ => exact hv
        | 4, _ => exact hv
        | 5, _ => exact hv
      · rw [a4 _ (by rw [hl]; omega)]
        refine q1 m v ?_
        obtain rfl | rfl : m = 6 ∨ m = 7 := by omega
        · exact hv
        · exact hv
    · have e' : ((k : Int) = (i : Int)) = False := by simp; omega
      rw [a4 _ (by rw [hl]; omega)]
      refine q1 m v ?_
      simpa [setF, e'] using hv
  · obtain ⟨qv, q1, q2⟩ := h5 k hk
    exact ⟨qv, q1, q2.only ho hF⟩
end
end Go.Proofs.Ytihipcbhfjpgbaa
