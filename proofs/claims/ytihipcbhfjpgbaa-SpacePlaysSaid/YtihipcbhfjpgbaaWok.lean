/- Words and the document's state with queues, one and the same (layers 15 to 22): a field is put, a queue is changed, on both; as mathematics. No dump is read here. -/
import Derived.Test.YtihipcbhfjpgbaaQFld
import Derived.Test.YtihipcbhfjpgbaaQueV
import Derived.Test.YtihipcbhfjpgbaaJ6
namespace Go.Proofs.Ytihipcbhfjpgbaa
open Go.RowKit
abbrev RSt.qs (S : RSt) : Int → List Int := fun o => (S.ob o).queue
abbrev RSt.zs (S : RSt) : Int → Prop := fun o => (0 ≤ o ∧ o < 32) ∧ (S.ob o).isQ
abbrev RSt.ys (S : RSt) : Int → Prop := fun t => (0 ≤ t ∧ t < 32) ∧ (S.ob t).kind = 5 ∧ (S.ob t).owing = -1
/-- words L tell state S, queues and all -/
structure Wok (L : List Int) (S : RSt) : Prop where
  sok : Sok S
  qf : S.QFit
  low : ∀ j, 0 ≤ j → j < 480 → atL L j = atL (slotsL S) j
  fld : ∀ a f : Nat, a < 32 → f < 8 → ((S.ob a).kind = 5 → f ≠ 2) → ((S.ob a).isQ → f ≠ 2 ∧ f ≠ 3) → atL L (ow a f) = fldW (S.ob a) f
  q : QW L S.qs S.zs S.ys
  owe : ∀ a : Nat, a < 32 → (S.ob a).kind = 5 → (S.ob a).owing ≠ -1 → atL L (ow a 2) = (S.ob a).owing + 1
  ns : atL L 736 = S.ns
  no : atL L 737 = S.no
theorem Wok.of {S : RSt} (h : Sok S) (q : S.QFit) : Wok (wordsG S) S where
  sok := h
  qf := q
  low := fun _ h0 h1 => wordsG_low h.queued h0 h1
  fld := fun _ _ ha hf h1 h2 => h.fldQ q ha hf h1 h2
  q := h.qw q
  owe := fun a ha hk hw => h.fldT q ha hk (fun i hm => hw (q.mem i a hm).2.2)
  ns := h.nsW
  no := h.noW
section
variable {L L' : List Int} {S : RSt} {a f : Nat} {o t v : Int} {x : RObj} {p b : List Int}
theorem ext_atL (h1 : L.length = 738) (h2 : L'.length = 738) (h : ∀ j, 0 ≤ j → j < 738 → atL L j = atL L' j) : L = L' := by
  refine List.ext_getElem? (fun k => ?_)
  by_cases hk : k < 738
  · obtain ⟨y, hy⟩ : ∃ y, L[k]? = some y := ⟨_, List.getElem?_eq_getElem (by omega)⟩
    obtain ⟨z, hz⟩ : ∃ z, L'[k]? = some z := ⟨_, List.getElem?_eq_getElem (by omega)⟩
    have := h k (by omega) (by omega)
    rw [atL_in hy, atL_in hz] at this
    rw [hy, hz, this]
  · rw [List.getElem?_eq_none (by omega), List.getElem?_eq_none (by omega)]
theorem qw_ow : qw (a : Int) 2 = ow a 2 ∧ qw (a : Int) 3 = ow a 3 := by constructor <;> (unfold qw ow; omega)
/-- a chain tells who is behind each -/
theorem Ch_uniq {nx nx' : Int → Int} : ∀ (l : List Int) (o : Int), Ch nx o l → Ch nx' o l → ∀ i, i = o ∨ i ∈ l → nx i = nx' i := by
  intro l
  induction l with
  | nil =>
    intro o h h' i hi
    obtain rfl : i = o := hi.resolve_right (by simp)
    have h : nx i = 0 := h
    have h' : nx' i = 0 := h'
    rw [h, h']
  | cons y l ih =>
    intro o h h' i hi
    rcases hi with rfl | hi
    · rw [h.1, h'.1]
    · exact ih y h.2 h'.2 i ((List.mem_cons.1 hi).imp id id)
theorem Wok.words (h : Wok L S) : L = wordsG S := by
  have g := Wok.of h.sok h.qf
  refine ext_atL h.q.len (wordsG_len S) (fun j h0 h1 => ?_)
  by_cases e : j < 480
  · rw [h.low j h0 e, g.low j h0 e]
  by_cases e6 : j = 736
  · rw [e6, h.ns, g.ns]
  by_cases e7 : j = 737
  · rw [e7, h.no, g.no]
  obtain ⟨a, f, ha, hf, rfl⟩ : ∃ a f : Nat, a < 32 ∧ f < 8 ∧ j = ow a f := ⟨((j - 480) / 8).toNat, ((j - 480) % 8).toNat, by omega, by omega, by unfold ow; omega⟩
  by_cases hQ : (S.ob a).isQ
  · by_cases hf2 : f = 2
    · subst hf2
      rw [← qw_ow.1]
      exact Ch_uniq _ _ (h.q.ch a ⟨by omega, hQ⟩) (g.q.ch a ⟨by omega, hQ⟩) a (.inl rfl)
    by_cases hf3 : f = 3
    · subst hf3
      rw [← qw_ow.2, h.q.ls a ⟨by omega, hQ⟩, g.q.ls a ⟨by omega, hQ⟩]
    rw [h.fld a f ha hf (fun e => absurd e (isQ_no5 hQ)) (fun _ => ⟨hf2, hf3⟩), g.fld a f ha hf (fun e => absurd e (isQ_no5 hQ)) (fun _ => ⟨hf2, hf3⟩)]
  by_cases hk : (S.ob a).kind = 5 ∧ f = 2
  · obtain ⟨hk, rfl⟩ := hk
    by_cases hw : (S.ob a).owing = -1
    · by_cases hm : ∃ o : Int, (a : Int) ∈ (S.ob o).queue
      · obtain ⟨o, hm⟩ := hm
        have ho := h.qf.own o (fun e => by rw [e] at hm; simp at hm)
        rw [← qw_ow.1]
        exact Ch_uniq _ _ (h.q.ch o ho) (g.q.ch o ho) a (.inr hm)
      · have hf : ∀ o : Int, (a : Int) ∉ (S.ob o).queue := fun o hm' => hm ⟨o, hm'⟩
        rw [← qw_ow.1]
        exact (h.q.free a ⟨by omega, hk, hw⟩ (fun z => hQ z.2) hf).trans (g.q.free a ⟨by omega, hk, hw⟩ (fun z => hQ z.2) hf).symm
    · rw [h.owe a ha hk hw, g.owe a ha hk hw]
  · rw [h.fld a f ha hf (fun e e2 => hk ⟨e, e2⟩) (fun e => absurd e hQ), g.fld a f ha hf (fun e e2 => hk ⟨e, e2⟩) (fun e => absurd e hQ)]
theorem QW.same {q : Int → List Int} {Z Y Y' : Int → Prop} (h : QW L q Z Y) (hl : L'.length = 738) (h2 : ∀ i, (Z i ∨ ∃ o, i ∈ q o) → atL L' (qw i 2) = atL L (qw i 2)) (h3 : ∀ o, Z o → atL L' (qw o 3) = atL L (qw o 3)) (hy : ∀ t, Y' t → ¬ Z t → (∀ o, t ∉ q o) → atL L' (qw t 2) = 0) : QW L' q Z Y' where
  len := hl
  zr := h.zr
  own := h.own
  rng := h.rng
  nd := h.nd
  one := h.one
  top := h.top
  ch := fun o ho => Ch_congr _ _ (fun i hi => h2 i (hi.elim (fun e => .inl (e ▸ ho)) (fun e => .inr ⟨o, e⟩))) (h.ch o ho)
  ls := fun o ho => by rw [h3 o ho]; exact h.ls o ho
  free := fun t ht hz hf => hy t ht hz hf
theorem putO_at (S : RSt) (o i : Int) (x : RObj) : (S.putO o x).ob i = if i = o then x else S.ob i := rfl
theorem putO_self (S : RSt) (o : Int) (x : RObj) : (S.putO o x).ob o = x := if_pos rfl
theorem putO_ne {S : RSt} {o i : Int} {x : RObj} (h : i ≠ o) : (S.putO o x).ob i = S.ob i := if_neg h
theorem Sok.putO (h : Sok S) (hx : x.FitO) : Sok (S.putO o x) := ⟨h.tree, h.out, h.may, fun i hi => by
  rw [putO_at]
  split
  · exact hx
  · exact h.obs i hi, h.ns, h.no⟩
/-- an object is put whose queue, and kind, and owing are as they were -/
theorem RSt.QFit.put (q : S.QFit) (hk : x.kind = (S.ob o).kind) (hq : x.queue = (S.ob o).queue) (hw : x.owing = (S.ob o).owing) : (S.putO o x).QFit := by
  have e : ∀ i, ((S.putO o x).ob i).queue = (S.ob i).queue ∧ ((S.putO o x).ob i).kind = (S.ob i).kind ∧ ((S.putO o x).ob i).owing = (S.ob i).owing := fun i => by
    rw [putO_at]
    split
    · next e => subst e; exact ⟨hq, hk, hw⟩
    · exact ⟨rfl, rfl, rfl⟩
  refine ⟨fun i hi => ?_, fun i t ht => ?_, fun i => ?_, fun i p t h1 h2 => ?_⟩
  · rw [(e i).1] at hi
    obtain ⟨h1, h2⟩ := q.own i hi
    exact ⟨h1, by unfold RObj.isQ at h2 ⊢; rw [(e i).2.1]; exact h2⟩
  · rw [(e i).1] at ht
    rw [(e t).2.1, (e t).2.2]
    exact q.mem i t ht
  · rw [(e i).1]; exact q.nd i
  · rw [(e i).1] at h1; rw [(e p).1] at h2; exact q.one i p t h1 h2
theorem setL_at (hl : L.length = 738) (ha : a < 32) (hf : f < 8) (v j : Int) : atL (setL L (ow a f) v) j = if j = ow a f then v else atL L j := by
  rw [atL_setL]
  have e : hasB L.length (ow a f) = true := hasB_yes.2 (by unfold ow; omega)
  by_cases h : j = ow a f
  · rw [if_pos ⟨e, h⟩, if_pos h]
  · rw [if_neg (fun h2 => h h2.2), if_neg h]
/-- a field is put that tells no queue -/
theorem Wok.put (h : Wok L S) (ha : a < 32) (hf : f < 8) (hx : x.FitO) (hk : x.kind = (S.ob a).kind) (hq : x.queue = (S.ob a).queue) (hw : x.owing = (S.ob a).owing) (h5 : (S.ob a).kind = 5 → f ≠ 2) (hQ : (S.ob a).isQ → f ≠ 2 ∧ f ≠ 3)
    (hv : fldW x f = v) (hg : ∀ g, g < 8 → g ≠ f → fldW x g = fldW (S.ob a) g) : Wok (setL L (ow a f) v) (S.putO a x) := by
  have hl := h.q.len
  have hat := setL_at hl ha hf v
  have eQ : ∀ i, ((S.putO a x).ob i).queue = (S.ob i).queue := fun i => by
    rw [putO_at]
    split
    · next e => subst e; exact hq
    · rfl
  have eK : ∀ i, ((S.putO a x).ob i).kind = (S.ob i).kind := fun i => by
    rw [putO_at]
    split
    · next e => subst e; exact hk
    · rfl
  have eW : ∀ i, ((S.putO a x).ob i).owing = (S.ob i).owing := fun i => by
    rw [putO_at]
    split
    · next e => subst e; exact hw
    · rfl
  have eI : ∀ i, ((S.putO a x).ob i).isQ ↔ (S.ob i).isQ := fun i => by unfold RObj.isQ; rw [eK]
  have hqs : (S.putO a x).qs = S.qs := funext eQ
  have hzs : (S.putO a x).zs = S.zs := funext fun i => by unfold RSt.zs; rw [eI]
  have hys : (S.putO a x).ys = S.ys := funext fun i => by unfold RSt.ys; rw [eK, eW]
  have far : ∀ i, ((0 ≤ i ∧ i < 32) ∧ ((S.ob i).isQ ∨ (S.ob i).kind = 5)) → qw i 2 ≠ ow a f := fun i hi e => by
    have e1 : i = a := by unfold qw ow at e; omega
    have e2 : f = 2 := by unfold qw ow at e; omega
    subst e1
    exact hi.2.elim (fun z => (hQ z).1 e2) (fun z => h5 z e2)
  refine ⟨h.sok.putO hx, h.qf.put hk hq hw, fun j h0 h1 => ?_, fun i g hi hg' h1 h2 => ?_, ?_, fun i hi hk' hw' => ?_, ?_, ?_⟩
  · rw [hat, if_neg (by unfold ow; omega)]
    exact h.low j h0 h1
  · rw [eK] at h1
    rw [eI] at h2
    rw [hat]
    by_cases e : i = a
    · subst e
      rw [putO_self]
      by_cases e2 : g = f
      · subst e2; rw [if_pos rfl, hv]
      · rw [if_neg (fun q => e2 (ow_eq.1 q)), h.fld i g hi hg' h1 h2, hg g hg' e2]
    · rw [if_neg (ow_ne hg' hf e), putO_ne (by omega)]
      exact h.fld i g hi hg' h1 h2
  · rw [hqs, hzs, hys]
    refine h.q.same (by rw [setL_length]; exact hl) (fun i hi => ?_) (fun i hi => ?_) (fun i hi hz hf' => ?_)
    · rw [hat, if_neg (far i _)]
      rcases hi with hi | ⟨o, hi⟩
      · exact ⟨hi.1, .inl hi.2⟩
      · have := h.qf.mem o i hi
        exact ⟨this.1, .inr this.2.1⟩
    · rw [hat, if_neg (fun e => ?_)]
      have e1 : i = a := by unfold qw ow at e; omega
      have e2 : f = 3 := by unfold qw ow at e; omega
      subst e1
      exact (hQ hi.2).2 e2
    · rw [hat, if_neg (far i ⟨hi.1, .inr hi.2.1⟩)]
      exact h.q.free i hi hz hf'
  · rw [eK] at hk'
    rw [eW] at hw' ⊢
    rw [hat, ← qw_ow.1, if_neg (far i ⟨by omega, .inr hk'⟩), qw_ow.1]
    exact h.owe i hi hk' hw'
  · rw [hat, if_neg (by unfold ow; omega)]; exact h.ns
  · rw [hat, if_neg (by unfold ow; omega)]; exact h.no
/-- a thread that is in no queue is owed a reply by another one, or by none -/
theorem fldW_owing {g : Nat} (hk : x.kind = 5) (hg : g < 8) (h2 : g ≠ 2) (c : Int) : fldW { x with owing := c } g = fldW x g := by
  have hf8 : g = 0 ∨ g = 1 ∨ g = 3 ∨ g = 4 ∨ g = 5 ∨ g = 6 ∨ g = 7 := by omega
  rcases hf8 with rfl | rfl | rfl | rfl | rfl | rfl | rfl <;> simp [fldW, kindF, threadF, putF, ow, hk]
theorem Wok.owing (h : Wok L S) (ha : a < 32) (hk : (S.ob a).kind = 5) (hf : ∀ o : Int, (a : Int) ∉ (S.ob o).queue) {c : Int} (hc : -1 ≤ c ∧ c ≤ 1099511627776) : Wok (setL L (ow a 2) (c + 1)) (S.putO a { S.ob a with owing := c }) := by
  have hl := h.q.len
  have hat := setL_at hl ha (f := 2) (by omega) (c + 1)
  have eQ : ∀ i, ((S.putO a { S.ob a with owing := c }).ob i).queue = (S.ob i).queue := fun i => by
    rw [putO_at]
    split
    · next e => subst e; rfl
    · rfl
  have eK : ∀ i, ((S.putO a { S.ob a with owing := c }).ob i).kind = (S.ob i).kind := fun i => by
    rw [putO_at]
    split
    · next e => subst e; rfl
    · rfl
  have eI : ∀ i, ((S.putO a { S.ob a with owing := c }).ob i).isQ ↔ (S.ob i).isQ := fun i => by unfold RObj.isQ; rw [eK]
  have hqs : (S.putO a { S.ob a with owing := c }).qs = S.qs := funext eQ
  have hzs : (S.putO a { S.ob a with owing := c }).zs = S.zs := funext fun i => by unfold RSt.zs; rw [eI]
  have hQa : ¬ (S.ob a).isQ := fun e => isQ_no5 e hk
  have hfit := h.sok.obs a ha
  refine ⟨h.sok.putO { hfit with owing := hc, pg := hfit.pg, rt := hfit.rt }, ⟨fun i hi => ?_, fun i t ht => ?_, fun i => ?_, fun i p t h1 h2 => ?_⟩, fun j h0 h1 => ?_, fun i g hi hg' h1 h2 => ?_, ?_, fun i hi hk' hw' => ?_, ?_, ?_⟩
  · rw [eQ] at hi
    rw [eI]
    exact h.qf.own i hi
  · rw [eQ] at ht
    have hne : t ≠ a := fun e => hf i (e ▸ ht)
    rw [putO_ne hne]
    exact h.qf.mem i t ht
  · rw [eQ]; exact h.qf.nd i
  · rw [eQ] at h1 h2; exact h.qf.one i p t h1 h2
  · rw [hat, if_neg (by unfold ow; omega)]
    exact h.low j h0 h1
  · rw [eK] at h1
    rw [eI] at h2
    rw [hat]
    by_cases e : i = a
    · subst e
      rw [putO_self, if_neg (fun q => h1 hk (ow_eq.1 q)), fldW_owing hk hg' (h1 hk)]
      exact h.fld i g hi hg' h1 h2
    · rw [if_neg (ow_ne hg' (by omega) e), putO_ne (by omega)]
      exact h.fld i g hi hg' h1 h2
  · rw [hqs, hzs]
    refine h.q.same (by rw [setL_length]; exact hl) (fun i hi => ?_) (fun i hi => ?_) (fun i hi hz hf' => ?_)
    · rw [hat, if_neg (fun e => ?_)]
      have e1 : i = a := by unfold qw ow at e; omega
      subst e1
      rcases hi with hi | ⟨o, hi⟩
      · exact hQa hi.2
      · exact hf o hi
    · rw [hat, if_neg (by unfold qw ow; omega)]
    · rw [hat]
      by_cases e : i = a
      · subst e
        have := hi.2.2
        rw [putO_self] at this
        rw [if_pos qw_ow.1, show c = -1 from this]
        rfl
      · rw [if_neg (fun e2 => e (by unfold qw ow at e2; omega))]
        have hi' : S.ys i := by
          have := hi
          unfold RSt.ys at this
          rwa [putO_ne e] at this
        exact h.q.free i hi' hz hf'
  · rw [eK] at hk'
    rw [hat]
    by_cases e : i = a
    · subst e
      rw [if_pos rfl, putO_self]
    · rw [if_neg (ow_ne (by omega) (by omega) e), putO_ne (by omega)]
      rw [putO_ne (by omega)] at hw'
      exact h.owe i hi hk' hw'
  · rw [hat, if_neg (by unfold ow; omega)]; exact h.ns
  · rw [hat, if_neg (by unfold ow; omega)]; exact h.no
end
section
variable {L L' : List Int} {S : RSt} {o t : Int} {p b : List Int}
theorem FitO_queue {x : RObj} (h : x.FitO) {l : List Int} (h1 : ∀ t, t ∈ l → 0 ≤ t ∧ t < 32) (h2 : l.length ≤ 500) : ({ x with queue := l } : RObj).FitO := { h with qin := h1, qlen := h2, pg := h.pg, rt := h.rt }
/-- a queue is changed, in the words and in the state -/
theorem Wok.requeue (h : Wok L S) (ho : S.zs o) {l : List Int} (hq : QW L' (putQ S.qs o l) S.zs S.ys) (hl : l.length ≤ 500) (hm : ∀ t, t ∈ l → (S.ob t).kind = 5 ∧ (S.ob t).owing = -1)
    (hx : ∀ j, (∀ i, (S.zs i ∨ S.ys i) → j ≠ qw i 2) → j ≠ qw o 3 → atL L' j = atL L j) : Wok L' (S.putO o { S.ob o with queue := l }) := by
  have eQ : (S.putO o { S.ob o with queue := l }).qs = putQ S.qs o l := funext fun i => by
    show ((S.putO o { S.ob o with queue := l }).ob i).queue = _
    rw [putO_at]
    unfold putQ
    split <;> rfl
  have eK : ∀ i, ((S.putO o { S.ob o with queue := l }).ob i).kind = (S.ob i).kind := fun i => by
    rw [putO_at]
    split
    · next e => subst e; rfl
    · rfl
  have eW : ∀ i, ((S.putO o { S.ob o with queue := l }).ob i).owing = (S.ob i).owing := fun i => by
    rw [putO_at]
    split
    · next e => subst e; rfl
    · rfl
  have eF : ∀ i f, fldW ((S.putO o { S.ob o with queue := l }).ob i) f = fldW (S.ob i) f := fun i f => by
    rw [putO_at]
    split
    · next e => subst e; rfl
    · rfl
  have eI : ∀ i, ((S.putO o { S.ob o with queue := l }).ob i).isQ ↔ (S.ob i).isQ := fun i => by unfold RObj.isQ; rw [eK]
  have hzs : (S.putO o { S.ob o with queue := l }).zs = S.zs := funext fun i => by unfold RSt.zs; rw [eI]
  have hys : (S.putO o { S.ob o with queue := l }).ys = S.ys := funext fun i => by unfold RSt.ys; rw [eK, eW]
  have hlow : ∀ j, (∀ i, (S.zs i ∨ S.ys i) → j ≠ qw i 2) ∧ j ≠ qw o 3 → atL L' j = atL L j := fun j hj => hx j hj.1 hj.2
  have r2 : ∀ i, (S.zs i ∨ S.ys i) → 0 ≤ i ∧ i < 32 := fun i hi => hi.elim (fun z => z.1) (fun y => y.1)
  obtain ⟨c, rfl, hc⟩ := nat_of ho.1
  have hmem : ∀ i t, t ∈ putQ S.qs (c : Int) l i → t ∈ l ∨ t ∈ S.qs i := fun i t ht => by
    unfold putQ at ht
    split at ht
    · exact .inl ht
    · exact .inr ht
  have hto : ∀ i f : Nat, i < 32 → f < 8 → ((S.ob i).kind = 5 → f ≠ 2) → ((S.ob i).isQ → f ≠ 2 ∧ f ≠ 3) → atL L' (ow i f) = atL L (ow i f) := fun i f hi hf h1 h2 => by
    refine hx _ (fun k hk e => ?_) (fun e => ?_)
    · have e1 : k = i := by have := r2 k hk; unfold qw ow at e; omega
      have e2 : f = 2 := by have := r2 k hk; unfold qw ow at e; omega
      subst e1
      rcases hk with hk | hk
      · exact (h2 hk.2).1 e2
      · exact h1 hk.2.1 e2
    · have e1 : i = c := by unfold qw ow at e; omega
      have e2 : f = 3 := by unfold qw ow at e; omega
      subst e1
      exact (h2 ho.2).2 e2
  refine ⟨h.sok.putO (FitO_queue (h.sok.obs c hc) (fun t ht => hq.rng c t (by unfold putQ; rw [if_pos rfl]; exact ht)) hl), ⟨fun i hi => ?_, fun i t ht => ?_, fun i => ?_, fun i k t h1 h2 => ?_⟩, fun j h0 h1 => ?_, fun i g hi hg' h1 h2 => ?_, ?_, fun i hi hk' hw' => ?_, ?_, ?_⟩
  · have hi' : putQ S.qs (c : Int) l i ≠ [] := by rw [← eQ]; exact hi
    have := hq.own i hi'
    rw [eI]
    exact this
  · have ht' : t ∈ putQ S.qs (c : Int) l i := by rw [← eQ]; exact ht
    refine ⟨hq.rng i t ht', ?_⟩
    rw [eK, eW]
    rcases hmem i t ht' with e | e
    · exact hm t e
    · exact (h.qf.mem i t e).2
  · have := hq.nd i
    rw [← eQ] at this
    exact this
  · have h1' : t ∈ putQ S.qs (c : Int) l i := by rw [← eQ]; exact h1
    have h2' : t ∈ putQ S.qs (c : Int) l k := by rw [← eQ]; exact h2
    exact hq.one i k t h1' h2'
  · rw [hx j (fun i hi => by have := r2 i hi; unfold qw; omega) (by unfold qw; omega)]
    exact h.low j h0 h1
  · rw [eK] at h1
    rw [eI] at h2
    rw [hto i g hi hg' h1 h2, eF]
    exact h.fld i g hi hg' h1 h2
  · rw [eQ, hzs, hys]
    exact hq
  · rw [eK] at hk'
    rw [eW] at hw' ⊢
    rw [hx _ (fun k hk e => ?_) (by unfold qw ow; omega)]
    · exact h.owe i hi hk' hw'
    · have e1 : k = i := by have := r2 k hk; unfold qw ow at e; omega
      subst e1
      rcases hk with hk | hk
      · exact isQ_no5 hk.2 hk'
      · exact hw' hk.2.2
  · rw [hx _ (fun i hi => by have := r2 i hi; unfold qw; omega) (by unfold qw; omega)]; exact h.ns
  · rw [hx _ (fun i hi => by have := r2 i hi; unfold qw; omega) (by unfold qw; omega)]; exact h.no
theorem Wok.few (h : Wok L S) (o : Int) : (S.qs o).length ≤ 32 := h.q.few o
/-- one is dropped -/
theorem Wok.drop (h : Wok L S) (ho : S.zs o) (hq : (S.ob o).queue = p ++ t :: b) (hl : L'.length = 738)
    (hx : ∀ j, atL L' j = if j = qw t 2 then 0 else if j = qw (lst o p) 2 then atL L (qw t 2) else if j = qw o 3 then lsW (p ++ b) else atL L j) : Wok L' (S.putO o { S.ob o with queue := p ++ b }) := by
  have hsub : ∀ x, x ∈ p ++ b → x ∈ (S.ob o).queue := fun x hx => by
    rw [hq]
    rcases List.mem_append.1 hx with e | e
    · exact List.mem_append_left _ e
    · exact List.mem_append_right _ (List.mem_cons_of_mem _ e)
  have ht : S.ys t := ⟨(h.qf.mem o t (by rw [hq]; simp)).1, (h.qf.mem o t (by rw [hq]; simp)).2⟩
  have hlst : S.zs (lst o p) ∨ S.ys (lst o p) := by
    rcases lst_mem p o with e | e
    · rw [e]; exact .inl ho
    · have := h.qf.mem o _ (hsub _ (List.mem_append_left b e))
      exact .inr ⟨this.1, this.2⟩
  refine h.requeue ho (h.q.drop ho hq hl hx) ?_ (fun x hx' => (h.qf.mem o x (hsub x hx')).2) (fun j h2 h3 => ?_)
  · have := h.few o
    have e : S.qs o = p ++ t :: b := hq
    rw [e] at this
    simp at this ⊢
    omega
  · rw [hx, if_neg (h2 t (.inr ht)), if_neg (h2 _ hlst), if_neg h3]
end
end Go.Proofs.Ytihipcbhfjpgbaa
