/- Fields that are read and put, queues that are popped and pushed, on words and on the document's state alike (layers 15 to 22), as mathematics. No dump is read here. -/
import Derived.Test.YtdkjfalhalepgaaEpS
namespace Go.Proofs.Ytdkjfalhalepgaa
open Go.RowKit
def stS (S : RSt) (t n : Int) : RSt := S.upO t fun x => { x with state := n }
def badgeS (S : RSt) (t n : Int) : RSt := S.upO t fun x => { x with badge := n }
def atS (S : RSt) (t o : Int) : RSt := S.upO t fun x => { x with on := o }
section
variable {x : RObj} {g : Nat}
theorem fldW_thr (hk : x.kind = 5) : fldW x 1 = x.state ∧ fldW x 3 = x.word ∧ fldW x 4 = x.badge ∧ fldW x 5 = x.prio + 256 * (x.on + 1) ∧ fldW x 6 = x.owes + 1 ∧ fldW x 7 = x.root.word := by
  refine ⟨?_, ?_, ?_, ?_, ?_, ?_⟩ <;> simp [fldW, kindF, threadF, putF, ow, hk]
theorem fldW_ep (hk : x.kind = 3) : fldW x 1 = x.wait := by simp [fldW, kindF, putF, ow, hk]
theorem fldW_nt (hk : x.kind = 4) : fldW x 1 = x.word := by simp [fldW, kindF, putF, ow, hk]
theorem fldW_kind (x : RObj) : fldW x 0 = x.kind := rfl
theorem gcase (hg : g < 8) : g = 0 ∨ g = 1 ∨ g = 2 ∨ g = 3 ∨ g = 4 ∨ g = 5 ∨ g = 6 ∨ g = 7 := by omega
end
section
variable {L L' : List Int} {S : RSt} {t n o c : Int} {l b : List Int}
theorem objB_in {f : Int} (ho : 0 ≤ o ∧ o < 32) (hf : 0 ≤ f ∧ f < 8) : objB o f = true := objB_yes.2 ⟨ho.1, ho.2, hf.1, hf.2⟩
theorem numI_small {v : Int} (h : v ≤ 4611686018427387904) : numI v = v := if_neg (by omega)
theorem Wok.field (h : Wok L S) {a f : Nat} (ha : a < 32) (hf : f < 8) (h1 : (S.ob a).kind = 5 → f ≠ 2) (h2 : (S.ob a).isQ → f ≠ 2 ∧ f ≠ 3) (hv : fldW (S.ob a) f ≤ 4611686018427387904) : fieldL L (a : Int) (f : Int) = fldW (S.ob a) f := by
  unfold fieldL
  rw [if_pos (objB_in ⟨by omega, by omega⟩ ⟨by omega, by omega⟩), show (480 : Int) + 8 * (a : Int) + (f : Int) = ow a f by unfold ow; omega, h.fld a f ha hf h1 h2, numI_small hv]
theorem Wok.kind (h : Wok L S) (ho : 0 ≤ o ∧ o < 32) : fieldL L o 0 = (S.ob o).kind := by
  obtain ⟨a, rfl, ha⟩ := nat_of ho
  have hk := (h.sok.obs a ha).kind
  exact h.field ha (f := 0) (by omega) (fun _ => by omega) (fun _ => by omega) (by rw [fldW_kind]; omega)
theorem Wok.isL (h : Wok L S) (ho : 0 ≤ o ∧ o < 32) (k : Int) (hk : 0 ≤ k) : Go.Proofs.Ytdkjfalhalepgaa.isL L o k = decide ((S.ob o).kind = k) := by
  obtain ⟨a, rfl, ha⟩ := nat_of ho
  unfold Go.Proofs.Ytdkjfalhalepgaa.isL
  have e := h.fld a 0 ha (by omega) (fun _ => by omega) (fun _ => by omega)
  rw [show ow a 0 = (480 : Int) + 8 * (a : Int) by unfold ow; omega, fldW_kind] at e
  rw [e, objB_in ⟨by omega, by omega⟩ ⟨by omega, by omega⟩, decide_eq_true hk]
  by_cases e2 : (S.ob (a : Int)).kind = k <;> simp [e2]
theorem Wok.thr (h : Wok L S) (ht : S.Thr t) : fieldL L t 1 = (S.ob t).state ∧ fieldL L t 3 = (S.ob t).word ∧ fieldL L t 4 = (S.ob t).badge ∧ fieldL L t 5 = (S.ob t).prio + 256 * ((S.ob t).on + 1) ∧ fieldL L t 6 = (S.ob t).owes + 1 := by
  obtain ⟨⟨h0, h1⟩, hk⟩ := ht
  obtain ⟨a, rfl, ha⟩ := nat_of ⟨h0, h1⟩
  obtain ⟨e1, e3, e4, e5, e6, -⟩ := fldW_thr hk
  have hq : ¬ (S.ob (a : Int)).isQ := fun e => isQ_no5 e hk
  have hf := h.sok.obs a ha
  have w1 := hf.state
  have w3 := hf.word
  have w4 := hf.badge
  have w5 := hf.prio
  have w6 := hf.on
  have w7 := hf.owes
  exact ⟨(h.field ha (f := 1) (by omega) (fun _ => by omega) (fun e => absurd e hq) (by rw [e1]; omega)).trans e1, (h.field ha (f := 3) (by omega) (fun _ => by omega) (fun e => absurd e hq) (by rw [e3]; omega)).trans e3,
    (h.field ha (f := 4) (by omega) (fun _ => by omega) (fun e => absurd e hq) (by rw [e4]; omega)).trans e4, (h.field ha (f := 5) (by omega) (fun _ => by omega) (fun e => absurd e hq) (by rw [e5]; omega)).trans e5,
    (h.field ha (f := 6) (by omega) (fun _ => by omega) (fun e => absurd e hq) (by rw [e6]; omega)).trans e6⟩
theorem Wok.waitL (h : Wok L S) (he : EpAt S o) : fieldL L o 1 = (S.ob o).wait := by
  obtain ⟨h0, hk⟩ := he
  obtain ⟨a, rfl, ha⟩ := nat_of h0
  have hf := (h.sok.obs a ha).wait
  exact (h.field ha (f := 1) (by omega) (fun _ => by omega) (fun _ => by omega) (by rw [fldW_ep hk]; omega)).trans (fldW_ep hk)
theorem Wok.wordL (h : Wok L S) (ho : 0 ≤ o ∧ o < 32) (hk : (S.ob o).kind = 4) : fieldL L o 1 = (S.ob o).word := by
  obtain ⟨a, rfl, ha⟩ := nat_of ho
  have hf := (h.sok.obs a ha).word
  exact (h.field ha (f := 1) (by omega) (fun _ => by omega) (fun _ => by omega) (by rw [fldW_nt hk]; omega)).trans (fldW_nt hk)
theorem refL_of {f : Int} (h : fieldL L o f = c + 1) (hc : -1 ≤ c ∧ c < 32) : refL L o f = if 0 ≤ c then (c, true) else (0, false) := by
  unfold refL
  rw [h, show c + 1 - 1 = c by omega]
  by_cases e : 0 ≤ c
  · rw [if_pos (belowB_yes.2 ⟨e, hc.2⟩), if_pos e]
  · rw [if_neg (fun z => e (belowB_yes.1 z).1), if_neg e]
/-- whom it owes a reply -/
theorem Wok.owesL (h : Wok L S) (e : EII S) (ht : S.Thr t) : refL L t 6 = if 0 ≤ (S.ob t).owes then ((S.ob t).owes, true) else (0, false) := by
  refine refL_of (h.thr ht).2.2.2.2 ⟨(e.lo t ht).2, ?_⟩
  by_cases h0 : 0 ≤ (S.ob t).owes
  · exact (e.a t _ ht rfl h0).1.1.2
  · omega
/-- who owes it a reply, of one that is in no queue -/
theorem Wok.owingL (h : Wok L S) (e : EII S) (ht : S.Thr t) (hn : ∀ o : Int, t ∉ (S.ob o).queue) : refL L t 2 = if 0 ≤ (S.ob t).owing then ((S.ob t).owing, true) else (0, false) := by
  have ht' := ht
  obtain ⟨⟨h0, h1⟩, hk⟩ := ht'
  obtain ⟨a, rfl, ha⟩ := nat_of ⟨h0, h1⟩
  have hv : atL L (ow a 2) = (S.ob (a : Int)).owing + 1 := by
    by_cases hw : (S.ob (a : Int)).owing = -1
    · have := h.q.free a ⟨⟨h0, h1⟩, hk, hw⟩ (fun z => isQ_no5 z.2 hk) hn
      unfold nxL at this
      rw [qw_ow.1] at this
      rw [this, hw]
      rfl
    · exact h.owe a ha hk hw
  have hr := e.lo a ht
  have hb : (S.ob (a : Int)).owing < 32 := by
    by_cases h2 : 0 ≤ (S.ob (a : Int)).owing
    · exact (e.b a _ ht rfl h2).1.1.2
    · omega
  refine refL_of ?_ ⟨hr.1, hb⟩
  unfold fieldL
  rw [if_pos (objB_in ⟨by omega, by omega⟩ ⟨by omega, by omega⟩), show (480 : Int) + 8 * (a : Int) + 2 = ow a 2 by unfold ow; omega, hv, numI_small (by omega)]
/-- a thread's field is put -/
theorem Wok.putT (h : Wok L S) (ht : S.Thr t) {f : Nat} (hf : f < 8) (h2 : f ≠ 2) {F : RObj → RObj} {v : Int} (hv0 : 0 ≤ v) (hfit : ∀ x : RObj, x.FitO → (F x).FitO) (hk : ∀ x : RObj, (F x).kind = x.kind) (hq : ∀ x : RObj, (F x).queue = x.queue) (hw : ∀ x : RObj, (F x).owing = x.owing)
    (hv : fldW (F (S.ob t)) f = v) (hg : ∀ g, g < 8 → g ≠ f → fldW (F (S.ob t)) g = fldW (S.ob t) g) : Wok (putL L t (f : Int) v) (S.upO t F) := by
  obtain ⟨⟨h0, h1⟩, hk5⟩ := ht
  obtain ⟨a, rfl, ha⟩ := nat_of ⟨h0, h1⟩
  have hQ : ¬ (S.ob (a : Int)).isQ := fun e => isQ_no5 e hk5
  have e : putL L (a : Int) (f : Int) v = setL L (ow a f) v := by
    unfold putL
    rw [if_pos ⟨objB_in ⟨by omega, by omega⟩ ⟨by omega, by omega⟩, hv0⟩, show (480 : Int) + 8 * (a : Int) + (f : Int) = ow a f by unfold ow; omega]
  rw [e]
  exact h.put ha hf (hfit _ (h.sok.obs a ha)) (hk _) (hq _) (hw _) (fun _ => h2) (fun e => absurd e hQ) hv hg
theorem Wok.putState (h : Wok L S) (ht : S.Thr t) (hn : b40 n) : Wok (putL L t 1 n) (stS S t n) := by
  have hk := ht.2
  refine h.putT ht (f := 1) (by decide) (by decide) hn.1 (fun x hx => { hx with state := hn, pg := hx.pg, rt := hx.rt }) (fun _ => rfl) (fun _ => rfl) (fun _ => rfl) (fldW_thr (x := { S.ob t with state := n }) hk).1 (fun g hg hne => ?_)
  rcases gcase hg with rfl | rfl | rfl | rfl | rfl | rfl | rfl | rfl <;> simp [fldW, kindF, threadF, putF, ow, hk] at hne ⊢
theorem Wok.putWord (h : Wok L S) (ht : S.Thr t) (hn : b40 n) : Wok (putL L t 3 n) (wordS S t n) := by
  have hk := ht.2
  refine h.putT ht (f := 3) (by decide) (by decide) hn.1 (fun x hx => { hx with word := hn, pg := hx.pg, rt := hx.rt }) (fun _ => rfl) (fun _ => rfl) (fun _ => rfl) (fldW_thr (x := { S.ob t with word := n }) hk).2.1 (fun g hg hne => ?_)
  rcases gcase hg with rfl | rfl | rfl | rfl | rfl | rfl | rfl | rfl <;> simp [fldW, kindF, threadF, putF, ow, hk] at hne ⊢
theorem Wok.putBadge (h : Wok L S) (ht : S.Thr t) (hn : b40 n) : Wok (putL L t 4 n) (badgeS S t n) := by
  have hk := ht.2
  refine h.putT ht (f := 4) (by decide) (by decide) hn.1 (fun x hx => { hx with badge := hn, pg := hx.pg, rt := hx.rt }) (fun _ => rfl) (fun _ => rfl) (fun _ => rfl) (fldW_thr (x := { S.ob t with badge := n }) hk).2.2.1 (fun g hg hne => ?_)
  rcases gcase hg with rfl | rfl | rfl | rfl | rfl | rfl | rfl | rfl <;> simp [fldW, kindF, threadF, putF, ow, hk] at hne ⊢
theorem Wok.putOn (h : Wok L S) (ht : S.Thr t) (ho : m40' o) (hp : 0 ≤ (S.ob t).prio) : Wok (putL L t 5 ((S.ob t).prio + 256 * (o + 1))) (atS S t o) := by
  have hk := ht.2
  have ho' := ho.1
  refine h.putT ht (f := 5) (by decide) (by decide) (by omega) (fun x hx => { hx with on := ho, pg := hx.pg, rt := hx.rt }) (fun _ => rfl) (fun _ => rfl) (fun _ => rfl) (fldW_thr (x := { S.ob t with on := o }) hk).2.2.2.1 (fun g hg hne => ?_)
  rcases gcase hg with rfl | rfl | rfl | rfl | rfl | rfl | rfl | rfl <;> simp [fldW, kindF, threadF, putF, ow, hk] at hne ⊢
theorem Wok.putPrio (h : Wok L S) (ht : S.Thr t) (hn : b40 n) (ho : -1 ≤ (S.ob t).on) : Wok (putL L t 5 (n + 256 * ((S.ob t).on + 1))) (prioS S t n) := by
  have hk := ht.2
  have hn' := hn.1
  refine h.putT ht (f := 5) (by decide) (by decide) (by omega) (fun x hx => { hx with prio := hn, pg := hx.pg, rt := hx.rt }) (fun _ => rfl) (fun _ => rfl) (fun _ => rfl) (fldW_thr (x := { S.ob t with prio := n }) hk).2.2.2.1 (fun g hg hne => ?_)
  rcases gcase hg with rfl | rfl | rfl | rfl | rfl | rfl | rfl | rfl <;> simp [fldW, kindF, threadF, putF, ow, hk] at hne ⊢
theorem Wok.putOwes (h : Wok L S) (ht : S.Thr t) (hc : m40' c) : Wok (putL L t 6 (c + 1)) (owesS S t c) := by
  have hk := ht.2
  have hc' := hc.1
  refine h.putT ht (f := 6) (by decide) (by decide) (by omega) (fun x hx => { hx with owes := hc, pg := hx.pg, rt := hx.rt }) (fun _ => rfl) (fun _ => rfl) (fun _ => rfl) (fldW_thr (x := { S.ob t with owes := c }) hk).2.2.2.2.1 (fun g hg hne => ?_)
  rcases gcase hg with rfl | rfl | rfl | rfl | rfl | rfl | rfl | rfl <;> simp [fldW, kindF, threadF, putF, ow, hk] at hne ⊢
theorem Wok.putRoot (h : Wok L S) (ht : S.Thr t) {r : Cp} (hr : r.Small) (hw : 0 ≤ r.word) : Wok (putL L t 7 r.word) (rootS S t r) := by
  have hk := ht.2
  refine h.putT ht (f := 7) (by decide) (by decide) hw (fun x hx => { hx with root := hr, pg := hx.pg, rt := hx.rt }) (fun _ => rfl) (fun _ => rfl) (fun _ => rfl) (fldW_thr (x := { S.ob t with root := r }) hk).2.2.2.2.2 (fun g hg hne => ?_)
  rcases gcase hg with rfl | rfl | rfl | rfl | rfl | rfl | rfl | rfl <;> simp [fldW, kindF, threadF, putF, ow, hk] at hne ⊢
/-- who owes it a reply is put, of one that is in no queue -/
theorem Wok.putOwing (h : Wok L S) (ht : S.Thr t) (hn : ∀ o : Int, t ∉ (S.ob o).queue) (hc : m40' c) : Wok (putL L t 2 (c + 1)) (owingS S t c) := by
  obtain ⟨⟨h0, h1⟩, hk5⟩ := ht
  obtain ⟨a, rfl, ha⟩ := nat_of ⟨h0, h1⟩
  have hc' := hc.1
  have e : putL L (a : Int) 2 (c + 1) = setL L (ow a 2) (c + 1) := by
    unfold putL
    rw [if_pos ⟨objB_in ⟨by omega, by omega⟩ ⟨by omega, by omega⟩, by omega⟩, show (480 : Int) + 8 * (a : Int) + 2 = ow a 2 by unfold ow; omega]
  rw [e]
  exact h.owing ha hk5 hn hc
/-- who waits at an Endpoint is put -/
theorem Wok.putWait (h : Wok L S) (he : EpAt S o) (hn : b40 n) : Wok (putL L o 1 n) (waitS S o n) := by
  obtain ⟨h0, hk⟩ := he
  obtain ⟨a, rfl, ha⟩ := nat_of h0
  have e : putL L (a : Int) 1 n = setL L (ow a 1) n := by
    unfold putL
    rw [if_pos ⟨objB_in ⟨by omega, by omega⟩ ⟨by omega, by omega⟩, hn.1⟩, show (480 : Int) + 8 * (a : Int) + 1 = ow a 1 by unfold ow; omega]
  rw [e]
  have hx := h.sok.obs a ha
  refine h.put ha (f := 1) (by omega) (x := { S.ob (a : Int) with wait := n }) { hx with wait := hn, pg := hx.pg, rt := hx.rt } rfl rfl rfl (fun _ => by omega) (fun _ => by omega) (fldW_ep (x := { S.ob (a : Int) with wait := n }) hk) (fun g hg hne => ?_)
  rcases gcase hg with rfl | rfl | rfl | rfl | rfl | rfl | rfl | rfl <;> simp [fldW, kindF, putF, ow, hk] at hne ⊢
/-- a notification's word is put -/
theorem Wok.putNt (h : Wok L S) (ho : 0 ≤ o ∧ o < 32) (hk : (S.ob o).kind = 4) (hn : b40 n) : Wok (putL L o 1 n) (wordS S o n) := by
  obtain ⟨a, rfl, ha⟩ := nat_of ho
  have e : putL L (a : Int) 1 n = setL L (ow a 1) n := by
    unfold putL
    rw [if_pos ⟨objB_in ⟨by omega, by omega⟩ ⟨by omega, by omega⟩, hn.1⟩, show (480 : Int) + 8 * (a : Int) + 1 = ow a 1 by unfold ow; omega]
  rw [e]
  have hx := h.sok.obs a ha
  refine h.put ha (f := 1) (by omega) (x := { S.ob (a : Int) with word := n }) { hx with word := hn, pg := hx.pg, rt := hx.rt } rfl rfl rfl (fun _ => by omega) (fun _ => by omega) (fldW_nt (x := { S.ob (a : Int) with word := n }) hk) (fun g hg hne => ?_)
  rcases gcase hg with rfl | rfl | rfl | rfl | rfl | rfl | rfl | rfl <;> simp [fldW, kindF, putF, ow, hk] at hne ⊢
/-- the first one is popped -/
theorem Wok.popQ (h : Wok L S) (ho : S.zs o) (hq : (S.ob o).queue = t :: l) : ∃ L', (qpopP o).run machP L = ((t, true), L') ∧ Wok L' (popS S o) := by
  have hc : Ch (nxL L) o (S.ob o).queue := h.q.ch o ho
  rw [hq] at hc
  have e : (refP o 2).run machP L = ((t, true), L) := by rw [refP_plain, refL_some ho.1 ⟨by omega, by omega⟩ (h.qf.mem o t (by rw [hq]; simp)).1 hc.1]
  obtain ⟨L', h1, h2, h3⟩ := h.q.leaves (o := o) (p := []) ho hq
  have hw := h.drop (o := o) (p := []) ho hq h2 h3
  refine ⟨L', ?_, ?_⟩
  · have h1 : (qleaveP o o t).run machP L = ((), L') := h1
    unfold qpopP
    rw [Vp.run_bind_is e, if_pos rfl, Vp.run_bind_is h1]
    rfl
  · have e2 : popS S o = S.putO o { S.ob o with queue := [] ++ l } := by
      have e3 : [] ++ l = (S.ob o).queue.tail := by rw [hq]; rfl
      rw [e3]
      rfl
    rw [e2]
    exact hw
/-- one is pushed -/
theorem Wok.pushQ (h : Wok L S) (ho : S.zs o) (ht : S.ys t) (hf : ∀ p : Int, t ∉ (S.ob p).queue) : ∃ L', (qpushP o t).run machP L = (0, L') ∧ Wok L' (pushS S o t) := by
  obtain ⟨L', h1, h2, h3⟩ := h.q.pushed ho ht.1 (fun e => isQ_no5 e.2 ht.2.1) hf
  exact ⟨L', h1, h.push ho ht hf h2 h3⟩
/-- one is removed -/
theorem Wok.remQ (h : Wok L S) (ho : S.zs o) (hm : t ∈ (S.ob o).queue) : ∃ L', (qremP o t).run machP L = (true, L') ∧ Wok L' (queueS S o ((S.ob o).queue.erase t)) := by
  obtain ⟨p, hs⟩ : ∃ p, splQ t (S.ob o).queue = some p := by
    cases e : splQ t (S.ob o).queue with
    | none => exact absurd hm (splQ_none.1 e)
    | some p => exact ⟨p, rfl⟩
  obtain ⟨b, hq, hp⟩ := splQ_some hs
  obtain ⟨L', h1, h2, h3⟩ := h.q.leaves (o := o) ho hq
  have hw := h.drop (o := o) ho hq h2 h3
  refine ⟨L', ?_, ?_⟩
  · unfold qremP
    rw [Vp.run_bind_is (h.q.way ho)]
    show (match splQ t (S.ob o).queue with | none => Vp.ret false | some a => (qleaveP o (lst o a) t).bind fun _ => Vp.ret true).run machP L = _
    rw [hs]
    show ((qleaveP o (lst o p) t).bind fun _ => .ret true).run machP L = _
    rw [Vp.run_bind_is h1]
    rfl
  · have e : (S.ob o).queue.erase t = p ++ b := by
      rw [hq, List.erase_append_right _ hp, List.erase_cons_head]
    rw [e]
    exact hw
end
end Go.Proofs.Ytdkjfalhalepgaa
