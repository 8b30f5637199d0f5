/- A sound state of the document (layers 12 to 22), and its words: what calls on slots, capabilities come to, word for word; as mathematics. -/
import Derived.Test.YtihipcbhfjpgbaaGur
namespace Go.Proofs.Ytihipcbhfjpgbaa
open Go.RowKit
/-- a state is sound: its slots are a tree, its capabilities may be, its objects' numbers are not great -/
structure Sok (S : RSt) : Prop where
  tree : Tree S.par S.kids
  out : ∀ i, ¬ InS i → S.par i = -1 ∧ S.kids i = []
  may : ∀ i, (S.cap i).may
  obs : ∀ i : Nat, i < 32 → (S.ob i).FitO
  ns : U64 S.ns
  no : U64 S.no
theorem zero_may : Cp.zero.may := by decide
section
variable {S : RSt} {i k p a b x : Int} {c : Cp}
theorem Sok.queued (h : Sok S) : S.Queued := fun i hi t ht => ((h.obs i hi).qin t ht).1
theorem Sok.gur (h : Sok S) : Gur (wordsG S) S := Gur.of h.tree h.queued h.out
theorem Sok.short (h : Sok S) : S.Short := h.gur.short
theorem Sok.hne (h : Sok S) : ∀ i : Int, InS i → S.par i ≠ i := h.gur.hne
theorem Sok.fitG (h : Sok S) : S.FitG where
  fit := ⟨fun i _ => (h.may i).small, fun i hi => by have := h.tree.par_rng hi; omega, fun i hi => h.tree.kids hi, h.ns, h.no⟩
  short := h.short
  ob := h.obs
/-- linked -/
theorem Sok.link (h : Sok S) (k p : Int) : Sok (linkS S k p) ∧ linkA (wordsG S) k p = linkN S k p ∧ linkL (wordsG S) k p = wordsG (linkS S k p) := by
  obtain ⟨e, g⟩ := h.gur.link k p
  have ho : ∀ i, (linkS S k p).ob i = S.ob i := fun i => by unfold linkS; split <;> rfl
  have hc : ∀ i, (linkS S k p).cap i = S.cap i := fun i => by unfold linkS; split <;> rfl
  have s : Sok (linkS S k p) := ⟨g.tree, g.out, fun i => by rw [hc]; exact h.may i, fun i hi => by rw [ho]; exact h.obs i hi, by unfold linkS; split <;> exact h.ns, by unfold linkS; split <;> exact h.no⟩
  exact ⟨s, e, g.words s.queued⟩
theorem Sok.unlink (h : Sok S) (k : Int) : Sok (unlinkS S k) ∧ unlinkA k = unlinkN k ∧ unlinkL (wordsG S) k = wordsG (unlinkS S k) := by
  obtain ⟨e, g⟩ := h.gur.unlink k
  have ho : ∀ i, (unlinkS S k).ob i = S.ob i := fun i => by unfold unlinkS; split <;> rfl
  have hc : ∀ i, (unlinkS S k).cap i = S.cap i := fun i => by unfold unlinkS; split <;> rfl
  have s : Sok (unlinkS S k) := ⟨g.tree, g.out, fun i => by rw [hc]; exact h.may i, fun i hi => by rw [ho]; exact h.obs i hi, by unfold unlinkS; split <;> exact h.ns, by unfold unlinkS; split <;> exact h.no⟩
  exact ⟨s, e, g.words s.queued⟩
theorem Sok.replace (h : Sok S) (a b : Int) : Sok (replaceS S a b) ∧ replaceA (wordsG S) a b = replaceN S a b ∧ replaceL (wordsG S) a b = wordsG (replaceS S a b) := by
  obtain ⟨e, g⟩ := h.gur.replace a b
  have ho : ∀ i, (replaceS S a b).ob i = S.ob i := fun i => by unfold replaceS; split <;> rfl
  have hc : ∀ i, (replaceS S a b).cap i = S.cap i := fun i => by unfold replaceS; split <;> rfl
  have s : Sok (replaceS S a b) := ⟨g.tree, g.out, fun i => by rw [hc]; exact h.may i, fun i hi => by rw [ho]; exact h.obs i hi, by unfold replaceS; split <;> exact h.ns, by unfold replaceS; split <;> exact h.no⟩
  exact ⟨s, e, g.words s.queued⟩
/-- a capability is put -/
theorem Sok.putC (h : Sok S) (hi : InS i) (hc : c.may) : Sok (S.putC i c) ∧ setL (wordsG S) (5 * i) c.word = wordsG (S.putC i c) := by
  have g := h.gur.setCap hi c
  have s : Sok (S.putC i c) := ⟨h.tree, h.out, fun k => by
    by_cases e : k = i
    · simpa [RSt.putC, setF, e] using hc
    · simpa [RSt.putC, setF, e] using h.may k, h.obs, h.ns, h.no⟩
  exact ⟨s, g.words s.queued⟩
/-- below another one -/
theorem Sok.below (h : Sok S) (f t : Int) (hc : c.may) : Sok (belowS S f t c) := by
  unfold belowS
  split
  · next h0 =>
    have hi : InS t := by
      by_cases e : slotOk t = true
      · exact slotOk_in.1 e
      · rw [linkN, if_pos (.inl (by simpa using e))] at h0; omega
    exact ((h.link t f).1.putC hi hc).1
  · exact h
theorem Sok.del (h : Sok S) (i : Int) : Sok (delS S i) := by
  unfold delS
  split
  · next h0 =>
    have hi : InS i := by
      by_cases e : slotOk i = true
      · exact slotOk_in.1 e
      · rw [delN, if_pos (.inl (by simpa using e))] at h0; omega
    exact ((h.unlink i).1.putC hi zero_may).1
  · exact h
theorem Sok.one (h : Sok S) (i : Int) : Sok (oneS S i) := by
  unfold oneS
  split
  · exact h
  · split
    · exact h
    · exact h.del _
end
end Go.Proofs.Ytihipcbhfjpgbaa
/- The document's words of objects without queues, field by field; words that are put into objects (layers 13, 18), as mathematics. -/
namespace Go.Proofs.Ytihipcbhfjpgbaa
open Go.RowKit
/-- what field f of an object without a queue has -/
def fldW (x : RObj) (f : Nat) : Int := if f = 0 then x.kind else kindF 0 x (ow 0 f) 0
theorem ow_eq {i f k : Nat} : ow i f = ow i k ↔ f = k := by unfold ow; omega
theorem ow_ne {i j f k : Nat} (hf : f < 8) (hk : k < 8) (h : i ≠ j) : ow i f ≠ ow j k := by unfold ow; omega
theorem putF_ow {i f k : Nat} {v c : Int} : putF (ow i k) v (ow i f) c = if f = k then v else c := by
  unfold putF
  by_cases h : f = k
  · rw [if_pos (ow_eq.2 h), if_pos h]
  · rw [if_neg (fun e => h (ow_eq.1 e)), if_neg h]
theorem spaceF_fld {x : RObj} {i f : Nat} {c : Int} : ∀ n, spaceF i x (ow i f) c n = spaceF 0 x (ow 0 f) c n := by
  intro n
  induction n with
  | zero => rfl
  | succ n ih =>
    rw [show spaceF i x (ow i f) c (n + 1) = pageF i x n (ow i f) (spaceF i x (ow i f) c n) from rfl, show spaceF 0 x (ow 0 f) c (n + 1) = pageF 0 x n (ow 0 f) (spaceF 0 x (ow 0 f) c n) from rfl, ih]
    unfold pageF
    rw [putF_ow, putF_ow]
theorem kindF_fld {x : RObj} {i f : Nat} {c : Int} : kindF i x (ow i f) c = kindF 0 x (ow 0 f) c := by
  unfold kindF threadF
  simp only [putF_ow, ow_eq, spaceF_fld (i := i)]
section
variable {S S' : RSt} {L L' : List Int} {i f : Nat} {j : Int} {x : RObj}
theorem effF_bare (hq : x.queue = []) (hf : f < 8) : effF i x (ow i f) 0 = fldW x f := by
  unfold effF fldW
  rw [hq]
  show kindF i x (ow i f) (putF (ow i 0) x.kind (ow i f) 0) = _
  by_cases h : f = 0
  · subst h
    rw [if_pos rfl, putF_at, kindF_far (fun k h1 h7 => fun e => by have := (ow_eq (i := i)).1 e; omega)]
  · rw [if_neg h, putF_ne (fun e => h (ow_eq.1 e)), kindF_fld]
/-- no object has a queue -/
def RSt.NoQ (S : RSt) : Prop := ∀ i : Nat, i < 32 → (S.ob i).queue = []
theorem effs_bare (hb : S.NoQ) (hi : i < 32) (hf : f < 8) : effs S (ow i f) 0 32 = fldW (S.ob i) f := by
  have far : ∀ k : Nat, k < 32 → k ≠ i → ∀ d, effF k (S.ob k) (ow i f) d = d := fun k hk hne d =>
    effF_far (fun f' h' => ow_ne hf (by omega) (fun e => hne e.symm)) (fun t ht => by rw [hb k hk] at ht; simp at ht)
  rw [effs_far (n := i + 1) (by omega) (fun k h1 h2 d => far k h2 (by omega) d)]
  rw [show effs S (ow i f) 0 (i + 1) = effF i (S.ob i) (ow i f) (effs S (ow i f) 0 i) from rfl]
  rw [effs_far (n := 0) (by omega) (fun k h1 h2 d => far k (by omega) (by omega) d)]
  exact effF_bare (hb i hi) hf
theorem restW_fld (hb : S.NoQ) (hi : i < 32) (hf : f < 8) : restW S (ow i f) = fldW (S.ob i) f := by
  unfold restW
  rw [if_pos (by unfold ow; omega), putF_ne (by unfold ow; omega), putF_ne (by unfold ow; omega), effs_bare hb hi hf]
theorem restW_ns : restW S 736 = S.ns := by unfold restW; rw [if_pos (by decide), putF_ne (by decide), putF_at]
theorem restW_no : restW S 737 = S.no := by unfold restW; rw [if_pos (by decide), putF_at]
theorem restW_out (h : 738 ≤ j) : restW S j = 0 := if_neg (by omega)
/-- words of an object, of a state -/
theorem Sok.fld (h : Sok S) (hb : S.NoQ) (hi : i < 32) (hf : f < 8) : atL (wordsG S) (ow i f) = fldW (S.ob i) f := by
  rw [h.gur.rest _ (by unfold ow; omega), restW_fld hb hi hf]
theorem Sok.nsW (h : Sok S) : atL (wordsG S) 736 = S.ns := by rw [h.gur.rest _ (by decide), restW_ns]
theorem Sok.noW (h : Sok S) : atL (wordsG S) 737 = S.no := by rw [h.gur.rest _ (by decide), restW_no]
/-- words that differ from a state's in objects alone are those of a state that differs there alone -/
theorem Gur.objs (g : Gur L S) (hl : L'.length = 738) (low : ∀ j, j < 480 → atL L' j = atL L j) (hp : S'.par = S.par) (hk : S'.kids = S.kids) (hc : S'.cap = S.cap) (hb : S'.NoQ)
    (ho : ∀ i f : Nat, i < 32 → f < 8 → atL L' (ow i f) = fldW (S'.ob i) f) (hs : atL L' 736 = S'.ns) (hn : atL L' 737 = S'.no) : Gur L' S' where
  tree := by rw [hp, hk]; exact g.tree
  rep := by
    rw [hp, hk]
    obtain ⟨-, h1, h2, h3, h4⟩ := g.rep
    exact ⟨hl, fun i hi => by rw [low _ (by have := hi.2; omega), h1 i hi], fun i hi => by rw [low _ (by have := hi.2; omega), h2 i hi], fun i hi => by rw [low _ (by have := hi.2; omega), h3 i hi], fun i hi => by rw [low _ (by have := hi.2; omega), h4 i hi]⟩
  cap := fun i hi => by rw [low _ (by have := hi.2; omega), hc]; exact g.cap i hi
  rest := fun j hj => by
    by_cases h1 : j < 736
    · obtain ⟨k, hk'⟩ : ∃ k : Nat, j = k := ⟨j.toNat, by omega⟩
      have e : j = ow ((k - 480) / 8) ((k - 480) % 8) := by unfold ow; omega
      rw [e, ho _ _ (by omega) (by omega), restW_fld hb (by omega) (by omega)]
    · by_cases h2 : j = 736
      · rw [h2, hs, restW_ns]
      · by_cases h3 : j = 737
        · rw [h3, hn, restW_no]
        · rw [restW_out (by omega), atL_out (by rw [hl]; omega)]
  out := by rw [hp, hk]; exact g.out
end
end Go.Proofs.Ytihipcbhfjpgbaa
