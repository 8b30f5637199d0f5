/- What lies in EndpOnce's walk: the words, what is blocked, what was got and sent (layer 15). -/
import Derived.Test.YtgbcgcmcfklnjaaEndOnceM
import Derived.Test.YtgbcgcmcfklnjaaWokF
import Derived.Test.YtgbcgcmcfklnjaaJ10
import Derived.Test.YtgbcgcmcfklnjaaJ3
namespace Go.Proofs.Ytgbcgcmcfklnjaa
open Go.RowKit
abbrev BlT : TypeId := 4
def brow (b : Bool) : List Value := [.bool b]
theorem infoBl : (Try.prog.info? BlT).map (fun i => (i.zero, i.size, i.bytes)) = some (some (.bool false), 1, 1) := by kernel_rfl
/-- a list of bools, known by number -/
def Bools (w : World) (g n : Nat) (bl : Int → Bool) : Prop := ∃ cur, Blk w g BlT cur ∧ ∀ k : Nat, k < n → cur[k]? = some (.bool (bl k))
section
variable {w w' : World} {g n k : Nat} {bl : Int → Bool}
theorem Bools.only {F : List Nat} (h : Bools w g n bl) (ho : Only F w w') (hg : g ∉ F) : Bools w' g n bl := by
  obtain ⟨cur, hb, hc⟩ := h
  exact ⟨cur, ho.blk hb hg, hc⟩
theorem Bools.cell (h : Bools w g n bl) (hk : k < n) : w.cell? ⟨g, k, none⟩ = some (.bool (bl k)) := by
  obtain ⟨cur, hb, hc⟩ := h
  rw [hb.cell]
  exact hc k hk
theorem Bools.frozen (h : Bools w g n bl) (k : Nat) : w.frozen? ⟨g, k, none⟩ = false := by
  obtain ⟨cur, hb, hc⟩ := h
  exact hb.frozen k
theorem Bools.lt (h : Bools w g n bl) : g < w.heap.size := by
  obtain ⟨cur, hb, hc⟩ := h
  exact hb.lt
theorem Bools.set_ (h : Bools w g n bl) (hk : k < n) (b : Bool) : Bools (w.setCell ⟨g, k, none⟩ (.bool b)) g n (setF bl k b) := by
  obtain ⟨cur, hb, hc⟩ := h
  refine ⟨_, hb.set_ k _, fun i hi => ?_⟩
  by_cases e : i = k
  · subst e
    rw [setF_self, Array.getElem?_setIfInBounds_self_of_lt ((Array.getElem?_eq_some_iff.1 (hc i hi)).1)]
  · rw [Array.getElem?_setIfInBounds_ne (fun e2 => e e2.symm), setF_ne (by omega)]
    exact hc i hi
theorem bools_made (w : World) (n : Nat) : Bools (w.alloc (.cells (flat brow (List.replicate n false)) BlT)) w.heap.size n (fun _ => false) := by
  refine ⟨_, Blk.new w BlT _, fun k hk => ?_⟩
  have e := flat_at (f := brow) (n := 1) (fun _ => rfl) (L := List.replicate n false) (i := k) (j := 0) (a := false) (v := .bool false) (by rw [List.getElem?_replicate, if_pos hk]) rfl
  simpa using e
end
/-- words of state S, what is blocked, what was got, what was sent -/
structure EAt (w0 w : World) (g gb : Nat) (vg vs : Value) (n : Nat) (S : RSt) (bl : Int → Bool) (got sent : List Int) : Prop where
  mem : MemP g 738 UT w (wordsG S)
  only : Only [] w0 w
  ng : w0.heap.size ≤ g
  bb : Bools w gb n bl
  nb : w0.heap.size ≤ gb
  og : w.ownsRow w0.heap.size ItT 1 vg got.length (got.flatMap irow')
  os : w.ownsRow w0.heap.size ItT 1 vs sent.length (sent.flatMap irow')
  ap : ∀ j, vg.ownBlock = some j → vs.ownBlock ≠ some j
section
variable {w0 w w' : World} {g gb n g5 cap5 : Nat} {vg vs : Value} {S S' : RSt} {bl : Int → Bool} {got sent : List Int} {x : Int}
theorem own_blk {v : Value} {m : Nat} {xs : List Value} {base : Nat} (h : w.ownsRow base ItT 1 v m xs) {j : Nat} (hj : v.ownBlock = some j) : j < w.heap.size ∧ ∀ t cs, Blk w j t cs → t = ItT := by
  rcases h.2 with ⟨rfl, -⟩ | ⟨g', cap, cur, rfl, -, hg, -⟩
  · cases hj
  · simp [Value.ownBlock] at hj
    subst hj
    have hb : Blk w g' ItT cur := hg
    exact ⟨hb.lt, fun t cs h' => (h'.uniq hb).1⟩
theorem EAt.memNe (s : EAt w0 w g gb vg vs n S bl got sent) {v : Value} {m : Nat} {xs : List Value} (h : w.ownsRow w0.heap.size ItT 1 v m xs) : v.ownBlock ≠ some g := fun e => by
  obtain ⟨cur, hb⟩ := s.mem.blkG
  exact absurd ((own_blk h e).2 _ _ hb) (by decide)
theorem EAt.gbNe (s : EAt w0 w g gb vg vs n S bl got sent) : gb ≠ g := by
  obtain ⟨cur, hb⟩ := s.mem.blkG
  obtain ⟨c2, h2, -⟩ := s.bb
  exact h2.ne_ hb (by decide)
theorem EAt.bbNe (s : EAt w0 w g gb vg vs n S bl got sent) {v : Value} {m : Nat} {xs : List Value} (h : w.ownsRow w0.heap.size ItT 1 v m xs) : v.ownBlock ≠ some gb := fun e => by
  obtain ⟨cur, hb, -⟩ := s.bb
  exact absurd ((own_blk h e).2 _ _ hb) (by decide)
theorem EAt.only0 (s : EAt w0 w g gb vg vs n S bl got sent) (ho : Only [] w w') : EAt w0 w' g gb vg vs n S bl got sent :=
  ⟨s.mem.only ho (by simp), s.only.trans ho, s.ng, s.bb.only ho (by simp), s.nb, owns_far s.og ho (by simp), owns_far s.os ho (by simp), s.ap⟩
theorem EAt.words (s : EAt w0 w g gb vg vs n S bl got sent) (hm : MemP g 738 UT w' (wordsG S')) (ho : Only [g] w w') : EAt w0 w' g gb vg vs n S' bl got sent :=
  ⟨hm, s.only.then ho (fun y hy => .inr (by simp at hy; rw [hy]; exact s.ng)), s.ng, s.bb.only ho (by simp; exact s.gbNe), s.nb, owns_far s.og ho (fun j hj e => by simp at e; exact s.memNe s.og (e ▸ hj)),
    owns_far s.os ho (fun j hj e => by simp at e; exact s.memNe s.os (e ▸ hj)), s.ap⟩
theorem EAt.setBl (s : EAt w0 w g gb vg vs n S bl got sent) {k : Nat} (hk : k < n) (b : Bool) : EAt w0 (w.setCell ⟨gb, k, none⟩ (.bool b)) g gb vg vs n S (setF bl k b) got sent := by
  have ho : Only [gb] w (w.setCell ⟨gb, k, none⟩ (.bool b)) := (Only.refl _ _).setCell (.inl (by simp)) _
  exact ⟨s.mem.only ho (by simp; exact fun e => s.gbNe e.symm), s.only.then ho (fun y hy => .inr (by simp at hy; rw [hy]; exact s.nb)), s.ng, s.bb.set_ hk b, s.nb, owns_far s.og ho (fun j hj e => by simp at e; exact s.bbNe s.og (e ▸ hj)),
    owns_far s.os ho (fun j hj e => by simp at e; exact s.bbNe s.os (e ▸ hj)), s.ap⟩
/-- what is none of these is changed -/
theorem EAt.other (s : EAt w0 w g gb vg vs n S bl got sent) {F : List Nat} (ho : Only F w w') (hF : ∀ k, k ∈ F → w0.heap.size ≤ k ∧ k ≠ g ∧ k ≠ gb ∧ vg.ownBlock ≠ some k ∧ vs.ownBlock ≠ some k) : EAt w0 w' g gb vg vs n S bl got sent :=
  ⟨s.mem.only ho (fun e => (hF _ e).2.1 rfl), s.only.then ho (fun y hy => .inr (hF y hy).1), s.ng, s.bb.only ho (fun e => (hF _ e).2.2.1 rfl), s.nb, owns_far s.og ho (fun j hj e => (hF j e).2.2.2.1 hj), owns_far s.os ho (fun j hj e => (hF j e).2.2.2.2 hj), s.ap⟩
/-- a block that is none of these -/
theorem EAt.keep (s : EAt w0 w g gb vg vs n S bl got sent) {t : TypeId} {m : Nat} {cs : Array Value} (ht : t ≠ UT) (hb : Blk w m t cs) (ho : Only [g] w w') : Blk w' m t cs := by
  obtain ⟨cur, hg⟩ := s.mem.blkG
  exact ho.blk hb (fun e => by simp at e; exact hb.ne_ hg ht e)
theorem EAt.keepB (s : EAt w0 w g gb vg vs n S bl got sent) {t : TypeId} {m : Nat} {cs : Array Value} (ht : t ≠ BlT) (hb : Blk w m t cs) (k : Nat) (v : Value) : Blk (w.setCell ⟨gb, k, none⟩ v) m t cs := by
  obtain ⟨cur, hg, -⟩ := s.bb
  exact hb.far (hb.ne_ hg ht) v
theorem own_keep {v : Value} {j : Nat} {xs : List Value} {base : Nat} (h : w.ownsRow base ItT 1 v j xs) {t : TypeId} {m : Nat} {cs : Array Value} (ht : t ≠ ItT) (hb : Blk w m t cs) {x : Value} (hg : (w.alloc (.cells #[x] ItT)).grownBy w' v.ownBlock) : Blk w' m t cs :=
  blk_grown (hb.alloc _) hg (fun e => ht ((own_blk h e).2 _ _ hb))
/-- a thread's word, as it lies -/
theorem EAt.wordC (s : EAt w0 w g gb vg vs n S bl got sent) (ok : Eok S) {a : Nat} (ht : S.Thr (a : Int)) : w.cell? ⟨g, 483 + 8 * a, none⟩ = some (.int .u64 (S.ob (a : Int)).word) ∧ b40 (S.ob (a : Int)).word := by
  have ha : a < 32 := by have := ht.1; omega
  have hc := s.mem.cell (m := 483 + 8 * a) (by omega)
  have hQ : ¬ (S.ob (a : Int)).isQ := fun e => isQ_no5 e ht.2
  have e := (Wok.of ok.sok ok.ei.qf).fld a 3 ha (by omega) (fun _ => by omega) (fun e => absurd e hQ)
  rw [(fldW_thr ht.2).2.1] at e
  rw [show ((483 + 8 * a : Nat) : Int) = ow a 3 by unfold ow; omega, e] at hc
  exact ⟨hc, (ok.sok.obs a ha).word⟩
/-- a number that was got, as it lies -/
theorem own_num {base : Nat} {A : Option Addr} {cp len : Nat} {L : List Int} {j : Nat} (h : w.ownsRow base ItT 1 (.slice A len cp) L.length (L.flatMap irow')) (hx : L[j]? = some x) : ∃ b, A = some ⟨b, 0, none⟩ ∧ b < w.heap.size ∧ w.cell? ⟨b, j, none⟩ = some (.int .i64 x) := by
  obtain ⟨A', cp', e, hR⟩ := RowN.of_owns irow'_len h
  injection e with e1 e2 e3
  subst e1
  exact rowN_cell hR hx
theorem EAt.gotC {A : Option Addr} {cp len j : Nat} (s : EAt w0 w g gb (.slice A len cp) vs n S bl got sent) (hx : got[j]? = some x) : ∃ b, A = some ⟨b, 0, none⟩ ∧ b < w.heap.size ∧ w.cell? ⟨b, j, none⟩ = some (.int .i64 x) := own_num s.og hx
theorem EAt.sentC {A : Option Addr} {cp len j : Nat} (s : EAt w0 w g gb vg (.slice A len cp) n S bl got sent) (hx : sent[j]? = some x) : ∃ b, A = some ⟨b, 0, none⟩ ∧ b < w.heap.size ∧ w.cell? ⟨b, j, none⟩ = some (.int .i64 x) := own_num s.os hx
theorem own_slice {base : Nat} {v : Value} {L : List Int} (h : w.ownsRow base ItT 1 v L.length (L.flatMap irow')) : ∃ A cp, v = .slice A L.length cp := by
  obtain ⟨A, cp, e, -⟩ := RowN.of_owns irow'_len h
  exact ⟨A, cp, e⟩
theorem snoc_row (l : List Int) (x : Int) : l.flatMap irow' ++ [.int .i64 x] = (l ++ [x]).flatMap irow' := by simp [irow']
/-- one more was got -/
theorem EAt.gotGrow (s : EAt w0 w g gb vg vs n S bl got sent) (hrow : w'.ownsRow w0.heap.size ItT 1 (.slice (some ⟨g5, 0, none⟩) (got.length + 1) cap5) (got.length + 1) (got.flatMap irow' ++ [.int .i64 x]))
    (hgrow : (w.alloc (.cells #[.int .i64 x] ItT)).grownBy w' vg.ownBlock) (hat : vg.ownBlock = some g5 ∨ g5 = w.heap.size + 1) : EAt w0 w' g gb (.slice (some ⟨g5, 0, none⟩) (got.length + 1) cap5) vs n S bl (got ++ [x]) sent := by
  have ho1 : Only [] w (w.alloc (.cells #[.int .i64 x] ItT)) := (Only.refl [] w).alloc _
  have ho : Only vg.ownBlock.toList w w' := ((Only.refl _ w).alloc _).trans (grows_S hgrow)
  refine ⟨s.mem.only ho (fun e => s.memNe s.og (by simpa using e)), s.only.then ho (fun y hy => .inr (own_base s.og (by simpa using hy))), s.ng, s.bb.only ho (fun e => s.bbNe s.og (by simpa using e)), s.nb, ?_, owns_far s.os ho (fun j hj e => s.ap j (by simpa using e) hj), ?_⟩
  · rw [← snoc_row, List.length_append]
    exact hrow
  · intro j hj
    have hj : g5 = j := by simpa [Value.ownBlock] using hj
    subst hj
    rcases hat with e | e
    · exact s.ap g5 e
    · intro e2
      have := (own_blk s.os e2).1
      omega
/-- one more was sent -/
theorem EAt.sentGrow (s : EAt w0 w g gb vg vs n S bl got sent) (hrow : w'.ownsRow w0.heap.size ItT 1 (.slice (some ⟨g5, 0, none⟩) (sent.length + 1) cap5) (sent.length + 1) (sent.flatMap irow' ++ [.int .i64 x]))
    (hgrow : (w.alloc (.cells #[.int .i64 x] ItT)).grownBy w' vs.ownBlock) (hat : vs.ownBlock = some g5 ∨ g5 = w.heap.size + 1) : EAt w0 w' g gb vg (.slice (some ⟨g5, 0, none⟩) (sent.length + 1) cap5) n S bl got (sent ++ [x]) := by
  have ho : Only vs.ownBlock.toList w w' := ((Only.refl _ w).alloc _).trans (grows_S hgrow)
  refine ⟨s.mem.only ho (fun e => s.memNe s.os (by simpa using e)), s.only.then ho (fun y hy => .inr (own_base s.os (by simpa using hy))), s.ng, s.bb.only ho (fun e => s.bbNe s.os (by simpa using e)), s.nb, owns_far s.og ho (fun j hj e => s.ap j hj (by simpa using e)), ?_, ?_⟩
  · rw [← snoc_row, List.length_append]
    exact hrow
  · intro j hj hj2
    have hj2 : g5 = j := by simpa [Value.ownBlock] using hj2
    subst hj2
    rcases hat with e | e
    · exact s.ap g5 hj e
    · have := (own_blk s.og hj).1
      omega
end
end Go.Proofs.Ytgbcgcmcfklnjaa
