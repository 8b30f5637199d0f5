/- What lies in QueuePlays' walk: the words, the lists beside them (layer 14). -/
import Derived.Test.YtlcefgfcihgocaaQueIn
import Derived.Test.YtlcefgfcihgocaaQueDeeds
import Derived.Test.YtlcefgfcihgocaaPickN
namespace Go.Proofs.Ytlcefgfcihgocaa
open Go.RowKit
abbrev Z4 (o : Int) : Prop := 0 ≤ o ∧ o < 4
abbrev Y4 (t : Int) : Prop := 4 ≤ t ∧ t < 32
/-- words that tell queues q, lists r beside them -/
structure Qst (w0 w : World) (g h : Nat) (q r : Int → List Int) : Prop where
  words : ∃ L, MemP g 738 UT w L ∧ QW L q Z4 Y4
  rows : QRows w h r
  only : Only [] w0 w
  gw : w0.heap.size ≤ g
  hw : w0.heap.size ≤ h
section
variable {w0 w w' : World} {g h : Nat} {q q' r : Int → List Int} {L' : List Int}
theorem Qst.only0 (s : Qst w0 w g h q r) (ho : Only [] w w') : Qst w0 w' g h q r := by
  obtain ⟨⟨L, hm, hq⟩, hr, h1, h2, h3⟩ := s
  exact ⟨⟨L, hm.only ho (by simp), hq⟩, hr.only0 ho, h1.trans ho, h2, h3⟩
theorem Qst.turn (s : Qst w0 w g h q r) (hm : MemP g 738 UT w' L') (hq : QW L' q' Z4 Y4) (ho : Only [g] w w') : Qst w0 w' g h q' r := by
  obtain ⟨⟨L, hm0, -⟩, hr, h1, h2, h3⟩ := s
  exact ⟨⟨L', hm, hq⟩, hr.read hm0 ho, h1.then ho (fun y hy => .inr (by simp at hy; rw [hy]; exact h2)), h2, h3⟩
theorem Qst.read (s : Qst w0 w g h q r) {L : List Int} (hm0 : MemP g 738 UT w L) (hm : MemP g 738 UT w' L) (ho : Only [g] w w') : Qst w0 w' g h q r := by
  obtain ⟨⟨L1, hm1, hq⟩, hr, h1, h2, h3⟩ := s
  have e : L1 = L := by
    obtain ⟨c1, b1, x1⟩ := hm1.row
    obtain ⟨c2, b2, x2⟩ := hm0.row
    refine List.ext_getElem? fun k => ?_
    by_cases hk : k < 738
    · have l1 : k < L1.length := by rw [hm1.len]; exact hk
      have l2 : k < L.length := by rw [hm0.len]; exact hk
      have y1 := hm1.cell hk
      have y2 := hm0.cell hk
      rw [y1] at y2
      have e3 : atL L1 k = atL L k := by simpa using y2
      rw [List.getElem?_eq_getElem l1, List.getElem?_eq_getElem l2]
      rw [atL_in (List.getElem?_eq_getElem l1), atL_in (List.getElem?_eq_getElem l2)] at e3
      rw [e3]
    · rw [List.getElem?_eq_none (by rw [hm1.len]; omega), List.getElem?_eq_none (by rw [hm0.len]; omega)]
  subst e
  exact ⟨⟨L1, hm, hq⟩, hr.read hm0 ho, h1.then ho (fun y hy => .inr (by simp at hy; rw [hy]; exact h2)), h2, h3⟩
theorem Qst.row (s : Qst w0 w g h q r) {o : Nat} (ho : o < 4) {l : List Int} {A : Option Addr} {cp : Nat} (hA : RowN w A ItT irow' 1 l) (hcp : l.length ≤ cp ∧ cp ≤ maxLen) : Qst w0 (w.setCell ⟨h, o, none⟩ (.slice A l.length cp)) g h q (putQ r o l) := by
  obtain ⟨⟨L, hm, hq⟩, hr, h1, h2, h3⟩ := s
  have hO : Only [h] w (w.setCell ⟨h, o, none⟩ (.slice A l.length cp)) := (Only.refl _ _).setCell (.inl (by simp)) _
  refine ⟨⟨L, hm.only hO (fun e => ?_), hq⟩, hr.put ho hA hcp, h1.then hO (fun y hy => .inr (by simp at hy; rw [hy]; exact h3)), h2, h3⟩
  simp at e
  subst e
  obtain ⟨c0, hg⟩ := hm.blkG
  obtain ⟨cur, hb, -⟩ := hr
  exact absurd (hb.uniq hg).1 (by decide)
/-- a block that is neither -/
theorem Qst.keep (s : Qst w0 w g h q r) {n0 : Nat} {d : Q3} (hn : Blk w n0 Q3T d.arr) (ho : Only [g] w w') : Blk w' n0 Q3T d.arr := by
  obtain ⟨⟨L, hm, -⟩, -, -, -, -⟩ := s
  refine ho.blk hn (fun e => ?_)
  simp at e
  subst e
  obtain ⟨c0, hg⟩ := hm.blkG
  exact absurd (hn.uniq hg).1 (by decide)
theorem Qst.rowKeep (s : Qst w0 w g h q r) {A : Option Addr} {l : List Int} (hR : RowN w A ItT irow' 1 l) (ho : Only [g] w w') : RowN w' A ItT irow' 1 l := by
  obtain ⟨⟨L, hm, -⟩, -, -, -, -⟩ := s
  refine hR.only ho (fun y cu hy e => ?_)
  simp at e
  subst e
  obtain ⟨c0, hg⟩ := hm.blkG
  exact absurd (hy.uniq hg).1 (by decide)
end
/-- lists are not long -/
def LensLe (q : Int → List Int) (k : Nat) : Prop := ∀ o, (q o).length ≤ k
theorem LensLe.put {q : Int → List Int} {k : Nat} (h : LensLe q k) {o : Int} {l : List Int} (hl : l.length ≤ k + 1) : LensLe (putQ q o l) (k + 1) := fun i => by
  unfold putQ
  split
  · exact hl
  · have := h i; omega
theorem LensLe.more {q : Int → List Int} {k : Nat} (h : LensLe q k) : LensLe q (k + 1) := fun i => by have := h i; omega
theorem z4_nat {o : Int} (h : 0 ≤ o ∧ o < 4) : ∃ k : Nat, o = k ∧ k < 4 := ⟨o.toNat, by omega, by omega⟩
theorem pushed_free {q : Int → List Int} {L : List Int} (h : QW L q Z4 Y4) {t : Int} (hi : inB q t = false) : ∀ p, t ∉ q p := fun p hp => by
  have hz := h.own p (fun e => by rw [e] at hp; simp at hp)
  obtain ⟨k, rfl, hk⟩ := z4_nat hz
  exact inB_not hi hk hp
theorem rowN_snoc {w : World} {base n cap : Nat} {A : Option Addr} {l : List Int} {x : Int} (h : w.ownsRow base ItT 1 (.slice A n cap) (l.length + 1) (l.flatMap irow' ++ [.int .i64 x])) : RowN w A ItT irow' 1 (l ++ [x]) := by
  have e1 : (l ++ [x]).length = l.length + 1 := by simp
  have e2 : (l ++ [x]).flatMap irow' = l.flatMap irow' ++ [.int .i64 x] := by simp [irow']
  rw [← e1, ← e2] at h
  obtain ⟨A', cp', e, hR⟩ := RowN.of_owns irow'_len h
  injection e with e1 e2 e3
  subst e1
  exact hR
theorem own_cap {w : World} {base n cap size : Nat} {e : TypeId} {A : Option Addr} {xs : List Value} (h : w.ownsRow base e size (.slice A n cap) n xs) : n ≤ cap ∧ cap ≤ maxLen := by
  rcases h.2 with ⟨h1, h2⟩ | ⟨g, cap', cur, h1, -, -, h4, h5, -⟩
  · injection h1 with e1 e2 e3
    subst e2 e3
    exact ⟨Nat.le_refl _, Nat.zero_le _⟩
  · injection h1 with e1 e2 e3
    subst e3
    exact ⟨h4, h5⟩
/-- a list without a number -/
def filt (l : List Int) (x : Int) : List Int := l.filter (fun y => y != x)
theorem filt_step {l : List Int} {x y : Int} {j : Nat} (h : l[j]? = some y) : filt (l.take (j + 1)) x = (if y = x then filt (l.take j) x else filt (l.take j) x ++ [y]) ∧ (decide (x ∈ l.take (j + 1)) = if y = x then true else decide (x ∈ l.take j)) := by
  have e : l.take (j + 1) = l.take j ++ [y] := by rw [List.take_add_one, h]; rfl
  rw [e]
  unfold filt
  rw [List.filter_append]
  by_cases hy : y = x
  · rw [if_pos hy, if_pos hy]
    exact ⟨by simp [hy], by simp [hy]⟩
  · rw [if_neg hy, if_neg hy]
    refine ⟨by simp [hy], ?_⟩
    have : ¬ x = y := fun e => hy e.symm
    simp [this]
theorem filt_len (l : List Int) (x : Int) : (filt l x).length ≤ l.length := List.length_filter_le _ _
theorem filt_erase {l : List Int} (h : l.Nodup) (x : Int) : filt l x = l.erase x := (List.Nodup.erase_eq_filter h x).symm
end Go.Proofs.Ytlcefgfcihgocaa
