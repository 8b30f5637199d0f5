/- Package queue's calls on plain words (layer 14). -/
import Derived.Test.YtlcefgfcihgocaaMade
import Derived.Test.YtlcefgfcihgocaaQueList
namespace Go.Proofs.Ytlcefgfcihgocaa
open Go.RowKit
section
variable {g : Nat} {w : World} {L : List Int} {q : Int → List Int} {Z Y : Int → Prop}
theorem qpush_any (hm : MemP g 738 UT w L) (o t : Int) : Calls Try.prog 9 #[.iface PwT (.slice (some ⟨g, 0, none⟩) 738 738), .int .i64 o, .int .i64 t] w fun e w' => ∃ n L', e = .returned (errV n) ∧ MemP g 738 UT w' L' ∧ Only [g] w w' := by
  obtain ⟨n, L', h⟩ : ∃ n L', (qpushP o t).run machP L = (n, L') := ⟨_, _, rfl⟩
  exact (vpush_is (viewP g 738 738 UT) hm h).mono fun e w' ⟨he, hm', ho⟩ => ⟨n, L', he, hm', ho⟩
theorem qpush_bad (hm : MemP g 738 UT w L) (o t : Int) (h : ¬ (0 ≤ o ∧ o < 32) ∨ ¬ (0 ≤ t ∧ t < 32)) : Calls Try.prog 9 #[.iface PwT (.slice (some ⟨g, 0, none⟩) 738 738), .int .i64 o, .int .i64 t] w fun e w' => e = .returned (errV 2) ∧ MemP g 738 UT w' L ∧ Only [g] w w' := by
  refine vpush_is (viewP g 738 738 UT) hm ?_
  unfold qpushP
  rw [if_neg (fun e => ?_)]
  · rfl
  · have h1 := objB_yes.1 e.1
    have h2 := objB_yes.1 e.2
    omega
theorem qpush_is (hm : MemP g 738 UT w L) (h : QW L q Z Y) {o t : Int} (ho : Z o) (ht : 0 ≤ t ∧ t < 32) (hz : ¬ Z t) (hf : ∀ p, t ∉ q p) :
    Calls Try.prog 9 #[.iface PwT (.slice (some ⟨g, 0, none⟩) 738 738), .int .i64 o, .int .i64 t] w fun e w' => ∃ L', e = .returned (errV 0) ∧ MemP g 738 UT w' L' ∧ QW L' (putQ q o (q o ++ [t])) Z Y ∧ Only [g] w w' := by
  obtain ⟨L', h1, h2⟩ := h.pushes ho ht hz hf
  exact (vpush_is (viewP g 738 738 UT) hm h1).mono fun e w' ⟨he, hm', ho⟩ => ⟨L', he, hm', h2, ho⟩
theorem qpop_any (hm : MemP g 738 UT w L) (o : Int) : Calls Try.prog 10 #[.iface PwT (.slice (some ⟨g, 0, none⟩) 738 738), .int .i64 o] w fun e w' => ∃ a b L', e = .returned (.tuple #[.int .i64 a, .bool b]) ∧ MemP g 738 UT w' L' ∧ Only [g] w w' := by
  obtain ⟨⟨a, b⟩, L', h⟩ : ∃ r L', (qpopP o).run machP L = (r, L') := ⟨_, _, rfl⟩
  exact (vpop_is (viewP g 738 738 UT) hm h).mono fun e w' ⟨he, hm', ho⟩ => ⟨a, b, L', he, hm', ho⟩
theorem qpop_none (hm : MemP g 738 UT w L) (h : QW L q Z Y) {o : Int} (ho : Z o) (hq : q o = []) :
    Calls Try.prog 10 #[.iface PwT (.slice (some ⟨g, 0, none⟩) 738 738), .int .i64 o] w fun e w' => e = .returned (.tuple #[.int .i64 0, .bool false]) ∧ MemP g 738 UT w' L ∧ Only [g] w w' := by
  exact vpop_is (viewP g 738 738 UT) hm (h.pop_none ho hq)
theorem qpop_is (hm : MemP g 738 UT w L) (h : QW L q Z Y) {o t : Int} {b : List Int} (ho : Z o) (hq : q o = t :: b) :
    Calls Try.prog 10 #[.iface PwT (.slice (some ⟨g, 0, none⟩) 738 738), .int .i64 o] w fun e w' => ∃ L', e = .returned (.tuple #[.int .i64 t, .bool true]) ∧ MemP g 738 UT w' L' ∧ QW L' (putQ q o b) Z Y ∧ Only [g] w w' := by
  obtain ⟨L', h1, h2⟩ := h.pop ho hq
  exact (vpop_is (viewP g 738 738 UT) hm h1).mono fun e w' ⟨he, hm', ho⟩ => ⟨L', he, hm', h2, ho⟩
theorem qremove_any (hm : MemP g 738 UT w L) (o t : Int) : Calls Try.prog 11 #[.iface PwT (.slice (some ⟨g, 0, none⟩) 738 738), .int .i64 o, .int .i64 t] w fun e w' => ∃ b L', e = .returned (.bool b) ∧ MemP g 738 UT w' L' ∧ Only [g] w w' := by
  obtain ⟨b, L', h⟩ : ∃ r L', (qremP o t).run machP L = (r, L') := ⟨_, _, rfl⟩
  exact (vremove_is (viewP g 738 738 UT) hm h).mono fun e w' ⟨he, hm', ho⟩ => ⟨b, L', he, hm', ho⟩
theorem qremove_is (hm : MemP g 738 UT w L) (h : QW L q Z Y) {o : Int} (ho : Z o) (t : Int) :
    Calls Try.prog 11 #[.iface PwT (.slice (some ⟨g, 0, none⟩) 738 738), .int .i64 o, .int .i64 t] w fun e w' => ∃ L', e = .returned (.bool (decide (t ∈ q o))) ∧ MemP g 738 UT w' L' ∧ QW L' (putQ q o ((q o).erase t)) Z Y ∧ Only [g] w w' := by
  obtain ⟨L', h1, h2⟩ := h.rem ho t
  exact (vremove_is (viewP g 738 738 UT) hm h1).mono fun e w' ⟨he, hm', ho⟩ => ⟨L', he, hm', h2, ho⟩
theorem qlist_any (hm : MemP g 738 UT w L) (o : Int) : Calls Try.prog 12 #[.iface PwT (.slice (some ⟨g, 0, none⟩) 738 738), .int .i64 o] w fun e w' => ∃ u l, l.length ≤ 32 ∧ e = .returned u ∧ MadeW w' w.heap.size u l ∧ MemP g 738 UT w' L ∧ Only [g] w w' := by
  obtain ⟨l, L', h⟩ : ∃ r L', (qwayF 32 o).run machP L = (r, L') := ⟨_, _, rfl⟩
  have hl := qwayF_len (M := machP) 32 o L
  rw [h] at hl
  obtain rfl : L' = L := by have := qwayF_same 32 o L; rw [h] at this; exact this
  exact (vlist_is (viewP g 738 738 UT) hm h).mono fun e w' ⟨u, he, hu, hm', ho⟩ => ⟨u, l, hl, he, hu, hm', ho⟩
theorem qlist_is (hm : MemP g 738 UT w L) (h : QW L q Z Y) {o : Int} (ho : Z o) :
    Calls Try.prog 12 #[.iface PwT (.slice (some ⟨g, 0, none⟩) 738 738), .int .i64 o] w fun e w' => ∃ u, e = .returned u ∧ MadeW w' w.heap.size u (q o) ∧ MemP g 738 UT w' L ∧ Only [g] w w' := by
  exact vlist_is (viewP g 738 738 UT) hm (h.way ho)
end
end Go.Proofs.Ytlcefgfcihgocaa
