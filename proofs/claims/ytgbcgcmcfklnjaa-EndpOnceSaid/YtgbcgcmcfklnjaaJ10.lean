/- A slice of padstonelaw15.Deed's, as it comes in: each one 4 cells. -/
import Derived.Test.YtgbcgcmcfklnjaaRows
import Derived.Test.YtgbcgcmcfklnjaaLaw
import Derived.Test.YtgbcgcmcfklnjaaMem
import Derived.KernelRfl
import Derived.WalkKit
import Derived.WalkSpells
import Derived.WalkLawsBesides
import Derived.Handy
import Derived.BigQuiet
import Derived.Deep.QuietTactic
import Derived.RegionTactic
import Derived.Lib.Hide
import Derived.Test.YtgbcgcmcfklnjaaJ4
namespace Go.Proofs.Ytgbcgcmcfklnjaa
open Go.ChangeShapes Go.WideShapes Go.ChangeAt Go.RowKit Go.Deep
/-- a deed, as it lies in a row of 4 cells -/
structure E4 where
  what : Int
  t : Int
  n : Int
  b : Int
def E4.row (d : E4) : List Value := [.int .i64 d.what, .int .i64 d.t, .int .i64 d.n, .int .i64 d.b]
abbrev E4.arr (d : E4) : Array Value := #[.int .i64 d.what, .int .i64 d.t, .int .i64 d.n, .int .i64 d.b]
structure E4.ok (d : E4) : Prop where
  what : -9223372036854775808 ≤ d.what ∧ d.what ≤ 9223372036854775807
  t : -9223372036854775808 ≤ d.t ∧ d.t ≤ 9223372036854775807
  n : -9223372036854775808 ≤ d.n ∧ d.n ≤ 9223372036854775807
  b : -9223372036854775808 ≤ d.b ∧ d.b ≤ 9223372036854775807
abbrev E4T : TypeId := 32
theorem E4.cells {w : World} {g : Nat} {d : E4} (h : Blk w g E4T d.arr) : w.cell? ⟨g, 0, none⟩ = some (.int .i64 d.what) ∧ w.cell? ⟨g, 1, none⟩ = some (.int .i64 d.t) ∧ w.cell? ⟨g, 2, none⟩ = some (.int .i64 d.n) ∧ w.cell? ⟨g, 3, none⟩ = some (.int .i64 d.b) := ⟨h.cell 0, h.cell 1, h.cell 2, h.cell 3⟩
/-- a slice of deeds, nil let in: each cell of each -/
structure DeedsE4 (w : World) (A : Option Addr) (L : List E4) : Prop where
  at_ : ∀ (k : Nat) (d : E4), L[k]? = some d → ∃ b off, A = some ⟨b, off, none⟩ ∧ b < w.heap.size ∧ ∀ (j : Nat) (v : Value), d.row[j]? = some v → w.cell? ⟨b, off + k * 4 + j, none⟩ = some v
  ok : ∀ (k : Nat) (d : E4), L[k]? = some d → d.ok
theorem DeedsE4.only {w w' : World} {A : Option Addr} {L : List E4} (h : DeedsE4 w A L) (ho : Only [] w w') : DeedsE4 w' A L :=
  ⟨fun k d hd => by
    obtain ⟨b, off, hA, hb, hc⟩ := h.at_ k d hd
    exact ⟨b, off, hA, Nat.lt_of_lt_of_le hb ho.size, fun j v hv => (ho.cell (p := ⟨b, _, none⟩) hb (by simp)).trans (hc j v hv)⟩, h.ok⟩
set_option maxRecDepth 100000 in
theorem deedsE4_of {H : Type} {enc : TypeId × Value → H} {w : World} {base : Nat} {spare : Nat → Bool} {held : Bool} {r : Reach} {b0 : Nat} {v : Value} {d : DataW H} {p : List MemPlace}
    (hv : Value.okWide Try.prog w r b0 22 v) (h : DataW.Trod enc Try.prog w base spare held 22 v d p) :
    ∃ (A : Option Addr) (L : List E4) (cap : Nat), v = .slice A L.length cap ∧ DeedsE4 w A L ∧ L.length ≤ maxLen := by
  obtain ⟨A, len, cap, rfl, hlen, hrow⟩ := open_rows Try.underlying22 Try.underlying32 (by kernel_rfl) (by kernel_rfl) (by decide) hv h
  obtain ⟨L, hL, hq⟩ := list_of (n := len) (Q := fun i (d : E4) => d.ok ∧ ∃ b off, A = some ⟨b, off, none⟩ ∧ b < w.heap.size ∧ ∀ (j : Nat) (v : Value), d.row[j]? = some v → w.cell? ⟨b, off + i * 4 + j, none⟩ = some v) (by
    intro i hi
    obtain ⟨b, off, hA, hb, hc⟩ := hrow (by omega)
    obtain ⟨u0, n0, y0, c0, t0⟩ := hc i hi 0 _ rfl
    obtain ⟨u1, n1, y1, c1, t1⟩ := hc i hi 1 _ rfl
    obtain ⟨u2, n2, y2, c2, t2⟩ := hc i hi 2 _ rfl
    obtain ⟨u3, n3, y3, c3, t3⟩ := hc i hi 3 _ rfl
    obtain ⟨x0, e0, _, w0⟩ := DataW.trod_int Try.underlying3 t0
    obtain ⟨x1, e1, _, w1⟩ := DataW.trod_int Try.underlying3 t1
    obtain ⟨x2, e2, _, w2⟩ := DataW.trod_int Try.underlying3 t2
    obtain ⟨x3, e3, _, w3⟩ := DataW.trod_int Try.underlying3 t3
    simp only [List.cons.injEq, and_true] at e0 e1 e2 e3
    subst e0 e1 e2 e3
    have w0' : -9223372036854775808 ≤ x0 ∧ x0 ≤ 9223372036854775807 := by simpa [Lit.wf, IntKind.min, IntKind.max, IntKind.signed, IntKind.bits] using w0
    have w1' : -9223372036854775808 ≤ x1 ∧ x1 ≤ 9223372036854775807 := by simpa [Lit.wf, IntKind.min, IntKind.max, IntKind.signed, IntKind.bits] using w1
    have w2' : -9223372036854775808 ≤ x2 ∧ x2 ≤ 9223372036854775807 := by simpa [Lit.wf, IntKind.min, IntKind.max, IntKind.signed, IntKind.bits] using w2
    have w3' : -9223372036854775808 ≤ x3 ∧ x3 ≤ 9223372036854775807 := by simpa [Lit.wf, IntKind.min, IntKind.max, IntKind.signed, IntKind.bits] using w3
    refine ⟨⟨x0, x1, x2, x3⟩, ⟨w0', w1', w2', w3'⟩, b, off, hA, hb, fun j v hj => ?_⟩
    match j, hj with
    | 0, hj => cases hj; exact c0
    | 1, hj => cases hj; exact c1
    | 2, hj => cases hj; exact c2
    | 3, hj => cases hj; exact c3
    | j + 4, hj => simp [E4.row] at hj)
  exact ⟨A, L, cap, by rw [hL], ⟨fun k d hd => (hq k d hd).2, fun k d hd => (hq k d hd).1⟩, by rw [hL]; exact hlen⟩
end Go.Proofs.Ytgbcgcmcfklnjaa
/- Pick of layers 10 to 19's statements: a number modulo another one. -/
namespace Go.Proofs.Ytgbcgcmcfklnjaa
open Go.RowKit
def pickN (c n : Int) : Int := if c < 0 then (-(c + 1)) % n else c % n
theorem pickN_rng (c : Int) {n : Int} (h : 1 ≤ n) : 0 ≤ pickN c n ∧ pickN c n < n := by
  unfold pickN
  split
  · exact ⟨Int.emod_nonneg _ (by omega), Int.emod_lt_of_pos _ (by omega)⟩
  · exact ⟨Int.emod_nonneg _ (by omega), Int.emod_lt_of_pos _ (by omega)⟩
theorem pickN_any (c n : Int) (hc : -9223372036854775808 ≤ c ∧ c ≤ 9223372036854775807) (hn : 1 ≤ n) (hn2 : n ≤ 1000000) (w : World) : Calls Try.prog 7 #[.int .i64 c, .int .i64 n] w fun e w' => e = .returned (.int .i64 (pickN c n)) ∧ w = w' := by
  obtain ⟨h0, h1⟩ := hc
  have hz : ¬ n = 0 := by omega
  by_cases h : c < 0
  · have e1 : pickN c n = -((c + 1).tmod n) := by unfold pickN; rw [if_pos h, ← Int.neg_tmod, Int.tmod_eq_emod_of_nonneg (by omega)]
    have q := (pickN_rng c hn)
    rw [e1] at q ⊢
    have hw1 : IntKind.i64.wrap (c + 1) = c + 1 := IntWalk.i64_in _ (by omega)
    have hw2 : IntKind.i64.wrap ((c + 1).tmod n) = (c + 1).tmod n := IntWalk.i64_in _ (by omega)
    have hw3 : IntKind.i64.wrap (-((c + 1).tmod n)) = -((c + 1).tmod n) := IntWalk.i64_in _ (by omega)
    clear e1
    go_enter Try.func7, Try.ntmps7
    go_wp2
    go_ret
    exact ⟨rfl, rfl⟩
  · have e1 : pickN c n = c % n := by unfold pickN; rw [if_neg h]
    have q := (pickN_rng c hn)
    rw [e1] at q ⊢
    have hw2 : IntKind.i64.wrap (c % n) = c % n := IntWalk.i64_in _ (by omega)
    clear e1
    go_enter Try.func7, Try.ntmps7
    go_wp2
    go_ret
    exact ⟨rfl, rfl⟩
end Go.Proofs.Ytgbcgcmcfklnjaa
/- 738 words of one's own, as they are made (layers 9 and up). -/
namespace Go.Proofs.Ytgbcgcmcfklnjaa
open Go.RowKit
abbrev PwT : TypeId := 25
theorem MemP.blkG {g n : Nat} {w : World} {L : List Int} (h : MemP g n UT w L) : ∃ cur, Blk w g UT cur := by
  obtain ⟨cur, hb, -⟩ := h.row
  exact ⟨cur, hb⟩
end Go.Proofs.Ytgbcgcmcfklnjaa
