/- A slice of structs, of fields as wide as they are, as it comes in (layers 17 and up). -/
import Derived.Test.YtdkjfalhalepgaaJ18
import Derived.Test.YtdkjfalhalepgaaRows
import Derived.Test.YtdkjfalhalepgaaJ1
import Derived.KernelRfl
import Derived.Test.YtdkjfalhalepgaaJ10
import Derived.Laws.Bits64b
import Derived.Test.YtdkjfalhalepgaaJ11
import Derived.Test.YtdkjfalhalepgaaJ16
namespace Go.Proofs.Ytdkjfalhalepgaa
open Go.ChangeShapes Go.WideShapes Go.ChangeAt Go.RowKit Go.Deep
section
variable {H : Type} {enc : TypeId × Value → H} {P : Program} {w : World} {base : Nat} {spare : Nat → Bool} {held : Bool}
/-- each element's cells, and that they are such a struct's -/
theorem open_rowsW {r : Reach} {b0 : Nat} {t e : TypeId} {v : Value} {d : DataW H} {p : List MemPlace} {C : Nat} (ht : P.underlying t = some (.slice e)) (hC : P.cellsOf e = C) (h0 : 0 < C)
    (hv : Value.okWide P w r b0 t v) (h : DataW.Trod enc P w base spare held t v d p) :
    ∃ (A : Option Addr) (len cap : Nat), v = .slice A len cap ∧ len ≤ maxLen ∧ (0 < len → ∃ b off, A = some ⟨b, off, none⟩ ∧ b < w.heap.size ∧
      ∀ i, i < len → ∃ cs : List Value, cs.length = C ∧ (∀ (j : Nat) (u : Value), cs[j]? = some u → w.cell? ⟨b, off + i * C + j, none⟩ = some u) ∧ ∃ (n : Nat) (y : DataW H × List MemPlace), DataW.trod enc P w base spare held n e cs = some y) := by
  obtain ⟨fuel, hf⟩ := h
  rcases open_slice ht hf with ⟨hc, _⟩ | ⟨a, len, cap, m, n, D, Pl, hcs, hb, hl, hm, hmm, hx, hi⟩
  · obtain ⟨A, len, cap, rfl⟩ := okWide_slice ht hv
    simp [Value.cells] at hc
    obtain ⟨rfl, rfl, rfl⟩ := hc
    exact ⟨none, 0, 0, rfl, by simp [maxLen], fun h => absurd h (by omega)⟩
  · obtain ⟨A, len', cap', rfl⟩ := okWide_slice ht hv
    simp [Value.cells] at hcs
    obtain ⟨rfl, rfl, rfl⟩ := hcs
    refine ⟨some a, len', cap', rfl, by omega, fun hpos => ?_⟩
    have hml : len' ≤ m := by rw [hmm]; split <;> omega
    have get : ∀ i, i < len' → ∃ cs : List Value, cs.length = C ∧ (∀ (j : Nat) (u : Value), cs[j]? = some u → w.cell? (a.add (i * C + j)) = some u) ∧ ∃ (n : Nat) (y : DataW H × List MemPlace), DataW.trod enc P w base spare held n e cs = some y := by
      intro i hil
      obtain ⟨cs', hc, ht'⟩ := hi i (by omega)
      rw [hC] at hc
      obtain ⟨_, hcl, hat⟩ := World.cells?_some hc
      refine ⟨cs', hcl, fun j u hu => ?_, _, _, ht'⟩
      have hjl : j < C := by rw [← hcl]; exact (List.getElem?_eq_some_iff.1 hu).1
      rw [← Go.Deep.add_add, hat j hjl, hu]
    obtain ⟨b, off, spot⟩ := a
    obtain ⟨cs, hcl, hat, -⟩ := get 0 hpos
    obtain ⟨u, hu⟩ : ∃ u, cs[0]? = some u := ⟨_, List.getElem?_eq_getElem (by omega)⟩
    have hs := cell_spot (hat 0 u hu)
    simp [Addr.add] at hs
    obtain ⟨rfl, hbl⟩ := hs
    refine ⟨b, off, rfl, hbl, fun i hil => ?_⟩
    obtain ⟨cs, hcl, hat, hn⟩ := get i hil
    refine ⟨cs, hcl, fun j u hu => ?_, hn⟩
    have := hat j u hu
    simp only [Addr.add] at this
    rw [Nat.add_assoc]
    by_cases e : i * C + j = 0
    · rw [if_pos e] at this
      rw [e]
      exact this
    · rw [if_neg e] at this
      exact this
end
end Go.Proofs.Ytdkjfalhalepgaa
/- A slice of padstonelaw17.Deed's, as it comes in: each one 9 cells. -/
namespace Go.Proofs.Ytdkjfalhalepgaa
open Go.ChangeShapes Go.WideShapes Go.ChangeAt Go.RowKit Go.Deep
/-- a deed, as it lies in a row of 9 cells -/
structure T9 where
  what : Int
  t : Int
  n : Int
  kind : Int
  rights : Int
  obj : Int
  badge : Int
  guard : Int
  bits : Int
def T9.row (d : T9) : List Value := [.int .i64 d.what, .int .i64 d.t, .int .i64 d.n, .int .i64 d.kind, .int .i64 d.rights, .int .i64 d.obj, .int .i64 d.badge, .int .i64 d.guard, .int .i64 d.bits]
abbrev T9.arr (d : T9) : Array Value := #[.int .i64 d.what, .int .i64 d.t, .int .i64 d.n, .int .i64 d.kind, .int .i64 d.rights, .int .i64 d.obj, .int .i64 d.badge, .int .i64 d.guard, .int .i64 d.bits]
structure T9.ok (d : T9) : Prop where
  what : -9223372036854775808 ≤ d.what ∧ d.what ≤ 9223372036854775807
  t : -9223372036854775808 ≤ d.t ∧ d.t ≤ 9223372036854775807
  n : -9223372036854775808 ≤ d.n ∧ d.n ≤ 9223372036854775807
  kind : -9223372036854775808 ≤ d.kind ∧ d.kind ≤ 9223372036854775807
  rights : -9223372036854775808 ≤ d.rights ∧ d.rights ≤ 9223372036854775807
  obj : -9223372036854775808 ≤ d.obj ∧ d.obj ≤ 9223372036854775807
  badge : -9223372036854775808 ≤ d.badge ∧ d.badge ≤ 9223372036854775807
  guard : -9223372036854775808 ≤ d.guard ∧ d.guard ≤ 9223372036854775807
  bits : -9223372036854775808 ≤ d.bits ∧ d.bits ≤ 9223372036854775807
abbrev T9T : TypeId := 32
theorem T9.cells {w : World} {g : Nat} {d : T9} (h : Blk w g T9T d.arr) : w.cell? ⟨g, 0, none⟩ = some (.int .i64 d.what) ∧ w.cell? ⟨g, 1, none⟩ = some (.int .i64 d.t) ∧ w.cell? ⟨g, 2, none⟩ = some (.int .i64 d.n) ∧ w.cell? ⟨g, 3, none⟩ = some (.int .i64 d.kind) ∧ w.cell? ⟨g, 4, none⟩ = some (.int .i64 d.rights) ∧ w.cell? ⟨g, 5, none⟩ = some (.int .i64 d.obj) ∧ w.cell? ⟨g, 6, none⟩ = some (.int .i64 d.badge) ∧ w.cell? ⟨g, 7, none⟩ = some (.int .i64 d.guard) ∧ w.cell? ⟨g, 8, none⟩ = some (.int .i64 d.bits) := ⟨h.cell 0, h.cell 1, h.cell 2, h.cell 3, h.cell 4, h.cell 5, h.cell 6, h.cell 7, h.cell 8⟩
/-- a slice of deeds, nil let in: each cell of each -/
structure DeedsT9 (w : World) (A : Option Addr) (L : List T9) : Prop where
  at_ : ∀ (k : Nat) (d : T9), L[k]? = some d → ∃ b off, A = some ⟨b, off, none⟩ ∧ b < w.heap.size ∧ ∀ (j : Nat) (v : Value), d.row[j]? = some v → w.cell? ⟨b, off + k * 9 + j, none⟩ = some v
  ok : ∀ (k : Nat) (d : T9), L[k]? = some d → d.ok
theorem DeedsT9.only {w w' : World} {A : Option Addr} {L : List T9} (h : DeedsT9 w A L) (ho : Only [] w w') : DeedsT9 w' A L :=
  ⟨fun k d hd => by
    obtain ⟨b, off, hA, hb, hc⟩ := h.at_ k d hd
    exact ⟨b, off, hA, Nat.lt_of_lt_of_le hb ho.size, fun j v hv => (ho.cell (p := ⟨b, _, none⟩) hb (by simp)).trans (hc j v hv)⟩, h.ok⟩
set_option maxRecDepth 100000 in
theorem deedsT9_of {H : Type} {enc : TypeId × Value → H} {w : World} {base : Nat} {spare : Nat → Bool} {held : Bool} {r : Reach} {b0 : Nat} {v : Value} {d : DataW H} {p : List MemPlace}
    (hv : Value.okWide Try.prog w r b0 22 v) (h : DataW.Trod enc Try.prog w base spare held 22 v d p) :
    ∃ (A : Option Addr) (L : List T9) (cap : Nat), v = .slice A L.length cap ∧ DeedsT9 w A L ∧ L.length ≤ maxLen := by
  obtain ⟨A, len, cap, rfl, hlen, hrow⟩ := open_rowsW (C := 9) Try.underlying22 (by kernel_rfl) (by decide) hv h
  obtain ⟨L, hL, hq⟩ := list_of (n := len) (Q := fun i (d : T9) => d.ok ∧ ∃ b off, A = some ⟨b, off, none⟩ ∧ b < w.heap.size ∧ ∀ (j : Nat) (v : Value), d.row[j]? = some v → w.cell? ⟨b, off + i * 9 + j, none⟩ = some v) (by
    intro i hi
    obtain ⟨b, off, hA, hb, hc⟩ := hrow (by omega)
    obtain ⟨cs, hcl, hat, n1, y1, ht1⟩ := hc i hi
    obtain ⟨v0, v1, v2, v3, v4, v5, v6, v7, v8, rfl⟩ : ∃ v0 v1 v2 v3 v4 v5 v6 v7 v8 : Value, cs = [v0, v1, v2, v3, v4, v5, v6, v7, v8] := by
      match cs, hcl with
      | [a0, a1, a2, a3, a4, a5, a6, a7, a8], _ => exact ⟨a0, a1, a2, a3, a4, a5, a6, a7, a8, rfl⟩
    have k1 : Try.prog.cellsOf 3 = 1 := by kernel_rfl
    have k6 : Try.prog.cellsOf 30 = 6 := by kernel_rfl
    obtain ⟨ys, n2, -, -, -, hyl, hg⟩ := DataW.trod_struct Try.underlying32 ht1
    have q0 : DataW.trod enc Try.prog w base spare held n2 3 (List.take (Try.prog.cellsOf 3) (List.drop 0 [v0, v1, v2, v3, v4, v5, v6, v7, v8])) = ys[0]? := hg 0 _ rfl
    have q1 : DataW.trod enc Try.prog w base spare held n2 3 (List.take (Try.prog.cellsOf 3) (List.drop 1 [v0, v1, v2, v3, v4, v5, v6, v7, v8])) = ys[1]? := hg 1 _ rfl
    have q2 : DataW.trod enc Try.prog w base spare held n2 3 (List.take (Try.prog.cellsOf 3) (List.drop 2 [v0, v1, v2, v3, v4, v5, v6, v7, v8])) = ys[2]? := hg 2 _ rfl
    have q3 : DataW.trod enc Try.prog w base spare held n2 30 (List.take (Try.prog.cellsOf 30) (List.drop 3 [v0, v1, v2, v3, v4, v5, v6, v7, v8])) = ys[3]? := hg 3 _ rfl
    rw [k1] at q0 q1 q2
    rw [k6] at q3
    simp only [List.drop_succ_cons, List.drop_zero, List.take_succ_cons, List.take_zero] at q0 q1 q2 q3
    have g4 : ∀ j, j < 4 → ∃ y, ys[j]? = some y := fun j hj => ⟨_, List.getElem?_eq_getElem (by rw [hyl]; exact hj)⟩
    obtain ⟨z0, hz0⟩ := g4 0 (by decide)
    obtain ⟨z1, hz1⟩ := g4 1 (by decide)
    obtain ⟨z2, hz2⟩ := g4 2 (by decide)
    obtain ⟨z3, hz3⟩ := g4 3 (by decide)
    have t0 := q0.trans hz0
    have t1 := q1.trans hz1
    have t2 := q2.trans hz2
    have tC := q3.trans hz3
    obtain ⟨us, n3, -, -, -, hul, hk⟩ := DataW.trod_struct Try.underlying30 tC
    have g6 : ∀ j, j < 6 → ∃ y, us[j]? = some y := fun j hj => ⟨_, List.getElem?_eq_getElem (by rw [hul]; exact hj)⟩
    have r0 : DataW.trod enc Try.prog w base spare held n3 3 (List.take (Try.prog.cellsOf 3) (List.drop 0 [v3, v4, v5, v6, v7, v8])) = us[0]? := hk 0 _ rfl
    have r1 : DataW.trod enc Try.prog w base spare held n3 3 (List.take (Try.prog.cellsOf 3) (List.drop 1 [v3, v4, v5, v6, v7, v8])) = us[1]? := hk 1 _ rfl
    have r2 : DataW.trod enc Try.prog w base spare held n3 3 (List.take (Try.prog.cellsOf 3) (List.drop 2 [v3, v4, v5, v6, v7, v8])) = us[2]? := hk 2 _ rfl
    have r3 : DataW.trod enc Try.prog w base spare held n3 3 (List.take (Try.prog.cellsOf 3) (List.drop 3 [v3, v4, v5, v6, v7, v8])) = us[3]? := hk 3 _ rfl
    have r4 : DataW.trod enc Try.prog w base spare held n3 3 (List.take (Try.prog.cellsOf 3) (List.drop 4 [v3, v4, v5, v6, v7, v8])) = us[4]? := hk 4 _ rfl
    have r5 : DataW.trod enc Try.prog w base spare held n3 3 (List.take (Try.prog.cellsOf 3) (List.drop 5 [v3, v4, v5, v6, v7, v8])) = us[5]? := hk 5 _ rfl
    rw [k1] at r0 r1 r2 r3 r4 r5
    simp only [List.drop_succ_cons, List.drop_zero, List.take_succ_cons, List.take_zero] at r0 r1 r2 r3 r4 r5
    obtain ⟨s0, hs0⟩ := g6 0 (by decide)
    obtain ⟨s1, hs1⟩ := g6 1 (by decide)
    obtain ⟨s2, hs2⟩ := g6 2 (by decide)
    obtain ⟨s3, hs3⟩ := g6 3 (by decide)
    obtain ⟨s4, hs4⟩ := g6 4 (by decide)
    obtain ⟨s5, hs5⟩ := g6 5 (by decide)
    obtain ⟨x0, e0, _, w0⟩ := DataW.trod_int Try.underlying3 t0
    obtain ⟨x1, e1, _, w1⟩ := DataW.trod_int Try.underlying3 t1
    obtain ⟨x2, e2, _, w2⟩ := DataW.trod_int Try.underlying3 t2
    obtain ⟨x3, e3, _, w3⟩ := DataW.trod_int Try.underlying3 (r0.trans hs0)
    obtain ⟨x4, e4, _, w4⟩ := DataW.trod_int Try.underlying3 (r1.trans hs1)
    obtain ⟨x5, e5, _, w5⟩ := DataW.trod_int Try.underlying3 (r2.trans hs2)
    obtain ⟨x6, e6, _, w6⟩ := DataW.trod_int Try.underlying3 (r3.trans hs3)
    obtain ⟨x7, e7, _, w7⟩ := DataW.trod_int Try.underlying3 (r4.trans hs4)
    obtain ⟨x8, e8, _, w8⟩ := DataW.trod_int Try.underlying3 (r5.trans hs5)
    simp only [List.cons.injEq, and_true] at e0 e1 e2 e3 e4 e5 e6 e7 e8
    subst e0 e1 e2 e3 e4 e5 e6 e7 e8
    have c0 := hat 0 _ rfl
    have c1 := hat 1 _ rfl
    have c2 := hat 2 _ rfl
    have c3 := hat 3 _ rfl
    have c4 := hat 4 _ rfl
    have c5 := hat 5 _ rfl
    have c6 := hat 6 _ rfl
    have c7 := hat 7 _ rfl
    have c8 := hat 8 _ rfl
    have w0' : -9223372036854775808 ≤ x0 ∧ x0 ≤ 9223372036854775807 := by simpa [Lit.wf, IntKind.min, IntKind.max, IntKind.signed, IntKind.bits] using w0
    have w1' : -9223372036854775808 ≤ x1 ∧ x1 ≤ 9223372036854775807 := by simpa [Lit.wf, IntKind.min, IntKind.max, IntKind.signed, IntKind.bits] using w1
    have w2' : -9223372036854775808 ≤ x2 ∧ x2 ≤ 9223372036854775807 := by simpa [Lit.wf, IntKind.min, IntKind.max, IntKind.signed, IntKind.bits] using w2
    have w3' : -9223372036854775808 ≤ x3 ∧ x3 ≤ 9223372036854775807 := by simpa [Lit.wf, IntKind.min, IntKind.max, IntKind.signed, IntKind.bits] using w3
    have w4' : -9223372036854775808 ≤ x4 ∧ x4 ≤ 9223372036854775807 := by simpa [Lit.wf, IntKind.min, IntKind.max, IntKind.signed, IntKind.bits] using w4
    have w5' : -9223372036854775808 ≤ x5 ∧ x5 ≤ 9223372036854775807 := by simpa [Lit.wf, IntKind.min, IntKind.max, IntKind.signed, IntKind.bits] using w5
    have w6' : -9223372036854775808 ≤ x6 ∧ x6 ≤ 9223372036854775807 := by simpa [Lit.wf, IntKind.min, IntKind.max, IntKind.signed, IntKind.bits] using w6
    have w7' : -9223372036854775808 ≤ x7 ∧ x7 ≤ 9223372036854775807 := by simpa [Lit.wf, IntKind.min, IntKind.max, IntKind.signed, IntKind.bits] using w7
    have w8' : -9223372036854775808 ≤ x8 ∧ x8 ≤ 9223372036854775807 := by simpa [Lit.wf, IntKind.min, IntKind.max, IntKind.signed, IntKind.bits] using w8
    refine ⟨⟨x0, x1, x2, x3, x4, x5, x6, x7, x8⟩, ⟨w0', w1', w2', w3', w4', w5', w6', w7', w8'⟩, b, off, hA, hb, fun j v hj => ?_⟩
    match j, hj with
    | 0, hj => cases hj; exact c0
    | 1, hj => cases hj; exact c1
    | 2, hj => cases hj; exact c2
    | 3, hj => cases hj; exact c3
    | 4, hj => cases hj; exact c4
    | 5, hj => cases hj; exact c5
    | 6, hj => cases hj; exact c6
    | 7, hj => cases hj; exact c7
    | 8, hj => cases hj; exact c8
    | j + 9, hj => simp [T9.row] at hj)
  exact ⟨A, L, cap, by rw [hL], ⟨fun k d hd => (hq k d hd).2, fun k d hd => (hq k d hd).1⟩, by rw [hL]; exact hlen⟩
end Go.Proofs.Ytdkjfalhalepgaa
/- Package ntfn's functions as mathematics, of any view; bits of numbers of 64 bits together (layers 16 and up). No dump is read here. -/
namespace Go.Proofs.Ytdkjfalhalepgaa
open Go.RowKit
def ntakeP (o : Int) : Vp Int := (fieldP o 1).bind fun n => (putP o 1 0).bind fun _ => .ret n
/-- word, whether, the error -/
def nwaitP (o t : Int) : Vp (Int × Bool × Int) :=
  if objB o 0 = true ∧ objB t 0 = true then
    (fieldP o 1).bind fun n => if n = 0 then (eblockP o t 5).bind fun _ => .ret (0, false, 0) else (ntakeP o).bind fun n => .ret (n, true, 0)
  else .ret (0, false, 2)
end Go.Proofs.Ytdkjfalhalepgaa
/- What Signal, Wait, Poll of package ntfn come to on words that tell a sound state (layers 16, 19, 21), as mathematics. No dump is read here. -/
namespace Go.Proofs.Ytdkjfalhalepgaa
open Go.RowKit
section
variable {L L' : List Int} {S : RSt} {o t b : Int}
theorem Wok.nwait_blocks (hw : Wok L S) (h : Eok S) (ho : NtAt S o) (ht : S.Thr t) (h1 : (S.ob t).state = 1) (h0 : (S.ob o).word = 0) : ∃ L', (nwaitP o t).run machP L = ((0, false, 0), L') ∧ Wok L' (ntwS S o t) := by
  have htn := h.ei.none ht (blk_no1 (.inl h1))
  have hto : (S.ob t).owing = -1 := by
    have e1 := (h.eii.lo t ht).1
    have e2 := h.eii.r t ht
    omega
  obtain ⟨L1, e1, q1⟩ := hw.eblock (o := o) (t := t) (n := 5) ho.zs ⟨ht.1, ht.2, hto⟩ htn.2 (h.pr t ht) ⟨by decide, by decide⟩
  unfold nwaitP ntwS
  rw [if_pos ⟨objB_in ho.rng ⟨by omega, by omega⟩, objB_in ht.1 ⟨by omega, by omega⟩⟩, Vp.run_bind_is fieldP_plain, hw.wordL ho.rng ho.kind, if_pos h0, if_pos h0, Vp.run_bind_is e1]
  exact ⟨_, rfl, q1⟩
end
end Go.Proofs.Ytdkjfalhalepgaa
/- What Signal, Wait, Poll of package ntfn do (layer 16), to any view. -/
namespace Go.Proofs.Ytdkjfalhalepgaa
open Go.RowKit
theorem nis_any (i : Int) (w : World) : Calls Try.prog 60 #[.int .i64 i] w fun e w' => e = .returned (.bool (objB i 0)) ∧ w' = w := by
  obtain ⟨a, ha⟩ : ∃ a, objI i 0 = a := ⟨_, rfl⟩
  obtain ⟨q, hq⟩ : ∃ q, objB i 0 = q := ⟨_, rfl⟩
  rw [hq]
  have cO := Lib.hid (obj_is ha hq)
  clear ha hq
  go_enter Try.func60, Try.ntmps60
  go_wp2_with (go_at_call 70; (with_reducible refine (cO.out _).mono ?_); rintro e w' ⟨rfl, rfl⟩)
  go_ret
  exact ⟨rfl, rfl⟩
theorem nis_is {i : Int} {q : Bool} (h : objB i 0 = q) (w : World) : Calls Try.prog 60 #[.int .i64 i] w fun e w' => e = .returned (.bool q) ∧ w' = w := h ▸ nis_any i w
section
variable {σ : Type} {M : Mach σ} {T : TypeId} {v : Value} {fR fW : FuncId} {Mem : World → σ → Prop} {Ok : σ → Prop} {S R : List Nat} {w : World} {s : σ}
set_option maxRecDepth 100000 in
theorem ntake_is (V : VOk M T v fR fW Mem Ok S R) (hm : Mem w s) {o n : Int} {s1 : σ} (h : (ntakeP o).run M s = (n, s1)) :
    Calls Try.prog 62 #[.iface T v, .int .i64 o] w fun e w' => e = .returned (replyV n 0) ∧ Mem w' s1 ∧ Only S w w' := by
  unfold ntakeP at h
  obtain ⟨x, s2, h2⟩ : ∃ x s2, (fieldP o 1).run M s = (x, s2) := ⟨_, _, rfl⟩
  rw [Vp.run_bind_is h2] at h
  obtain ⟨s3, h3⟩ : ∃ s3, (putP o 1 0).run M s2 = ((), s3) := ⟨_, rfl⟩
  rw [Vp.run_bind_is h3, Vp.run_ret] at h
  cases h
  have hr : w.heap.size ∉ R := V.fresh hm (Nat.le_refl _)
  have hs : w.heap.size ∉ S := V.freshS hm (Nat.le_refl _)
  have o0 : Only [] w (w.alloc (.cells #[.int .i64 0, .int .i64 0, .int .i64 0] 46)) := (Only.refl [] w).alloc _
  have hm0 := V.only0 hm o0
  have ho0 : Only S w (w.alloc (.cells #[.int .i64 0, .int .i64 0, .int .i64 0] 46)) := (Only.refl S w).alloc _
  have hb0 := Blk.new w 46 #[.int .i64 0, .int .i64 0, .int .i64 0]
  have HR := Lib.hid (And.intro hr hs)
  have HB := Lib.hid (And.intro hb0 ho0)
  have c := field_is V hm0 h2
  have HV := Lib.hid V
  have H3 := Lib.hid h3
  clear o0 hm hr hs hb0 ho0 hm0 V h2 h3
  go_enter Try.func62, Try.ntmps62
  go_wp2_with fail
  (with_reducible refine c.mono ?_)
  clear c
  rintro e w1 ⟨rfl, hm1, ho1⟩
  have c := put_is HV.out hm1 (by decide) H3.out
  go_wp2_with fail
  (with_reducible refine c.mono ?_)
  clear c
  rintro e w2 ⟨rfl, hm2, ho2⟩
  have ho := ho1.trans ho2
  obtain ⟨k0, k1, k2, f0, f1, f2⟩ := blk3 (ho.blk HB.out.1 HR.out.2)
  have HE := Lib.hid (put3 HV.out hm2 (HB.out.2.trans ho) (Nat.le_refl _) HR.out.1 (.int .i64 0) (.int .i64 n) (.int .i64 0))
  clear hm1 ho1 hm2 ho2 ho
  go_wp2_with fail
  refine bodyPost_ret (v := replyV n 0) (by simp [results, Try.results62, go_sem, k0, k1, k2, replyV]) rfl ⟨rfl, HE.out.1, HE.out.2⟩
set_option maxRecDepth 100000 in
theorem vnwait_is (V : VOk M T v fR fW Mem Ok S R) (hm : Mem w s) {o t n x : Int} {q : Bool} {s1 : σ} (h : (nwaitP o t).run M s = ((n, q, x), s1)) :
    Calls Try.prog 22 #[.iface T v, .int .i64 o, .int .i64 t] w fun e w' => e = .returned (.tuple #[replyV n 0, .bool q, errV x]) ∧ Mem w' s1 ∧ Only S w w' := by
  unfold nwaitP at h
  obtain ⟨qo, hqo⟩ : ∃ q, objB o 0 = q := ⟨_, rfl⟩
  obtain ⟨qt, hqt⟩ : ∃ q, objB t 0 = q := ⟨_, rfl⟩
  have cO := Lib.hid (nis_is hqo)
  have cT := Lib.hid (nis_is hqt)
  rw [hqo, hqt] at h
  have hr : w.heap.size ∉ R := V.fresh hm (Nat.le_refl _)
  have hs : w.heap.size ∉ S := V.freshS hm (Nat.le_refl _)
  have o0 : Only [] w (w.alloc (.cells #[.int .i64 0, .int .i64 0, .int .i64 0] 46)) := (Only.refl [] w).alloc _
  have hm0 := V.only0 hm o0
  have ho0 : Only S w (w.alloc (.cells #[.int .i64 0, .int .i64 0, .int .i64 0] 46)) := (Only.refl S w).alloc _
  have hb0 := Blk.new w 46 #[.int .i64 0, .int .i64 0, .int .i64 0]
  have HR := Lib.hid (And.intro hr hs)
  clear o0 hm hr hs
  cases qo with
  | false =>
    rw [if_neg (by simp), Vp.run_ret] at h
    cases h
    clear hqo hqt
    obtain ⟨k0, k1, k2, f0, f1, f2⟩ := blk3 hb0
    go_enter Try.func22, Try.ntmps22
    go_wp2_with ((with_reducible refine (cO.out _).mono ?_); rintro e w' ⟨rfl, rfl⟩)
    refine bodyPost_ret (v := .tuple #[replyV 0 0, .bool false, errV 2]) (by simp [results, Try.results22, go_sem, k0, k1, k2, replyV, errV]) rfl ⟨rfl, hm0, ho0⟩
  | true =>
    cases qt with
    | false =>
      rw [if_neg (by simp), Vp.run_ret] at h
      cases h
      clear hqo hqt
      obtain ⟨k0, k1, k2, f0, f1, f2⟩ := blk3 hb0
      go_enter Try.func22, Try.ntmps22
      go_wp2_with ((first | (with_reducible refine (cO.out _).mono ?_) | (with_reducible refine (cT.out _).mono ?_)); rintro e w' ⟨rfl, rfl⟩)
      refine bodyPost_ret (v := .tuple #[replyV 0 0, .bool false, errV 2]) (by simp [results, Try.results22, go_sem, k0, k1, k2, replyV, errV]) rfl ⟨rfl, hm0, ho0⟩
    | true =>
      have HB := Lib.hid (And.intro hb0 ho0)
      clear hb0 ho0
      rw [if_pos ⟨rfl, rfl⟩] at h
      obtain ⟨y, s2, h2⟩ : ∃ r s2, (fieldP o 1).run M s = (r, s2) := ⟨_, _, rfl⟩
      rw [Vp.run_bind_is h2] at h
      have c := field_is V hm0 h2
      have HV := Lib.hid V
      clear h2 hm0 V hqo hqt
      by_cases hy : y = 0
      · subst hy
        rw [if_pos rfl] at h
        obtain ⟨s3, h3⟩ : ∃ s3, (eblockP o t 5).run M s2 = ((), s3) := ⟨_, rfl⟩
        rw [Vp.run_bind_is h3, Vp.run_ret] at h
        cases h
        have H := Lib.hid h3
        clear h3
        go_enter Try.func22, Try.ntmps22
        go_wp2_with (first | ((first | (with_reducible refine (cO.out _).mono ?_) | (with_reducible refine (cT.out _).mono ?_)); rintro e w' ⟨rfl, rfl⟩))
        (with_reducible refine c.mono ?_)
        clear c cO cT
        rintro e w1 ⟨rfl, hm1, ho1⟩
        have c := eblock_is HV.out hm1 (by decide) H.out
        go_wp2_with fail
        (with_reducible refine c.mono ?_)
        clear c
        rintro e w2 ⟨rfl, hm2, ho2⟩
        have ho := ho1.trans ho2
        obtain ⟨k0, k1, k2, f0, f1, f2⟩ := blk3 (ho.blk HB.out.1 HR.out.2)
        have HE := Lib.hid (put3 HV.out hm2 (HB.out.2.trans ho) (Nat.le_refl _) HR.out.1 (.int .i64 0) (.int .i64 0) (.int .i64 0))
        clear hm1 ho1 hm2 ho2 ho
        go_wp2_with fail
        refine bodyPost_ret (v := .tuple #[replyV 0 0, .bool false, errV 0]) (by simp [results, Try.results22, go_sem, k0, k1, k2, replyV, errV]) rfl ⟨rfl, HE.out.1, HE.out.2⟩
      · rw [if_neg hy] at h
        obtain ⟨z, s3, h3⟩ : ∃ r s3, (ntakeP o).run M s2 = (r, s3) := ⟨_, _, rfl⟩
        rw [Vp.run_bind_is h3, Vp.run_ret] at h
        cases h
        have H := Lib.hid h3
        clear h3
        go_enter Try.func22, Try.ntmps22
        go_wp2_with (first | ((first | (with_reducible refine (cO.out _).mono ?_) | (with_reducible refine (cT.out _).mono ?_)); rintro e w' ⟨rfl, rfl⟩))
        (with_reducible refine c.mono ?_)
        clear c cO cT
        rintro e w1 ⟨rfl, hm1, ho1⟩
        have c := ntake_is HV.out hm1 H.out
        go_wp2_with fail
        (with_reducible refine c.mono ?_)
        clear c
        rintro e w2 ⟨rfl, hm2, ho2⟩
        have ho := ho1.trans ho2
        obtain ⟨k0, k1, k2, f0, f1, f2⟩ := blk3 (ho.blk HB.out.1 HR.out.2)
        have HE := Lib.hid (put3 HV.out hm2 (HB.out.2.trans ho) (Nat.le_refl _) HR.out.1 (.int .i64 0) (.int .i64 n) (.int .i64 0))
        clear hm1 ho1 hm2 ho2 ho
        go_wp2_with fail
        refine bodyPost_ret (v := .tuple #[replyV n 0, .bool true, errV 0]) (by simp [results, Try.results22, go_sem, k0, k1, k2, replyV, errV]) rfl ⟨rfl, HE.out.1, HE.out.2⟩
end
end Go.Proofs.Ytdkjfalhalepgaa
/- Package ntfn's calls on plain words that tell a sound state (layer 16). -/
namespace Go.Proofs.Ytdkjfalhalepgaa
open Go.RowKit
section
variable {g : Nat} {w : World} {S : RSt} {o t b : Int}
theorem nwait_blocks (hm : MemP g 738 UT w (wordsG S)) (h : Eok S) (ho : NtAt S o) (ht : S.Thr t) (h1 : (S.ob t).state = 1) (hw : (S.ob o).word = 0) :
    Calls Try.prog 22 #[pvw g, .int .i64 o, .int .i64 t] w fun e w' => e = .returned (.tuple #[replyV 0 0, .bool false, .nilIface]) ∧ MemP g 738 UT w' (wordsG (ntwS S o t)) ∧ Only [g] w w' := by
  obtain ⟨L', h2, q⟩ := h.wok.nwait_blocks h ho ht h1 hw
  exact (vnwait_is (viewP g 738 738 UT) hm h2).mono fun e w' ⟨he, hm', ho⟩ => ⟨he, q.words ▸ hm', ho⟩
end
end Go.Proofs.Ytdkjfalhalepgaa
