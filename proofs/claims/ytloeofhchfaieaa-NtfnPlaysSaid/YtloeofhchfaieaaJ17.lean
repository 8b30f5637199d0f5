/- What the document's Wake does (layers 15 to 22). -/
import Derived.Test.YtloeofhchfaieaaRefMid
import Derived.Test.YtloeofhchfaieaaEpS
import Derived.Test.YtloeofhchfaieaaJ11
import Derived.Test.YtloeofhchfaieaaRefNew
import Derived.Test.YtloeofhchfaieaaJ3
import Derived.Deep.AppendSrc
import Derived.Deep.AppendLies
import Derived.Deep.RegionLaw
import Derived.Deep.RegionHeld3
import Derived.OrdersHeld
import Derived.Deep.RegionHeld
import Derived.Test.YtloeofhchfaieaaJ15
import Derived.Test.YtloeofhchfaieaaQueM
import Derived.Test.YtloeofhchfaieaaJ4
import Derived.Test.YtloeofhchfaieaaJ12
import Derived.Test.YtloeofhchfaieaaJ5
import Derived.Test.YtloeofhchfaieaaJ6
import Derived.Test.YtloeofhchfaieaaRows
import Derived.Test.YtloeofhchfaieaaLaw
import Derived.Test.YtloeofhchfaieaaJ1
import Derived.Test.YtloeofhchfaieaaJ16
import Derived.KernelRfl
namespace Go.Proofs.Ytloeofhchfaieaa
open Go.RowKit
section
variable {w w' : World} {p gs go : Nat} {S : RSt}
/-- one field of an object is put, as it lies and in the state -/
theorem RefAt.setF1 (h : RefM w p gs go S) {i j : Nat} (hi : i < 32) (hj : j < 32) (v : Value) (f : RObj → RObj) (hx : ∀ (x : RObj) (qv : Value), (objRow x qv).set j v = objRow (f x) qv) (hq : ∀ x : RObj, (f x).queue = x.queue) :
    RefM (w.setCell ⟨go, i * 32 + j, none⟩ v) p gs go (S.upO (i : Int) f) ∧ Only [go] w (w.setCell ⟨go, i * 32 + j, none⟩ v) :=
  h.setField (by decide) (by decide) (by decide) hi hj v (f (S.ob (i : Int))) (fun qv => hx _ qv) (hq _)
set_option maxRecDepth 100000 in
theorem rwake_any (h : RefM w p gs go S) {t : Nat} (ht : t < 32) (n b : Int) :
    Calls Try.prog 27 #[.pointer (some ⟨p, 0, none⟩), .int .i64 t, .int .i64 n, .int .i64 b] w fun e w' => e = .returned (.tuple #[]) ∧ RefM w' p gs go (wakeS S t n b) ∧ Only [go] w w' := by
  have h0 : (0 : Int) ≤ (t : Int) := by omega
  have h1 : (t : Int) < 32 := by omega
  obtain ⟨co, c1⟩ := h.cObjs
  obtain ⟨v, e, f⟩ := h.fld (j := 8) ht (by omega)
  have q1 := h.setF1 ht (j := 8) (by omega) (.int .i64 1) (fun x => { x with state := 1 }) (fun _ _ => rfl) (fun _ => rfl)
  have H1 := Lib.hid q1
  clear q1
  go_enter Try.func27, Try.ntmps27
  go_upto_region 1 with fail
  obtain ⟨w1, hw1⟩ : ∃ X, Hid (X = w.setCell ⟨go, t * 32 + 8, none⟩ (.int .i64 1)) := ⟨_, Lib.hid rfl⟩
  rw [← hw1.out] at H1 ⊢
  clear c1 e f hw1
  obtain ⟨co, c1⟩ := H1.out.1.cObjs
  obtain ⟨v, e, f⟩ := H1.out.1.fld (j := 7) ht (by omega)
  have q2 := H1.out.1.setF1 ht (j := 7) (by omega) (.int .i64 n) (fun x => { x with word := n }) (fun _ _ => rfl) (fun _ => rfl)
  have H2 := Lib.hid (And.intro q2.1 (H1.out.2.trans q2.2))
  clear q2
  go_upto_region 2 with fail
  obtain ⟨w2, hw2⟩ : ∃ X, Hid (X = w1.setCell ⟨go, t * 32 + 7, none⟩ (.int .i64 n)) := ⟨_, Lib.hid rfl⟩
  rw [← hw2.out] at H2 ⊢
  clear c1 e f hw2
  obtain ⟨co, c1⟩ := H2.out.1.cObjs
  obtain ⟨v, e, f⟩ := H2.out.1.fld (j := 10) ht (by omega)
  have q3 := H2.out.1.setF1 ht (j := 10) (by omega) (.int .i64 b) (fun x => { x with badge := b }) (fun _ _ => rfl) (fun _ => rfl)
  have H3 := Lib.hid (And.intro q3.1 (H2.out.2.trans q3.2))
  clear q3
  go_upto_region 3 with fail
  obtain ⟨w3, hw3⟩ : ∃ X, Hid (X = w2.setCell ⟨go, t * 32 + 10, none⟩ (.int .i64 b)) := ⟨_, Lib.hid rfl⟩
  rw [← hw3.out] at H3 ⊢
  clear c1 e f hw3
  obtain ⟨co, c1⟩ := H3.out.1.cObjs
  obtain ⟨v, e, f⟩ := H3.out.1.fld (j := 12) ht (by omega)
  have q4 := H3.out.1.setF1 ht (j := 12) (by omega) (.int .i64 (-1)) (fun x => { x with on := -1 }) (fun _ _ => rfl) (fun _ => rfl)
  have H4 := Lib.hid (And.intro q4.1 (H3.out.2.trans q4.2))
  clear q4
  go_wp2_with fail
  go_end0
  refine ⟨rfl, ?_, H4.out.2⟩
  have e : (((S.upO (t : Int) fun x => { x with state := 1 }).upO (t : Int) fun x => { x with word := n }).upO (t : Int) fun x => { x with badge := b }).upO (t : Int) (fun x => { x with on := -1 }) = wakeS S t n b :=
    RSt.ext' rfl rfl rfl (fun i => by
      simp only [wakeS, upO_at]
      by_cases e : i = (t : Int)
      · simp [e]
      · simp [e]) rfl rfl
  rw [← e]
  exact H4.out.1
end
end Go.Proofs.Ytloeofhchfaieaa
/- is, Cost of the document's state (layers 13 to 21). -/
namespace Go.Proofs.Ytloeofhchfaieaa
open Go.RowKit
section
variable {w : World} {p gs go : Nat} {S : RSt}
/-- an object's field's cell -/
theorem RefAt.cObj (h : RefM w p gs go S) {i : Nat} (hi : i < 32) : ∃ A cp, (∀ j v, (objRow (S.ob i) (.slice A (S.ob i).queue.length cp))[j]? = some v → w.cell? ⟨go, i * 32 + j, none⟩ = some v) ∧ RowN w A ItT irow' 1 (S.ob i).queue := h.obj hi
theorem ris_any (h : RefM w p gs go S) (i k : Int) : Calls Try.prog 29 #[.pointer (some ⟨p, 0, none⟩), .int .i64 i, .int .i64 k] w fun e w' => e = .returned (.bool (isO S i k)) ∧ w = w' := by
  by_cases h0 : i < 0
  · have e : isO S i k = false := by simp [isO]; omega
    rw [e]
    clear e
    go_enter Try.func29, Try.ntmps29
    go_wp2
    go_ret
    exact ⟨rfl, rfl⟩
  by_cases h1 : 31 < i
  · have e : isO S i k = false := by simp [isO]; omega
    rw [e]
    clear e
    go_enter Try.func29, Try.ntmps29
    go_wp2
    go_ret
    exact ⟨rfl, rfl⟩
  obtain ⟨n, rfl⟩ : ∃ n : Nat, i = n := ⟨i.toNat, by omega⟩
  have hn : n < 32 := by omega
  have hn0 : (0 : Int) ≤ (n : Int) := by omega
  have hn9 : (n : Int) < 32 := by omega
  obtain ⟨co, c1⟩ := h.cObjs
  obtain ⟨A, cp, hrow, -⟩ := h.cObj hn
  have r0 := hrow 0 _ rfl
  rw [Nat.add_zero] at r0
  have e : isO S n k = ((S.ob n).kind == k) := by
    unfold isO
    by_cases hk : (S.ob n).kind = k
    · rw [hk]; simp; omega
    · simp [hk]
  rw [e]
  clear e hrow
  go_enter Try.func29, Try.ntmps29
  go_wp2
  go_ret
  exact ⟨rfl, rfl⟩
theorem ris_is (h : RefM w p gs go S) {i k : Int} {q : Bool} (e : isO S i k = q) : Calls Try.prog 29 #[.pointer (some ⟨p, 0, none⟩), .int .i64 i, .int .i64 k] w fun e w' => e = .returned (.bool q) ∧ w = w' := e ▸ ris_any h i k
end
end Go.Proofs.Ytloeofhchfaieaa
/- append of a list of numbers, nil let in, onto numbers of one's own: in a plain region, and as a step of a region that draws. No dump is read here. -/
namespace Go.Proofs.Ytloeofhchfaieaa
open Go.RowKit
theorem addr_plus {b off j : Nat} : (⟨b, off, none⟩ : Addr).add j = ⟨b, off + j, none⟩ := by
  unfold Addr.add
  split
  · next h => simp [h]
  · rfl
section
variable {P : Program} (w : World)
theorem wp_append_nums {o : Oper} {a : Act} {K : Act → World → Prop} {Q : Exit → Act → World → Prop} (s x : Operand) (t : TypeId)
    (ho : o.op = .call { callee := .builtin .append, args := #[s, x], argTypes := #[t, t] })
    (base : Nat) (e ti : TypeId) (i : TypeInfo) (z : Value) (ht : P.underlying t = some (.slice e)) (hi : P.info? e = some i) (hz : i.zero = some z) (hsize : i.size = 1) (hby : i.bytes = 8) (hzs : z.cells.size = 1)
    (E m0 : Nat) (xs : List Value) (hs : a.eval s = .slice (some ⟨E, 0, none⟩) m0 m0) (hown : w.ownsRow base e 1 (.slice (some ⟨E, 0, none⟩) m0 m0) m0 xs)
    (A : Option Addr) (L : List Int) (cp : Nat) (hx : a.eval x = .slice A L.length cp) (hL : RowN w A ti irow' 1 L) (hl : L.length ≤ 1000) (hm0 : m0 ≤ 1000) (hbase : base ≤ w.heap.size)
    (h : ∀ v' w', w'.ownsRow base e 1 v' (m0 + L.length) (xs ++ L.flatMap irow') → w.grownBy w' (some E) → K (a.put o.dst v') w') : o.wp P a w K Q := by
  cases A with
  | some ad =>
    have hlen : (L.flatMap irow').length = L.length * 1 := by
      have := flat_size (f := irow') (L := L) irow'_len
      simpa [flat] using this
    have hcell : ∀ j u, (L.flatMap irow')[j]? = some u → w.cell? (ad.add j) = some u := fun j u hj => by
      have hjl := (List.getElem?_eq_some_iff.1 hj).1
      rw [hlen, Nat.mul_one] at hjl
      obtain ⟨y, hy⟩ : ∃ y, L[j]? = some y := ⟨_, List.getElem?_eq_getElem hjl⟩
      obtain ⟨g, cur, e1, hb, hc⟩ := hL j y hy
      injection e1 with e1
      subst e1
      have e2 := flat_get (f := irow') (L := L) irow'_len j 0 (by omega)
      rw [hy] at e2
      have e3 : (L.flatMap irow')[j]? = some (.int .i64 y) := by simpa [flat, irow'] using e2
      rw [e3] at hj
      cases hj
      rw [addr_plus, Nat.zero_add, hb.cell]
      have := hc 0 _ rfl
      simpa using this
    refine wp_append_own w s x t ho base e i z 1 8 ht hi hz hsize hby hzs (by omega) _ m0 xs hs hown ad L.length cp (L.flatMap irow') hx hlen hcell (fun u hu => ?_) (by unfold maxLen; omega) (by omega) hbase ?_
    · obtain ⟨y, -, hy⟩ := List.mem_flatMap.1 hu
      simp only [irow', List.mem_cons, List.not_mem_nil, or_false] at hy
      subst hy
      rfl
    · intro v' w' h1 h2 _
      exact h v' w' h1 h2
  | none =>
    obtain rfl : L = [] := by
      cases L with
      | nil => rfl
      | cons y L => obtain ⟨g, cur, e1, _⟩ := hL 0 y rfl; cases e1
    have hrun := run_append_room_src w t t o.type e i ht hi E 0 m0 m0 (.slice none 0 cp) 0 [] (by rw [hsize]; exact Src.ofNil w ht cp) (Nat.le_refl _) (fun j hj => by simp at hj) (fun j hj => by simp at hj)
    unfold Oper.wp execOp
    have hx' : a.eval x = .slice none 0 cp := hx
    simp [ho, resolve, invoke, builtin, hs, hx', hrun]
    exact h _ _ (by simpa [World.setCells] using hown) ⟨rfl, rfl, rfl, Nat.le_refl _, fun _ _ _ => rfl⟩
theorem step_append_nums {ops : Array Oper} {o : Oper} {a : Act} {K : Act → World → Prop} {Q : Exit → Act → World → Prop} {B : Prop} (hgd : o.guard = none) (s x : Operand) (t : TypeId)
    (ho : o.op = .call { callee := .builtin .append, args := #[s, x], argTypes := #[t, t] })
    (base : Nat) (e ti : TypeId) (i : TypeInfo) (z : Value) (ht : P.underlying t = some (.slice e)) (hi : P.info? e = some i) (hz : i.zero = some z) (hsize : i.size = 1) (hby : i.bytes = 8) (hzs : z.cells.size = 1)
    (E m0 : Nat) (xs : List Value) (hs : a.eval s = .slice (some ⟨E, 0, none⟩) m0 m0) (hown : w.ownsRow base e 1 (.slice (some ⟨E, 0, none⟩) m0 m0) m0 xs)
    (A : Option Addr) (L : List Int) (cp : Nat) (hx : a.eval x = .slice A L.length cp) (hL : RowN w A ti irow' 1 L) (hl : L.length ≤ 1000) (hm0 : m0 ≤ 1000) (hbase : base ≤ w.heap.size)
    (h : ∀ v' w', w'.ownsRow base e 1 v' (m0 + L.length) (xs ++ L.flatMap irow') → w.grownBy w' (some E) → K (a.put o.dst v') w') :
    if Region.wanted o (yielded ops a.tmps) = true then Oper.wp P o a w K Q else B := by
  have hw : Region.wanted o (yielded ops a.tmps) = true := by simp [Region.wanted, hgd]
  rw [if_pos hw]
  exact wp_append_nums w s x t ho base e ti i z ht hi hz hsize hby hzs E m0 xs hs hown A L cp hx hL hl hm0 hbase h
end
end Go.Proofs.Ytloeofhchfaieaa
/- What the document's Ready, Poll answer; its pop, Block, and that a list is put as a queue (layers 15 to 22). -/
namespace Go.Proofs.Ytloeofhchfaieaa
open Go.RowKit
section
variable {w w' : World} {p gs go : Nat} {S : RSt}
/-- a queue is put, as it lies and in the state -/
theorem RefAt.setQ (h : RefM w p gs go S) {i : Nat} (hi : i < 32) {v : Value} {l : List Int} (hv : NumsC w ItT v l) :
    RefM (w.setCell ⟨go, i * 32 + 6, none⟩ v) p gs go (queueS S i l) ∧ Only [go] w (w.setCell ⟨go, i * 32 + 6, none⟩ v) :=
  h.setQueue (by decide) (by decide) (by decide) hi hv
/-- a queue's slice, as it lies -/
theorem RefAt.cQueue (h : RefM w p gs go S) {i : Nat} (hi : i < 32) : ∃ A cp, w.cell? ⟨go, i * 32 + 6, none⟩ = some (.slice A (S.ob i).queue.length cp) ∧ RowN w A ItT irow' 1 (S.ob i).queue ∧ (S.ob i).queue.length ≤ cp := by
  obtain ⟨-, -, ⟨cur, h2, h3⟩⟩ := h
  obtain ⟨qv, q1, A, cp, rfl, q2, q3⟩ := h3 i hi
  exact ⟨A, cp, by rw [h2.cell]; exact q1 6 _ rfl, q2, q3⟩
set_option maxRecDepth 100000 in
theorem rready_any (h : RefM w p gs go S) (t : Int) : Calls Try.prog 11 #[.pointer (some ⟨p, 0, none⟩), .int .i64 t] w fun e w' => e = .returned (.bool (isO S t 5 && decide ((S.ob t).state = 1))) ∧ w' = w := by
  obtain ⟨q, hq⟩ : ∃ q, isO S t 5 = q := ⟨_, rfl⟩
  have cI := ris_is h hq
  cases q with
  | false =>
    rw [hq]
    go_enter Try.func11, Try.ntmps11
    go_wp2_with ((with_reducible refine cI.mono ?_); clear cI; rintro e w' ⟨rfl, hw⟩; subst hw)
    go_ret
    exact ⟨rfl, rfl⟩
  | true =>
    obtain ⟨n, rfl, hn, -⟩ := isO_yes hq
    obtain ⟨A, cp, hc, -⟩ := h.obj hn
    have c8 : w.cell? ⟨go, n * 32 + 8, none⟩ = some (.int .i64 (S.ob (n : Int)).state) := hc 8 _ rfl
    obtain ⟨co, c1⟩ := h.cObjs
    rw [hq]
    have h0 : (0 : Int) ≤ (n : Int) := by omega
    have h1 : (n : Int) < 32 := by omega
    clear hc hq
    go_enter Try.func11, Try.ntmps11
    go_wp2_with ((with_reducible refine cI.mono ?_); clear cI; rintro e w' ⟨rfl, hw⟩; subst hw)
    go_ret
    refine ⟨?_, rfl⟩
    by_cases e : (S.ob (n : Int)).state = 1 <;> simp [e]
set_option maxRecDepth 100000 in
theorem rpoll_any (h : RefM w p gs go S) {o : Nat} (ho : o < 32) : Calls Try.prog 15 #[.pointer (some ⟨p, 0, none⟩), .int .i64 o] w fun e w' => e = .returned (.int .i64 (S.ob o).word) ∧ RefM w' p gs go (wordS S o 0) ∧ Only [go] w w' := by
  have h0 : (0 : Int) ≤ (o : Int) := by omega
  have h1 : (o : Int) < 32 := by omega
  obtain ⟨co, c1⟩ := h.cObjs
  obtain ⟨A, cp, hc, -⟩ := h.obj ho
  have c8 : w.cell? ⟨go, o * 32 + 7, none⟩ = some (.int .i64 (S.ob (o : Int)).word) := hc 7 _ rfl
  obtain ⟨v, -, f⟩ := h.fld (j := 7) ho (by omega)
  have H1 := Lib.hid (h.setF1 ho (j := 7) (by omega) (.int .i64 0) (fun x => { x with word := 0 }) (fun _ _ => rfl) (fun _ => rfl))
  clear hc
  go_enter Try.func15, Try.ntmps15
  go_wp2_with fail
  go_ret
  exact ⟨rfl, H1.out⟩
end
end Go.Proofs.Ytloeofhchfaieaa
/- A region that draws its order, whose last operation waits for all others: the others are walked first, in whatever order, with a fact held; the last one behind them. No dump is read here. -/
namespace Go.Proofs.Ytloeofhchfaieaa
open Go
section
variable {P : Program} {ops : Array Oper} {Q : Exit → Act → World → Prop} {md : Region.Mode} {S : World → Prop} {l : Nat}
/-- what is wanted behind all but the last one -/
def lastQ (P : Program) (ops : Array Oper) (l : Nat) (Q : Exit → Act → World → Prop) : Exit → Act → World → Prop
  | .normal, a, w => wpOp P ops Q l (fun a w => Q .normal a w) a w
  | .exit n, a, w => Q (.exit n) a w
  | .goto n, a, w => Q (.goto n) a w
  | .ret, a, w => Q .ret a w
  | .panic c, a, w => Q (.panic c) a w
  | .outgrown, a, w => Q .outgrown a w
theorem lastQ_intro {o : Oper} {a : Act} {w : World} (hi : ops[l]? = some o) (hg : o.guard = none) (h : o.wp P a w (fun a w => Q .normal a w) Q) : lastQ P ops l Q .normal a w := by
  show wpOp P ops Q l _ a w
  have hw : Region.wanted o (yielded ops a.tmps) = true := by simp [Region.wanted, hg]
  unfold wpOp
  simp only [hi, hw, if_true]
  exact .inl h
theorem opwp_last {o : Oper} {K : Act → World → Prop} {a : Act} {w : World} (h : o.wp P a w K (lastQ P ops l Q)) : o.wp P a w K Q := by
  unfold Oper.wp at *
  generalize (execOp a.eval o).run P w = r at *
  cases r with
  | ok n w' =>
    cases n <;> simp only [Oper.upon] at h ⊢ <;>
      first
        | exact h
        | exact Calls.mono h (fun e w'' he => by cases e <;> exact he)
  | halt x w' => cases x <;> simp only [Oper.upon] at h ⊢ <;> exact h
theorem wpOp_last {i : Nat} {K : Act → World → Prop} {a : Act} {w : World} (h : wpOp P ops (lastQ P ops l Q) i K a w) : wpOp P ops Q i K a w := by
  unfold wpOp at *
  split
  · next h0 => simpa [h0] using h
  · next o ho =>
    simp only [ho] at h
    split
    · next hw => simp only [hw, if_true] at h; exact h.imp opwp_last id
    · next hw => simp only [hw] at h; exact h
/-- each operation waits for elder ones alone; each but the last one is waited for -/
def orderedB (md : Region.Mode) (ops : Array Oper) : Bool :=
  (List.range ops.size).all fun j => match ops[j]? with
    | none => false
    | some o => o.after.all fun e => !Region.binds md e || decide (e.on < j)
def waitedB (md : Region.Mode) (ops : Array Oper) : Bool :=
  (List.range (ops.size - 1)).all fun j => (List.range ops.size).any fun k => decide (j < k) && match ops[k]? with
    | none => false
    | some o => o.after.any fun e => Region.binds md e && e.on == j
theorem ordered_of (h : orderedB md ops = true) {j : Nat} {o : Oper} (ho : ops[j]? = some o) : ∀ e ∈ o.after, Region.binds md e = true → e.on < j := by
  intro e he hb
  have h1 := List.all_eq_true.1 h j (List.mem_range.2 (Array.getElem?_eq_some_iff.1 ho).1)
  simp only [ho] at h1
  have h2 := Array.all_eq_true_iff_forall_mem.1 h1 e he
  simpa [hb] using h2
theorem waited_of (h : waitedB md ops = true) {j : Nat} (hj : j < ops.size - 1) : ∃ k o, j < k ∧ ops[k]? = some o ∧ ∃ e ∈ o.after, Region.binds md e = true ∧ e.on = j := by
  have h1 := List.all_eq_true.1 h j (List.mem_range.2 hj)
  obtain ⟨k, hk, h2⟩ := List.any_eq_true.1 h1
  have hks := List.mem_range.1 hk
  obtain ⟨h3, h4⟩ := Bool.and_eq_true_iff.1 h2
  have ho : ops[k]? = some ops[k] := Array.getElem?_eq_getElem hks
  rw [ho] at h4
  dsimp only at h4
  rw [← Array.any_toList] at h4
  obtain ⟨e, he, h5⟩ := List.any_eq_true.1 h4
  replace he : e ∈ ops[k].after := by simpa using he
  obtain ⟨h6, h7⟩ := Bool.and_eq_true_iff.1 h5
  exact ⟨k, ops[k], of_decide_eq_true h3, ho, e, he, h6, by simpa using h7⟩
/-- what has come up has all that it waits for -/
def DownC (md : Region.Mode) (ops : Array Oper) (listed : Array Bool) : Prop :=
  ∀ (j : Nat) (o : Oper), ops[j]? = some o → listed.getD j false = true → ∀ e ∈ o.after, Region.binds md e = true → listed.getD e.on false = true
theorem DownC.set {listed : Array Bool} {i : Nat} (h : DownC md ops listed) (hi : i ∈ Region.ready md ops listed) : DownC md ops (listed.setIfInBounds i true) := fun j o ho hj e he hb => by
  obtain ⟨-, oi, hoi, hall⟩ := mem_ready.1 hi
  by_cases hij : i = j
  · subst hij
    rw [hoi] at ho
    cases ho
    exact getD_set_true (hall e he hb)
  · rw [getD_set_ne false hij] at hj
    exact getD_set_true (h j o ho hj e he hb)
variable {listed : Array Bool}
theorem listed_true {n j : Nat} (hs : listed.size = n) (hj : j < n) (h : ¬ listed.getD j true = false) : listed.getD j false = true := by
  have hj' : j < listed.size := by omega
  simp [hj'] at h ⊢
  exact h
/-- nothing but the last one may come up: it may -/
theorem last_ready (hl : l + 1 = ops.size) (hs : listed.size = ops.size) (hord : orderedB md ops = true) (hnl : listed.getD l true = false) (h0 : Region.ready md ops (listed.setIfInBounds l true) = []) :
    l ∈ Region.ready md ops listed ∧ ∀ j, j < l → listed.getD j false = true := by
  have all : ∀ j, j < l → listed.getD j false = true := by
    intro j
    induction j using Nat.strongRecOn with
    | _ j ih =>
      intro hj
      refine Classical.byContradiction fun hn => ?_
      have hun : listed.getD j true = false := by
        refine Classical.byContradiction fun h => hn (listed_true hs (by omega) h)
      have hjo : ops[j]? = some (ops[j]'(by omega)) := Array.getElem?_eq_getElem (by omega)
      have : j ∈ Region.ready md ops (listed.setIfInBounds l true) := by
        rw [mem_ready]
        refine ⟨by rw [getD_set_ne true (by omega)]; exact hun, _, hjo, fun e he hb => ?_⟩
        have hlt := ordered_of hord hjo e he hb
        exact getD_set_true (ih e.on hlt (by omega))
      rw [h0] at this
      cases this
  have hlo : ops[l]? = some (ops[l]'(by omega)) := Array.getElem?_eq_getElem (by omega)
  exact ⟨mem_ready.2 ⟨hnl, _, hlo, fun e he hb => all e.on (ordered_of hord hlo e he hb)⟩, all⟩
/-- the last one may come up: all others have -/
theorem last_all (hl : l + 1 = ops.size) (hw : waitedB md ops = true) (hd : DownC md ops listed) (hr : l ∈ Region.ready md ops listed) : ∀ j, j < l → listed.getD j false = true := by
  obtain ⟨-, ol, hol, hall⟩ := mem_ready.1 hr
  have q : ∀ n j, l - j ≤ n → j < l → listed.getD j false = true := by
    intro n
    induction n with
    | zero => intro j h1 h2; omega
    | succ n ih =>
      intro j h1 h2
      obtain ⟨k, o, hjk, hk, e, he, hb, hej⟩ := waited_of hw (j := j) (by omega)
      have hks := (Array.getElem?_eq_some_iff.1 hk).1
      by_cases e' : k = l
      · subst e'
        rw [hk] at hol
        cases hol
        have := hall e he hb
        rwa [hej] at this
      · have := hd k o hk (ih k (by omega) (by omega)) e he hb
        rwa [hej] at this
  exact fun j hj => q (l - j) j (Nat.le_refl _) hj
theorem ready_less {i : Nat} (hl : l + 1 = ops.size) (hord : orderedB md ops = true) (hnl : listed.getD l true = false) (hi : i ∈ Region.ready md ops (listed.setIfInBounds l true)) : i ∈ Region.ready md ops listed ∧ i ≠ l := by
  obtain ⟨h1, o, ho, hall⟩ := mem_ready.1 hi
  have his := (Array.getElem?_eq_some_iff.1 ho).1
  have hne : i ≠ l := fun e => by
    subst e
    rcases Nat.lt_or_ge i listed.size with h' | h'
    · simp [h'] at h1
    · simp [Array.getElem?_eq_none h'] at hnl
  rw [getD_set_ne true (Ne.symm hne)] at h1
  refine ⟨mem_ready.2 ⟨h1, o, ho, fun e he hb => ?_⟩, hne⟩
  have hlt := ordered_of hord ho e he hb
  have := hall e he hb
  rwa [getD_set_ne false (by omega)] at this
theorem wpAny_last (hl : l + 1 = ops.size) (hord : orderedB md ops = true) (hw : waitedB md ops = true) : ∀ (fuel : Nat) (listed : Array Bool) (a : Act) (w : World), DownC md ops listed → listed.size = ops.size → listed.getD l true = false →
    wpAny P md ops (lastQ P ops l Q) fuel (listed.setIfInBounds l true) a w → wpAny P md ops Q (fuel + 1) listed a w := by
  intro fuel
  induction fuel with
  | zero =>
    intro listed a w hd hs hnl H
    obtain ⟨h0, hQ⟩ := H
    obtain ⟨hlr, -⟩ := last_ready hl hs hord hnl h0
    refine ⟨fun h => (by rw [h] at hlr; cases hlr), fun i hi => ?_⟩
    by_cases hil : i = l
    · subst hil
      exact wpOp_mono (fun a' w' h => ⟨h0, h⟩) hQ
    · have := ready_mono hi hil
      rw [h0] at this
      cases this
  | succ fuel ih =>
    intro listed a w hd hs hnl H
    refine ⟨fun h => ?_, fun i hi => ?_⟩
    · have h0 : Region.ready md ops (listed.setIfInBounds l true) = [] := by
        refine List.eq_nil_iff_forall_not_mem.2 fun i hi => ?_
        have := (ready_less hl hord hnl hi).1
        rw [h] at this
        cases this
      have := (last_ready hl hs hord hnl h0).1
      rw [h] at this
      cases this
    · by_cases hil : i = l
      · subst hil
        have hall := last_all hl hw hd hi
        have h0 : Region.ready md ops (listed.setIfInBounds i true) = [] := by
          refine List.eq_nil_iff_forall_not_mem.2 fun j hj => ?_
          obtain ⟨hjr, hne⟩ := ready_less hl hord hnl hj
          obtain ⟨h1, o, ho, -⟩ := mem_ready.1 hjr
          have hjs := (Array.getElem?_eq_some_iff.1 ho).1
          have h2 := hall j (by omega)
          have hj' : j < listed.size := by omega
          simp [hj'] at h1 h2
          rw [h1] at h2
          cases h2
        exact wpOp_mono (fun a' w' h => ⟨fun _ => h, fun j hj => by rw [h0] at hj; cases hj⟩) (H.1 h0)
      · have h2 := wpOp_last (H.2 i (ready_mono hi hil))
        refine wpOp_mono (fun a' w' h => ih (listed.setIfInBounds i true) a' w' (hd.set hi) (by simpa using hs) (by rw [getD_set_ne true hil]; exact hnl) ?_) h2
        rw [Array.setIfInBounds_comm _ _ hil]
        exact h
theorem wp_region_last {id : Nat} {a : Act} {w : World} (l : Nat) (hm : P.follows .mixedOrders = true) (hl : l + 1 = ops.size) (hord : orderedB .any ops = true) (hw : waitedB .any ops = true) (hS : S w.drew)
    (h : S w.drew → wpAnyH P .any ops (lastQ P ops l Q) S l ((Array.replicate ops.size false).setIfInBounds l true) a w.drew) : (Code.region id ops true).wp P Q a w := by
  refine wp_region_any hm ?_
  have hll : l < ops.size := by omega
  have q := wpAny_last (P := P) (Q := Q) hl hord hw l (Array.replicate ops.size false) a w.drew (fun j o _ hj => by
    by_cases hlt : j < ops.size
    · simp [hlt] at hj
    · simp [hlt] at hj) (by simp) (by simp [hll]) (wpAny_of_held _ _ _ _ (h hS))
  rw [← hl]
  rw [← hl] at q
  exact q
end
end Go.Proofs.Ytloeofhchfaieaa
/- What lies in QueuePlays' walk: the words, the lists beside them (layer 14). -/
namespace Go.Proofs.Ytloeofhchfaieaa
open Go.RowKit
theorem rowN_snoc {w : World} {base n cap : Nat} {A : Option Addr} {l : List Int} {x : Int} (h : w.ownsRow base ItT 1 (.slice A n cap) (l.length + 1) (l.flatMap irow' ++ [.int .i64 x])) : RowN w A ItT irow' 1 (l ++ [x]) := by
  have e1 : (l ++ [x]).length = l.length + 1 := by simp
  have e2 : (l ++ [x]).flatMap irow' = l.flatMap irow' ++ [.int .i64 x] := by simp [irow']
  rw [← e1, ← e2] at h
  obtain ⟨A', cp', e, hR⟩ := RowN.of_owns irow'_len h
  injection e with e1 e2 e3
  subst e1
  exact hR
theorem own_cap {w : World} {base n cap size : Nat} {e : TypeId} {A : Option Addr} {xs : List Value} (h : w.ownsRow base e size (.slice A n cap) n xs) : n ≤ cap ∧ cap ≤ maxLen := by
  rcases h.2 with ⟨h1, h2⟩ | ⟨g, cap', cur, h1, -, -, h4, h5, -⟩
  · injection h1 with e1 e2 e3
    subst e2 e3
    exact ⟨Nat.le_refl _, Nat.zero_le _⟩
  · injection h1 with e1 e2 e3
    subst e3
    exact ⟨h4, h5⟩
end Go.Proofs.Ytloeofhchfaieaa
