/- Capabilities by addresses, as mathematics (layer 11): a slot's capability, a CNode, what is looked up; on plain words. No dump is read here. -/
import Derived.Test.YtlhcigpllkigdaaJ1
import Derived.Test.YtlhcigpllkigdaaPackM
import Derived.Test.YtlhcigpllkigdaaGuardM
import Derived.Test.YtlhcigpllkigdaaRows
import Derived.WalkKit
import Derived.WalkSpells
import Derived.WalkLawsBesides
import Derived.Handy
import Derived.BigQuiet
import Derived.Deep.QuietTactic
import Derived.RegionTactic
import Derived.Lib.Hide
import Derived.Deep.Light
namespace Go.Proofs.Ytlhcigpllkigdaa
open Go.RowKit
/-- a word as a capability: Null if it is none -/
def getC (w : Int) : Cp := if (Cp.of w).may then Cp.of w else Cp.zero
def capP (i : Int) : Vp Cp := if slotB i 0 = true then .rd (slotI i 0) fun w => .ret (getC w) else .ret Cp.zero
/-- a capability is put: an error's number -/
def csetP (i : Int) (c : Cp) : Vp Int := if slotB i 0 = true then (if c.may then .wr (slotI i 0) c.word (.ret 0) else .ret 1) else .ret 2
theorem word_u64 {c : Cp} (h : c.may) : U64 c.word := by
  have hw := Cp.word_lt h.small
  obtain ⟨h1, h2, h3, h4, h5, h6, h7, h8, h9, h10, h11, h12⟩ := h.small
  unfold Cp.word at hw ⊢
  exact ⟨by omega, by omega⟩
/-- where a CNode's slots begin, its radix, whether it is fine -/
def nodeN (a r : Int) : Int × Int × Bool := if 5 < r ∨ 96 - 2 ^ r.toNat < a then (0, 0, false) else (a, r, true)
def nodeP (c : Cp) : Vp (Int × Int × Bool) :=
  if c.kind = 2 then (isP c.obj 2).bind fun q => if q = true then (fieldP c.obj 1).bind fun a => (fieldP c.obj 2).bind fun r => .ret (nodeN a r) else .ret (0, 0, false) else .ret (0, 0, false)
def fineP (c : Cp) : Vp Bool := (nodeP c).bind fun x => .ret x.2.2
/-- so many steps at most: the slot, and an error's number -/
def goP (addr : Int) : Nat → Cp → Int → Vp (Int × Int)
  | 0, _, _ => .ret (0, 4)
  | n + 1, c, l => (nodeP c).bind fun x =>
    if x.2.2 = false then .ret (0, 4)
    else if (walkP addr l c.guard c.bits x.2.1).2.2 ≠ 0 then .ret (0, (walkP addr l c.guard c.bits x.2.1).2.2)
    else if (walkP addr l c.guard c.bits x.2.1).2.1 = 0 then .ret (x.1 + (walkP addr l c.guard c.bits x.2.1).1, 0)
    else (capP (x.1 + (walkP addr l c.guard c.bits x.2.1).1)).bind fun d => goP addr n d (walkP addr l c.guard c.bits x.2.1).2.1
def lookP (c : Cp) (addr : Int) : Vp (Int × Int) := if addr < 0 ∨ 65536 ≤ addr then .ret (0, 1) else (fineP c).bind fun q => if q = true then goP addr 16 c 16 else .ret (0, 5)
theorem pw5 {r : Int} (h0 : 0 ≤ r) (h : r ≤ 5) : 1 ≤ (2 : Int) ^ r.toNat ∧ (2 : Int) ^ r.toNat ≤ 32 := by
  obtain ⟨k, rfl⟩ : ∃ k : Nat, r = k := ⟨r.toNat, by omega⟩
  have hk : k ≤ 5 := by omega
  rw [Int.toNat_natCast]
  match k, hk with
  | 0, _ => decide
  | 1, _ => decide
  | 2, _ => decide
  | 3, _ => decide
  | 4, _ => decide
  | 5, _ => decide
theorem nodeN_no {a r : Int} (h : 5 < r ∨ 96 - 2 ^ r.toNat < a) : nodeN a r = (0, 0, false) := if_pos h
theorem nodeN_yes {a r : Int} (h : r ≤ 5) (h' : a ≤ 96 - 2 ^ r.toNat) : nodeN a r = (a, r, true) := if_neg (by omega)
/-- what a fine CNode tells is in range -/
def NodeOk (x : Int × Int × Bool) : Prop := (x.2.2 = true → 0 ≤ x.1 ∧ 0 ≤ x.2.1 ∧ x.2.1 ≤ 5 ∧ x.1 ≤ 96 - 2 ^ x.2.1.toNat) ∧ (x.2.2 = false → x.1 = 0 ∧ x.2.1 = 0)
theorem nodeN_ok {a r : Int} (ha : 0 ≤ a) (hr : 0 ≤ r) : NodeOk (nodeN a r) := by
  unfold nodeN
  split
  · exact ⟨fun h => by simp at h, fun _ => ⟨rfl, rfl⟩⟩
  · exact ⟨fun _ => ⟨ha, hr, by simp only; omega, by simp only; omega⟩, fun h => by simp at h⟩
theorem nodeOk_no : NodeOk (0, 0, false) := ⟨fun h => by simp at h, fun _ => ⟨rfl, rfl⟩⟩
/-- the index of a step is below the CNode's slots -/
theorem walk_in {addr l g n r x y : Int} {z : Int} (h : walkP addr l g n r = (x, y, z)) : 0 ≤ x ∧ (z = 0 → x < 2 ^ r.toNat) ∧ (z ≠ 0 → x = 0) := by
  unfold walkP at h
  have hp := pw_pos r.toNat
  split at h
  · cases h; exact ⟨by omega, fun h => by omega, fun _ => rfl⟩
  · split at h
    · cases h; exact ⟨by omega, fun h => by omega, fun _ => rfl⟩
    · split at h
      · cases h; exact ⟨by omega, fun h => by omega, fun _ => rfl⟩
      · cases h
        have := topI_lt addr (l - n) r
        exact ⟨this.1, fun _ => this.2, fun h => absurd rfl h⟩
/- on plain words -/
section
variable {L : List Int} {i addr l : Int} {c : Cp} {n : Nat}
def capL (L : List Int) (i : Int) : Cp := if slotB i 0 = true then getC (atL L (5 * i)) else Cp.zero
def nodeL (L : List Int) (c : Cp) : Int × Int × Bool := if c.kind = 2 ∧ isL L c.obj 2 = true then nodeN (fieldL L c.obj 1) (fieldL L c.obj 2) else (0, 0, false)
def fineL (L : List Int) (c : Cp) : Bool := (nodeL L c).2.2
def goL (L : List Int) (addr : Int) : Nat → Cp → Int → Int × Int
  | 0, _, _ => (0, 4)
  | n + 1, c, l =>
    if (nodeL L c).2.2 = false then (0, 4)
    else if (walkP addr l c.guard c.bits (nodeL L c).2.1).2.2 ≠ 0 then (0, (walkP addr l c.guard c.bits (nodeL L c).2.1).2.2)
    else if (walkP addr l c.guard c.bits (nodeL L c).2.1).2.1 = 0 then ((nodeL L c).1 + (walkP addr l c.guard c.bits (nodeL L c).2.1).1, 0)
    else goL L addr n (capL L ((nodeL L c).1 + (walkP addr l c.guard c.bits (nodeL L c).2.1).1)) (walkP addr l c.guard c.bits (nodeL L c).2.1).2.1
def lookL (L : List Int) (c : Cp) (addr : Int) : Int × Int := if addr < 0 ∨ 65536 ≤ addr then (0, 1) else if fineL L c = true then goL L addr 16 c 16 else (0, 5)
theorem capP_plain : (capP i).run machP L = (capL L i, L) := by
  unfold capP capL
  split
  · next h => rw [Vp.run_rdP, Vp.run_ret, slotI_yes h, Int.add_zero]
  · rfl
theorem nodeP_plain : (nodeP c).run machP L = (nodeL L c, L) := by
  unfold nodeP nodeL
  by_cases h : c.kind = 2
  · rw [if_pos h, Vp.run_bind_is isP_plain]
    by_cases q : isL L c.obj 2 = true
    · rw [if_pos q, if_pos ⟨h, q⟩, Vp.run_bind_is fieldP_plain, Vp.run_bind_is fieldP_plain, Vp.run_ret]
    · rw [if_neg q, if_neg (fun e => q e.2), Vp.run_ret]
  · rw [if_neg h, if_neg (fun e => h e.1), Vp.run_ret]
theorem fineP_plain : (fineP c).run machP L = (fineL L c, L) := by
  unfold fineP
  rw [Vp.run_bind_is nodeP_plain, Vp.run_ret]
  rfl
theorem goP_plain : (goP addr n c l).run machP L = (goL L addr n c l, L) := by
  induction n generalizing c l with
  | zero => rfl
  | succ n ih =>
    unfold goP goL
    rw [Vp.run_bind_is nodeP_plain]
    simp only [Vp.run_ite, Vp.run_ret, Vp.run_bind_is capP_plain, ih]
    repeat' split
    all_goals rfl
theorem lookP_plain : (lookP c addr).run machP L = (lookL L c addr, L) := by
  unfold lookP lookL
  rw [Vp.run_ite, Vp.run_ret, Vp.run_bind_is fineP_plain]
  simp only [Vp.run_ite, Vp.run_ret, goP_plain]
  repeat' split
  all_goals rfl
theorem fieldL_rng (h : Us L) (o f : Int) : 0 ≤ fieldL L o f ∧ fieldL L o f ≤ 4611686018427387904 := by
  unfold fieldL
  split
  · exact numI_rng (h.atL _)
  · omega
theorem nodeL_ok (h : Us L) (c : Cp) : NodeOk (nodeL L c) := by
  unfold nodeL
  split
  · exact nodeN_ok (fieldL_rng h _ _).1 (fieldL_rng h _ _).1
  · exact nodeOk_no
theorem goL_in (h : Us L) : (goL L addr n c l).2 = 0 → 0 ≤ (goL L addr n c l).1 ∧ (goL L addr n c l).1 ≤ 95 := by
  induction n generalizing c l with
  | zero => intro e; simp [goL] at e
  | succ n ih =>
    obtain ⟨x, y, z, hw⟩ : ∃ x y z, walkP addr l c.guard c.bits (nodeL L c).2.1 = (x, y, z) := ⟨_, _, _, rfl⟩
    unfold goL
    rw [hw]
    simp only
    split
    · intro e; simp at e
    · next hq =>
      have hn := (nodeL_ok h c).1 (by simpa using hq)
      have hx := walk_in hw
      split
      · next hz => intro e; exact absurd e hz
      · next hz =>
        split
        · intro _
          have := hx.2.1 (by omega)
          exact ⟨by simp only; omega, by simp only; omega⟩
        · exact ih
/-- what is found is a slot, of a CNode that is fine -/
theorem lookL_in (h : Us L) (e : (lookL L c addr).2 = 0) : (0 ≤ (lookL L c addr).1 ∧ (lookL L c addr).1 ≤ 95) ∧ fineL L c = true := by
  unfold lookL at e ⊢
  split
  · next h1 => rw [if_pos h1] at e; simp at e
  · next h1 =>
    rw [if_neg h1] at e
    split
    · next h2 => rw [if_pos h2] at e; exact ⟨goL_in h e, h2⟩
    · next h2 => rw [if_neg h2] at e; simp at e
end
end Go.Proofs.Ytlhcigpllkigdaa
/- What package derive does to any view, as mathematics (layer 12): capabilities made of others. No dump is read here. -/
namespace Go.Proofs.Ytlhcigpllkigdaa
open Go.RowKit
def hasP (i : Int) : Vp Bool := (capP i).bind fun c => .ret (c.kind != 0)
def hasKidsP (i : Int) : Vp Bool := (leafP i).bind fun l => if l ≠ i then .ret true else (kidsP i).bind fun L => .ret (decide (0 < L.length))
/-- what is made of from's capability, by a function -/
def madeP (mk : Cp → Cp × Int) (f t : Int) : Vp (Cp × Int) :=
  if slotB t 0 = false then .ret (Cp.zero, 2) else (hasP f).bind fun a => if a = false then .ret (Cp.zero, 2) else (hasP t).bind fun b => if b = true then .ret (Cp.zero, 8) else (capP f).bind fun c => .ret (mk c)
def underP (mk : Cp → Cp × Int) (f t : Int) : Vp Int :=
  (madeP mk f t).bind fun r => if r.2 ≠ 0 then .ret r.2 else (linkP t f).bind fun n => if n ≠ 0 then .ret n else csetP t r.1
def insteadP (mk : Cp → Cp × Int) (f t : Int) : Vp Int :=
  (madeP mk f t).bind fun r => if r.2 ≠ 0 then .ret r.2 else (replaceP f t).bind fun n => if n ≠ 0 then .ret n else (csetP t r.1).bind fun n => if n ≠ 0 then .ret n else csetP f Cp.zero
def deleteP (i : Int) : Vp Int :=
  (hasP i).bind fun a => if a = false then .ret 2 else (hasKidsP i).bind fun k => if k = true then .ret 9 else (unlinkP i).bind fun n => if n ≠ 0 then .ret n else csetP i Cp.zero
def delOneP (i : Int) : Vp (Bool × Int) :=
  if slotB i 0 = false then .ret (false, 2) else (hasKidsP i).bind fun k => if k = false then .ret (false, 0) else (leafP i).bind fun l => (deleteP l).bind fun n => if n ≠ 0 then .ret (false, n) else .ret (true, 0)
end Go.Proofs.Ytlhcigpllkigdaa
/- Any view: how its two calls are reached, what they do to what it stands for, what of the memory it is made of (layers 9 and up: each function of a view is walked over this, once, for plain words and a record's view alike). -/
namespace Go.Proofs.Ytlhcigpllkigdaa
open Go.RowKit
/-- a view: Ok holds of what it stands for (what is read is a word), S are the blocks that its calls turn, R those that it is made of -/
structure VOk {σ : Type} (M : Mach σ) (T : TypeId) (v : Value) (fR fW : FuncId) (Mem : World → σ → Prop) (Ok : σ → Prop) (S R : List Nat) : Prop where
  mR : ∀ (n : Nat) (w : World), Sem.run Try.prog (method (n + 1) T v "Read") w = .ok (fR, v) w
  mW : ∀ (n : Nat) (w : World), Sem.run Try.prog (method (n + 1) T v "Write") w = .ok (fW, v) w
  nR : ∀ (n : Nat) (w : World), Sem.run Try.prog (nilAhead (n + 1) T v "Read") w = .ok (some false) w
  nW : ∀ (n : Nat) (w : World), Sem.run Try.prog (nilAhead (n + 1) T v "Write") w = .ok (some false) w
  eR : ∀ (args : Array Value) (w : World), (callFunc fR args).run Try.prog w = .ok (.enter fR args) w
  eW : ∀ (args : Array Value) (w : World), (callFunc fW args).run Try.prog w = .ok (.enter fW args) w
  rd : ∀ (w : World) (s : σ) (i : Int), Mem w s → Calls Try.prog fR #[v, .int .i64 i] w fun e w' => e = .returned (.int .u64 (M.rd s i).1) ∧ Mem w' (M.rd s i).2 ∧ Only S w w'
  wr : ∀ (w : World) (s : σ) (i x : Int), Mem w s → U64 x → Calls Try.prog fW #[v, .int .i64 i, .int .u64 x] w fun e w' => e = .returned (.tuple #[]) ∧ Mem w' (M.wr s i x) ∧ Only S w w'
  ok : ∀ (w : World) (s : σ), Mem w s → Ok s
  rng : ∀ (s : σ) (i : Int), Ok s → U64 (M.rd s i).1
  okR : ∀ (s : σ) (i : Int), Ok s → Ok (M.rd s i).2
  okW : ∀ (s : σ) (i x : Int), Ok s → U64 x → Ok (M.wr s i x)
  lt : ∀ (w : World) (s : σ) (k : Nat), Mem w s → k ∈ R → k < w.heap.size
  keep : ∀ (w w' : World) (s : σ) (S' : List Nat), Mem w s → Only S' w w' → (∀ k, k ∈ S' → k ∉ R) → Mem w' s
  sub : ∀ k, k ∈ S → k ∈ R
section
variable {σ : Type} {M : Mach σ} {T : TypeId} {v : Value} {fR fW : FuncId} {Mem : World → σ → Prop} {Ok : σ → Prop} {S R : List Nat} {w w' : World} {s : σ}
theorem VOk.drewN (V : VOk M T v fR fW Mem Ok S R) (h : Mem w s) (n : Nat) : Mem (w.drewN n) s := V.keep w _ s [] h ((Only.refl [] w).drewN n) (by simp)
theorem VOk.only0 (V : VOk M T v fR fW Mem Ok S R) (h : Mem w s) (ho : Only [] w w') : Mem w' s := V.keep w _ s [] h ho (by simp)
/-- what is new is no part of it -/
theorem VOk.fresh (V : VOk M T v fR fW Mem Ok S R) (h : Mem w s) {k : Nat} (hk : w.heap.size ≤ k) : k ∉ R := fun hm => by have := V.lt w s k h hm; omega
theorem VOk.freshS (V : VOk M T v fR fW Mem Ok S R) (h : Mem w s) {k : Nat} (hk : w.heap.size ≤ k) : k ∉ S := fun hm => V.fresh h hk (V.sub k hm)
/-- what is no part of it is put -/
theorem VOk.put (V : VOk M T v fR fW Mem Ok S R) (h : Mem w s) {k : Nat} (hk : k ∉ R) (i : Nat) (u : Value) : Mem (w.setCell ⟨k, i, none⟩ u) s :=
  V.keep w _ s [k] h ((Only.refl _ _).setCell (.inl (by simp)) _) (fun j hj => by simp at hj; subst hj; exact hk)
end
end Go.Proofs.Ytlhcigpllkigdaa
/- What below of package lay answers (layer 9): whether a number is 0 to one less than another one. -/
namespace Go.Proofs.Ytlhcigpllkigdaa
open Go.RowKit
theorem below_any (n m : Int) (w : World) : Calls Try.prog 32 #[.int .i64 n, .int .i64 m] w fun e w' => e = .returned (.bool (belowB n m)) ∧ w' = w := by
  go_enter Try.func32, Try.ntmps32
  go_wp2
  all_goals go_ret
  all_goals exact ⟨by simp [belowB, *] <;> omega, rfl⟩
theorem below_is {n m : Int} {q : Bool} (h : belowB n m = q) (w : World) : Calls Try.prog 32 #[.int .i64 n, .int .i64 m] w fun e w' => e = .returned (.bool q) ∧ w' = w := h ▸ below_any n m w
end Go.Proofs.Ytlhcigpllkigdaa
/- What Slot of package lay answers (layer 9): a slot's word. -/
namespace Go.Proofs.Ytlhcigpllkigdaa
open Go.RowKit
theorem slot_any (i f : Int) (w : World) : Calls Try.prog 16 #[.int .i64 i, .int .i64 f] w fun e w' => e = .returned (.tuple #[.int .i64 (slotI i f), .bool (slotB i f)]) ∧ w' = w := by
  by_cases h1 : belowB i 96 = true
  · have hi := belowB_yes.1 h1
    by_cases h2 : belowB f 5 = true
    · have hf := belowB_yes.1 h2
      have hs : slotB i f = true := slotB_yes.2 ⟨hi.1, hi.2, hf.1, hf.2⟩
      rw [slotI_yes hs, hs]
      have H1 := Lib.hid h1
      have H2 := Lib.hid h2
      clear h1 h2 hs
      go_enter Try.func16, Try.ntmps16
      go_wp2_with (go_at_call 32; (first | (with_reducible refine (below_is H1.out _).mono ?_) | (with_reducible refine (below_is H2.out _).mono ?_)); rintro e w' ⟨rfl, rfl⟩)
      go_ret2
      exact ⟨by go_num, rfl⟩
    · replace h2 : belowB f 5 = false := by simpa using h2
      have hs : slotB i f = false := slotB_no.2 (.inr (belowB_no.1 h2))
      rw [slotI_no hs, hs]
      have H1 := Lib.hid h1
      have H2 := Lib.hid h2
      clear h1 h2 hs
      go_enter Try.func16, Try.ntmps16
      go_wp2_with (go_at_call 32; (first | (with_reducible refine (below_is H1.out _).mono ?_) | (with_reducible refine (below_is H2.out _).mono ?_)); rintro e w' ⟨rfl, rfl⟩)
      go_ret2
      exact ⟨rfl, rfl⟩
  · replace h1 : belowB i 96 = false := by simpa using h1
    have hs : slotB i f = false := slotB_no.2 (.inl (belowB_no.1 h1))
    rw [slotI_no hs, hs]
    have H1 := Lib.hid h1
    clear h1 hs
    go_enter Try.func16, Try.ntmps16
    go_wp2_with (go_at_call 32; (with_reducible refine (below_is H1.out _).mono ?_); rintro e w' ⟨rfl, rfl⟩)
    go_ret2
    exact ⟨rfl, rfl⟩
theorem slot_is {i f x : Int} {q : Bool} (hx : slotI i f = x) (h : slotB i f = q) (w : World) : Calls Try.prog 16 #[.int .i64 i, .int .i64 f] w fun e w' => e = .returned (.tuple #[.int .i64 x, .bool q]) ∧ w' = w := hx ▸ h ▸ slot_any i f w
end Go.Proofs.Ytlhcigpllkigdaa
