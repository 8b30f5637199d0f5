/- Capabilities by addresses, as mathematics (layer 11): a slot's capability, a CNode, what is looked up; on plain words. No dump is read here. -/
import Derived.Test.YtbklkpbcdijgoaaLayM
import Derived.Test.YtbklkpbcdijgoaaPackM
import Derived.Test.YtbklkpbcdijgoaaGuardM
namespace Go.Proofs.Ytbklkpbcdijgoaa
open Go.RowKit
/-- a word as a capability: Null if it is none -/
def getC (w : Int) : Cp := if (Cp.of w).may then Cp.of w else Cp.zero
def capP (i : Int) : Vp Cp := if slotB i 0 = true then .rd (slotI i 0) fun w => .ret (getC w) else .ret Cp.zero
/-- where a CNode's slots begin, its radix, whether it is fine -/
def nodeN (a r : Int) : Int × Int × Bool := if 5 < r ∨ 96 - 2 ^ r.toNat < a then (0, 0, false) else (a, r, true)
def nodeP (c : Cp) : Vp (Int × Int × Bool) :=
  if c.kind = 2 then (isP c.obj 2).bind fun q => if q = true then (fieldP c.obj 1).bind fun a => (fieldP c.obj 2).bind fun r => .ret (nodeN a r) else .ret (0, 0, false) else .ret (0, 0, false)
def fineP (c : Cp) : Vp Bool := (nodeP c).bind fun x => .ret x.2.2
/-- so many steps at most: the slot, and an error's number -/
def goP (addr : Int) : Nat → Cp → Int → Vp (Int × Int)
  | 0, _, _ => .ret (0, 4)
  | n + 1, c, l => (nodeP c).bind fun x =>
    if x.2.2 = false then .ret (0, 4)
    else if (walkP addr l c.guard c.bits x.2.1).2.2 ≠ 0 then .ret (0, (walkP addr l c.guard c.bits x.2.1).2.2)
    else if (walkP addr l c.guard c.bits x.2.1).2.1 = 0 then .ret (x.1 + (walkP addr l c.guard c.bits x.2.1).1, 0)
    else (capP (x.1 + (walkP addr l c.guard c.bits x.2.1).1)).bind fun d => goP addr n d (walkP addr l c.guard c.bits x.2.1).2.1
def lookP (c : Cp) (addr : Int) : Vp (Int × Int) := if addr < 0 ∨ 65536 ≤ addr then .ret (0, 1) else (fineP c).bind fun q => if q = true then goP addr 16 c 16 else .ret (0, 5)
theorem pw5 {r : Int} (h0 : 0 ≤ r) (h : r ≤ 5) : 1 ≤ (2 : Int) ^ r.toNat ∧ (2 : Int) ^ r.toNat ≤ 32 := by
  obtain ⟨k, rfl⟩ : ∃ k : Nat, r = k := ⟨r.toNat, by omega⟩
  have hk : k ≤ 5 := by omega
  rw [Int.toNat_natCast]
  match k, hk with
  | 0, _ => decide
  | 1, _ => decide
  | 2, _ => decide
  | 3, _ => decide
  | 4, _ => decide
  | 5, _ => decide
theorem nodeN_no {a r : Int} (h : 5 < r ∨ 96 - 2 ^ r.toNat < a) : nodeN a r = (0, 0, false) := if_pos h
theorem nodeN_yes {a r : Int} (h : r ≤ 5) (h' : a ≤ 96 - 2 ^ r.toNat) : nodeN a r = (a, r, true) := if_neg (by omega)
/-- what a fine CNode tells is in range -/
def NodeOk (x : Int × Int × Bool) : Prop := (x.2.2 = true → 0 ≤ x.1 ∧ 0 ≤ x.2.1 ∧ x.2.1 ≤ 5 ∧ x.1 ≤ 96 - 2 ^ x.2.1.toNat) ∧ (x.2.2 = false → x.1 = 0 ∧ x.2.1 = 0)
theorem nodeN_ok {a r : Int} (ha : 0 ≤ a) (hr : 0 ≤ r) : NodeOk (nodeN a r) := by
  unfold nodeN
  split
  · exact ⟨fun h => by simp at h, fun _ => ⟨rfl, rfl⟩⟩
  · exact ⟨fun _ => ⟨ha, hr, by simp only; omega, by simp only; omega⟩, fun h => by simp at h⟩
theorem nodeOk_no : NodeOk (0, 0, false) := ⟨fun h => by simp at h, fun _ => ⟨rfl, rfl⟩⟩
/-- the index of a step is below the CNode's slots -/
theorem walk_in {addr l g n r x y : Int} {z : Int} (h : walkP addr l g n r = (x, y, z)) : 0 ≤ x ∧ (z = 0 → x < 2 ^ r.toNat) ∧ (z ≠ 0 → x = 0) := by
  unfold walkP at h
  have hp := pw_pos r.toNat
  split at h
  · cases h; exact ⟨by omega, fun h => by omega, fun _ => rfl⟩
  · split at h
    · cases h; exact ⟨by omega, fun h => by omega, fun _ => rfl⟩
    · split at h
      · cases h; exact ⟨by omega, fun h => by omega, fun _ => rfl⟩
      · cases h
        have := topI_lt addr (l - n) r
        exact ⟨this.1, fun _ => this.2, fun h => absurd rfl h⟩
/- on plain words -/
section
variable {L : List Int} {i addr l : Int} {c : Cp} {n : Nat}
def capL (L : List Int) (i : Int) : Cp := if slotB i 0 = true then getC (atL L (5 * i)) else Cp.zero
def nodeL (L : List Int) (c : Cp) : Int × Int × Bool := if c.kind = 2 ∧ isL L c.obj 2 = true then nodeN (fieldL L c.obj 1) (fieldL L c.obj 2) else (0, 0, false)
def fineL (L : List Int) (c : Cp) : Bool := (nodeL L c).2.2
def goL (L : List Int) (addr : Int) : Nat → Cp → Int → Int × Int
  | 0, _, _ => (0, 4)
  | n + 1, c, l =>
    if (nodeL L c).2.2 = false then (0, 4)
    else if (walkP addr l c.guard c.bits (nodeL L c).2.1).2.2 ≠ 0 then (0, (walkP addr l c.guard c.bits (nodeL L c).2.1).2.2)
    else if (walkP addr l c.guard c.bits (nodeL L c).2.1).2.1 = 0 then ((nodeL L c).1 + (walkP addr l c.guard c.bits (nodeL L c).2.1).1, 0)
    else goL L addr n (capL L ((nodeL L c).1 + (walkP addr l c.guard c.bits (nodeL L c).2.1).1)) (walkP addr l c.guard c.bits (nodeL L c).2.1).2.1
def lookL (L : List Int) (c : Cp) (addr : Int) : Int × Int := if addr < 0 ∨ 65536 ≤ addr then (0, 1) else if fineL L c = true then goL L addr 16 c 16 else (0, 5)
theorem capP_plain : (capP i).run machP L = (capL L i, L) := by
  unfold capP capL
  split
  · next h => rw [Vp.run_rdP, Vp.run_ret, slotI_yes h, Int.add_zero]
  · rfl
theorem nodeP_plain : (nodeP c).run machP L = (nodeL L c, L) := by
  unfold nodeP nodeL
  by_cases h : c.kind = 2
  · rw [if_pos h, Vp.run_bind_is isP_plain]
    by_cases q : isL L c.obj 2 = true
    · rw [if_pos q, if_pos ⟨h, q⟩, Vp.run_bind_is fieldP_plain, Vp.run_bind_is fieldP_plain, Vp.run_ret]
    · rw [if_neg q, if_neg (fun e => q e.2), Vp.run_ret]
  · rw [if_neg h, if_neg (fun e => h e.1), Vp.run_ret]
theorem fineP_plain : (fineP c).run machP L = (fineL L c, L) := by
  unfold fineP
  rw [Vp.run_bind_is nodeP_plain, Vp.run_ret]
  rfl
theorem goP_plain : (goP addr n c l).run machP L = (goL L addr n c l, L) := by
  induction n generalizing c l with
  | zero => rfl
  | succ n ih =>
    unfold goP goL
    rw [Vp.run_bind_is nodeP_plain]
    simp only [Vp.run_ite, Vp.run_ret, Vp.run_bind_is capP_plain, ih]
    repeat' split
    all_goals rfl
theorem lookP_plain : (lookP c addr).run machP L = (lookL L c addr, L) := by
  unfold lookP lookL
  rw [Vp.run_ite, Vp.run_ret, Vp.run_bind_is fineP_plain]
  simp only [Vp.run_ite, Vp.run_ret, goP_plain]
  repeat' split
  all_goals rfl
theorem fieldL_rng (h : Us L) (o f : Int) : 0 ≤ fieldL L o f ∧ fieldL L o f ≤ 4611686018427387904 := by
  unfold fieldL
  split
  · exact numI_rng (h.atL _)
  · omega
theorem nodeL_ok (h : Us L) (c : Cp) : NodeOk (nodeL L c) := by
  unfold nodeL
  split
  · exact nodeN_ok (fieldL_rng h _ _).1 (fieldL_rng h _ _).1
  · exact nodeOk_no
theorem goL_in (h : Us L) : (goL L addr n c l).2 = 0 → 0 ≤ (goL L addr n c l).1 ∧ (goL L addr n c l).1 ≤ 95 := by
  induction n generalizing c l with
  | zero => intro e; simp [goL] at e
  | succ n ih =>
    obtain ⟨x, y, z, hw⟩ : ∃ x y z, walkP addr l c.guard c.bits (nodeL L c).2.1 = (x, y, z) := ⟨_, _, _, rfl⟩
    unfold goL
    rw [hw]
    simp only
    split
    · intro e; simp at e
    · next hq =>
      have hn := (nodeL_ok h c).1 (by simpa using hq)
      have hx := walk_in hw
      split
      · next hz => intro e; exact absurd e hz
      · next hz =>
        split
        · intro _
          have := hx.2.1 (by omega)
          exact ⟨by simp only; omega, by simp only; omega⟩
        · exact ih
/-- what is found is a slot, of a CNode that is fine -/
theorem lookL_in (h : Us L) (e : (lookL L c addr).2 = 0) : (0 ≤ (lookL L c addr).1 ∧ (lookL L c addr).1 ≤ 95) ∧ fineL L c = true := by
  unfold lookL at e ⊢
  split
  · next h1 => rw [if_pos h1] at e; simp at e
  · next h1 =>
    rw [if_neg h1] at e
    split
    · next h2 => rw [if_pos h2] at e; exact ⟨goL_in h e, h2⟩
    · next h2 => rw [if_neg h2] at e; simp at e
end
end Go.Proofs.Ytbklkpbcdijgoaa
