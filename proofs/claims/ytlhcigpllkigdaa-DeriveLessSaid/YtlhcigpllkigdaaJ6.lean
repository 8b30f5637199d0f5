/- Rights' mathematics (layer 3): what is derived, minted, mutated; what is within another one. No dump is read here. -/
import Derived.Test.YtlhcigpllkigdaaPackM
import Derived.Test.YtlhcigpllkigdaaJ3
namespace Go.Proofs.Ytlhcigpllkigdaa
open Go.RowKit

/-- the rights that both have -/
def andR (a b : Int) : Int := bits .and .i64 a b
def hasR (r n : Int) : Bool := bits .andNot .i64 n r == 0
/-- a sum of the first k rights that both have -/
def part (a b : Int) : Nat → Int
  | 0 => 0
  | k + 1 => part a b k + if a / 2 ^ k % 2 = 1 ∧ b / 2 ^ k % 2 = 1 then 2 ^ k else 0
theorem fin8 {p : Int → Prop} (h : ∀ a : Fin 8, p (a.val : Int)) {x : Int} (h0 : 0 ≤ x) (h1 : x ≤ 7) : p x := by
  obtain ⟨k, rfl⟩ := Int.eq_ofNat_of_zero_le h0
  exact h ⟨k, by omega⟩
theorem part3 {a b : Int} (ha0 : 0 ≤ a) (ha : a ≤ 7) (hb0 : 0 ≤ b) (hb : b ≤ 7) : part a b 3 = andR a b := by
  refine fin8 (p := fun x => part x b 3 = andR x b) (fun i => ?_) ha0 ha
  refine fin8 (p := fun y => part (i.val : Int) y 3 = andR (i.val : Int) y) (fun j => ?_) hb0 hb
  revert i j
  decide +kernel
theorem andR_in {a b : Int} (ha0 : 0 ≤ a) (ha : a ≤ 7) (hb0 : 0 ≤ b) (hb : b ≤ 7) : 0 ≤ andR a b ∧ andR a b ≤ 7 := by
  refine fin8 (p := fun x => 0 ≤ andR x b ∧ andR x b ≤ 7) (fun i => ?_) ha0 ha
  refine fin8 (p := fun y => 0 ≤ andR (i.val : Int) y ∧ andR (i.val : Int) y ≤ 7) (fun j => ?_) hb0 hb
  revert i j
  decide +kernel
theorem hasR_eq {r n : Int} (hr0 : 0 ≤ r) (hr : r ≤ 7) (hn0 : 0 ≤ n) (hn : n ≤ 7) : (andR r n == n) = hasR r n := by
  refine fin8 (p := fun x => (andR x n == n) = hasR x n) (fun i => ?_) hr0 hr
  refine fin8 (p := fun y => (andR (i.val : Int) y == y) = hasR (i.val : Int) y) (fun j => ?_) hn0 hn
  revert i j
  decide +kernel
theorem hasR_eq' {r n : Int} (hr0 : 0 ≤ r) (hr : r ≤ 7) (hn0 : 0 ≤ n) (hn : n ≤ 7) : (andR n r == n) = hasR r n := by
  refine fin8 (p := fun x => (andR n x == n) = hasR x n) (fun i => ?_) hr0 hr
  refine fin8 (p := fun y => (andR y (i.val : Int) == y) = hasR (i.val : Int) y) (fun j => ?_) hn0 hn
  revert i j
  decide +kernel
theorem has_and {r m : Int} (hr0 : 0 ≤ r) (hr : r ≤ 7) (hm0 : 0 ≤ m) (hm : m ≤ 7) : hasR r (andR r m) = true ∧ hasR (andR r m) (andR r m) = true := by
  refine fin8 (p := fun x => hasR x (andR x m) = true ∧ hasR (andR x m) (andR x m) = true) (fun i => ?_) hr0 hr
  refine fin8 (p := fun y => hasR (i.val : Int) (andR (i.val : Int) y) = true ∧ hasR (andR (i.val : Int) y) (andR (i.val : Int) y) = true) (fun j => ?_) hm0 hm
  revert i j
  decide +kernel
theorem and_turn {r m n : Int} (hr0 : 0 ≤ r) (hr : r ≤ 7) (hm0 : 0 ≤ m) (hm : m ≤ 7) (hn0 : 0 ≤ n) (hn : n ≤ 7) : andR (andR r n) m = andR (andR r m) n := by
  refine fin8 (p := fun x => andR (andR x n) m = andR (andR x m) n) (fun i => ?_) hr0 hr
  refine fin8 (p := fun y => andR (andR (i.val : Int) n) y = andR (andR (i.val : Int) y) n) (fun j => ?_) hm0 hm
  refine fin8 (p := fun z => andR (andR (i.val : Int) z) (j.val : Int) = andR (andR (i.val : Int) (j.val : Int)) z) (fun k => ?_) hn0 hn
  revert i j k
  decide +kernel

def someB (c : Cp) : Bool := !(c.kind == 0) && c.mayB
theorem someB_iff (c : Cp) : someB c = true ↔ c.may ∧ c.kind ≠ 0 := by
  unfold someB Cp.mayB
  rw [Bool.and_eq_true, decide_eq_true_eq]
  simp [and_comm]
def maskB (m : Int) : Bool := upToB m 7
theorem maskB_iff (m : Int) : maskB m = true ↔ 0 ≤ m ∧ m ≤ 7 := upToB_iff m 7
def withinB (a b : Cp) : Bool := (a.kind == b.kind) && (a.obj == b.obj) && hasR b.rights a.rights && ((b.badge == 0) || (a.badge == b.badge))

/-- Derive: the capability, and an error's number -/
def Cp.derive (c : Cp) (m : Int) : Cp × Int :=
  if ¬ (c.may ∧ c.kind ≠ 0 ∧ 0 ≤ m ∧ m ≤ 7) then (Cp.zero, 1) else if c.kind = 1 then (Cp.zero, 5) else (⟨c.kind, andR c.rights m, c.obj, c.badge, c.guard, c.bits⟩, 0)
def Cp.mint (c : Cp) (m b : Int) : Cp × Int :=
  if ¬ (c.may ∧ c.kind ≠ 0 ∧ 0 ≤ m ∧ m ≤ 7 ∧ 1 ≤ b ∧ b ≤ 65535) then (Cp.zero, 1) else if ¬ (c.kind = 3 ∨ c.kind = 4) then (Cp.zero, 5) else if c.badge ≠ 0 then (Cp.zero, 10)
  else (⟨c.kind, andR c.rights m, c.obj, b, c.guard, c.bits⟩, 0)
def Cp.mutate (c : Cp) (g n : Int) : Cp × Int :=
  if ¬ (c.may ∧ c.kind ≠ 0) then (Cp.zero, 1) else if c.kind ≠ 2 then (Cp.zero, 5) else if ¬ (Cp.mk c.kind c.rights c.obj c.badge g n).may then (Cp.zero, 1) else (⟨c.kind, c.rights, c.obj, c.badge, g, n⟩, 0)

theorem Cp.derive_code (c : Cp) (m : Int) : (c.derive m).2 = 0 ∨ (1 ≤ (c.derive m).2 ∧ (c.derive m).2 ≤ 14) := by
  unfold Cp.derive; split
  · exact .inr (by decide)
  · split
    · exact .inr (by decide)
    · exact .inl rfl
theorem Cp.mint_code (c : Cp) (m b : Int) : (c.mint m b).2 = 0 ∨ (1 ≤ (c.mint m b).2 ∧ (c.mint m b).2 ≤ 14) := by
  unfold Cp.mint; split
  · exact .inr (by decide)
  · split
    · exact .inr (by decide)
    · split
      · exact .inr (by decide)
      · exact .inl rfl
theorem Cp.mutate_code (c : Cp) (g n : Int) : (c.mutate g n).2 = 0 ∨ (1 ≤ (c.mutate g n).2 ∧ (c.mutate g n).2 ≤ 14) := by
  unfold Cp.mutate; split
  · exact .inr (by decide)
  · split
    · exact .inr (by decide)
    · split
      · exact .inr (by decide)
      · exact .inl rfl
/-- it may still be with other rights, and another badge -/
theorem Cp.may.with {c : Cp} (h : c.may) (hk : c.kind ≠ 0) {r b : Int} (hr0 : 0 ≤ r) (hr : r ≤ 7) (hb : mayBadge c.kind b) : (Cp.mk c.kind r c.obj b c.guard c.bits).may := by
  unfold Cp.may at h ⊢
  rw [if_neg hk] at h
  simp only
  rw [if_neg hk]
  exact ⟨h.1, ⟨hr0, hr⟩, h.2.2.1, hb, h.2.2.2.2⟩
theorem Cp.may.badge {c : Cp} (h : c.may) (hk : c.kind ≠ 0) : mayBadge c.kind c.badge := by
  unfold Cp.may at h
  rw [if_neg hk] at h
  exact h.2.2.2.1

/-- what Derive makes of one, if it makes anything -/
structure Cp.Derives (c : Cp) (m : Int) (x : Cp) : Prop where
  may : c.may
  kind : c.kind ≠ 0
  mem : c.kind ≠ 1
  m0 : 0 ≤ m
  m1 : m ≤ 7
  eq : x = ⟨c.kind, andR c.rights m, c.obj, c.badge, c.guard, c.bits⟩
theorem Cp.derive_ok {c : Cp} {m : Int} (h : (c.derive m).2 = 0) : c.Derives m (c.derive m).1 := by
  unfold Cp.derive at h ⊢
  split at h
  · simp at h
  · rename_i h1
    split at h
    · simp at h
    · rename_i h2
      rw [if_neg h1, if_neg h2]
      have h1' := Decidable.not_not.1 h1
      exact ⟨h1'.1, h1'.2.1, h2, h1'.2.2.1, h1'.2.2.2, rfl⟩
theorem Cp.derive_bad {c : Cp} {m : Int} (h : (c.derive m).2 ≠ 0) : (c.derive m).1 = Cp.zero := by
  unfold Cp.derive at h ⊢
  split
  · rfl
  · rename_i h1
    rw [if_neg h1] at h
    split
    · rfl
    · rename_i h2
      rw [if_neg h2] at h
      exact absurd rfl h
theorem Cp.Derives.is {c : Cp} {m : Int} {x : Cp} (h : c.Derives m x) : c.derive m = (x, 0) := by
  obtain ⟨h1, h2, h3, h4, h5, rfl⟩ := h
  unfold Cp.derive
  rw [if_neg (fun q => q ⟨h1, h2, h4, h5⟩), if_neg h3]
theorem Cp.Derives.mayX {c : Cp} {m : Int} {x : Cp} (h : c.Derives m x) : x.may := by
  obtain ⟨h1, h2, h3, h4, h5, rfl⟩ := h
  have q := andR_in h1.small.r0 h1.small.r1 h4 h5
  exact h1.with h2 q.1 q.2 (h1.badge h2)
theorem Cp.Derives.within {c : Cp} {m : Int} {x : Cp} (h : c.Derives m x) : withinB x c = true ∧ withinB x x = true := by
  obtain ⟨h1, h2, h3, h4, h5, rfl⟩ := h
  have q := has_and h1.small.r0 h1.small.r1 h4 h5
  unfold withinB
  simp only [beq_self_eq_true, Bool.or_true, Bool.true_and, Bool.and_true]
  exact q
/-- once more, by whatever mask -/
theorem Cp.Derives.again {c : Cp} {m n : Int} {x : Cp} (h : c.Derives m x) : (x.derive n).2 = (c.derive n).2 := by
  have hx := h.mayX
  obtain ⟨h1, h2, h3, h4, h5, rfl⟩ := h
  by_cases hn : 0 ≤ n ∧ n ≤ 7
  · have e1 := Cp.Derives.is (c := c) (m := n) ⟨h1, h2, h3, hn.1, hn.2, rfl⟩
    have e2 := Cp.Derives.is (c := ⟨c.kind, andR c.rights m, c.obj, c.badge, c.guard, c.bits⟩) (m := n) ⟨hx, h2, h3, hn.1, hn.2, rfl⟩
    rw [e1, e2]
  · unfold Cp.derive
    rw [if_pos (fun q => hn q.2.2), if_pos (fun q => hn q.2.2)]
theorem Cp.Derives.both {c : Cp} {m n : Int} {x y z : Cp} (h : c.Derives m x) (hy : x.Derives n y) (hz : c.Derives n z) : z.Derives m y := by
  obtain ⟨h1, h2, h3, h4, h5, rfl⟩ := h
  obtain ⟨k1, k2, k3, k4, k5, rfl⟩ := hy
  have hz' := hz.mayX
  obtain ⟨_, _, _, _, _, rfl⟩ := hz
  refine ⟨hz', h2, h3, h4, h5, ?_⟩
  simp only
  rw [and_turn h1.small.r0 h1.small.r1 h4 h5 k4 k5]
structure Cp.Mints (c : Cp) (m b : Int) (x : Cp) : Prop where
  may : c.may
  kind : c.kind = 3 ∨ c.kind = 4
  badge : c.badge = 0
  m0 : 0 ≤ m
  m1 : m ≤ 7
  b0 : 1 ≤ b
  b1 : b ≤ 65535
  eq : x = ⟨c.kind, andR c.rights m, c.obj, b, c.guard, c.bits⟩
theorem Cp.mint_ok {c : Cp} {m b : Int} (h : (c.mint m b).2 = 0) : c.Mints m b (c.mint m b).1 := by
  unfold Cp.mint at h ⊢
  split at h
  · simp at h
  · rename_i h1
    split at h
    · simp at h
    · rename_i h2
      split at h
      · simp at h
      · rename_i h3
        rw [if_neg h1, if_neg h2, if_neg h3]
        have h1' := Decidable.not_not.1 h1
        exact ⟨h1'.1, Decidable.not_not.1 h2, Decidable.not_not.1 h3, h1'.2.2.1, h1'.2.2.2.1, h1'.2.2.2.2.1, h1'.2.2.2.2.2, rfl⟩
theorem Cp.Mints.is {c : Cp} {m b : Int} {x : Cp} (h : c.Mints m b x) : c.mint m b = (x, 0) := by
  obtain ⟨h1, h2, h3, h4, h5, h6, h7, rfl⟩ := h
  unfold Cp.mint
  rw [if_neg (fun q => q ⟨h1, by omega, h4, h5, h6, h7⟩), if_neg (fun q => q h2), if_neg (fun q => q h3)]
theorem Cp.Mints.mayX {c : Cp} {m b : Int} {x : Cp} (h : c.Mints m b x) : x.may := by
  obtain ⟨h1, h2, h3, h4, h5, h6, h7, rfl⟩ := h
  have q := andR_in h1.small.r0 h1.small.r1 h4 h5
  refine h1.with (by omega) q.1 q.2 ?_
  unfold mayBadge
  rw [if_pos h2]
  omega
theorem Cp.Mints.within {c : Cp} {m b : Int} {x : Cp} (h : c.Mints m b x) : withinB x c = true := by
  obtain ⟨h1, h2, h3, h4, h5, h6, h7, rfl⟩ := h
  have q := has_and h1.small.r0 h1.small.r1 h4 h5
  unfold withinB
  simp only [beq_self_eq_true, Bool.true_and, Bool.and_true, h3, Bool.true_or]
  exact q.1
theorem Cp.Mints.twice {c : Cp} {m b : Int} {x : Cp} (h : c.Mints m b x) : x.mint m b = (Cp.zero, 10) := by
  have hx := h.mayX
  obtain ⟨h1, h2, h3, h4, h5, h6, h7, rfl⟩ := h
  unfold Cp.mint
  rw [if_neg (fun q => q ⟨hx, by simp only; omega, h4, h5, h6, h7⟩), if_neg (fun q => q h2), if_pos (by simp only; omega)]
end Go.Proofs.Ytlhcigpllkigdaa
/- What Has, Derive, Mint, Mutate, Within of package rights answer (layer 3): for every capability and every number. -/
namespace Go.Proofs.Ytlhcigpllkigdaa
open Go.RowKit
theorem has_any (c : Cp) (n : Int) (w : World) : Calls Try.prog 22 #[c.v, .int .i64 n] w fun e w' => e = .returned (.bool (hasR c.rights n)) ∧ Only [] w w' := by
  go_enter Try.func22, Try.ntmps22
  go_wp2
  go_ret
  exact ⟨rfl, (Only.refl _ _).alloc _⟩
theorem mask_any (m : Int) (w : World) : Calls Try.prog 47 #[.int .i64 m] w fun e w' => e = .returned (.bool (maskB m)) ∧ w' = w := by
  go_enter Try.func47, Try.ntmps47
  go_wp2
  all_goals go_ret
  · have h : 0 ≤ m := by assumption
    exact ⟨by simp [maskB, upToB, h], rfl⟩
  · have h : m < 0 := by assumption
    exact ⟨by unfold maskB; rw [upToB_no (by omega)]; rfl, rfl⟩
section
variable (c : Cp) (w : World)
theorem some_any : Calls Try.prog 46 #[c.v] w fun e w' => e = .returned (.bool (someB c)) ∧ Only [] w w' := by
  by_cases hk : c.kind = 0
  · have hd : (c.kind != 0) = false := by simp [hk]
    have e : someB c = false := by unfold someB; simp [hk]
    rw [e]
    clear e hk
    go_enter Try.func46, Try.ntmps46
    go_wp2
    go_ret
    exact ⟨rfl, (Only.refl _ _).alloc _⟩
  · have hd : (c.kind != 0) = true := by simpa using hk
    have e : someB c = c.mayB := by unfold someB; simp [hk]
    rw [e]
    clear e hk
    go_enter Try.func46, Try.ntmps46
    go_wp2_with (go_at_call 34; refine (may_any _ _).mono ?_; rintro e w' ⟨rfl, ho1⟩)
    go_ret
    exact ⟨rfl, ((Only.refl _ _).alloc _).trans ho1⟩
theorem within_any (d : Cp) : Calls Try.prog 9 #[c.v, d.v] w fun e w' => e = .returned (.bool (withinB c d)) ∧ Only [] w w' := by
  have hd : withinB c d = ((c.kind == d.kind) && (c.obj == d.obj) && hasR d.rights c.rights && ((d.badge == 0) || (c.badge == d.badge))) := rfl
  have H := Lib.hid hd
  clear hd
  have hb0 := (Blk.new w 31 c.arr).alloc (.cells d.arr 31)
  have hb1 := Blk.new (w.alloc (.cells c.arr 31)) 31 d.arr
  rw [show (w.alloc (.cells c.arr 31)).heap.size = w.heap.size + 1 by simp] at hb1
  go_enter Try.func9, Try.ntmps9
  go_wp2_with (go_at_call 22; refine (has_any _ _ _).mono ?_; rintro e w' ⟨rfl, ho1⟩; obtain ⟨k0, k1, k2, k3, k4, k5⟩ := (ho1.blk hb0 (by simp)).six; obtain ⟨l0, l1, l2, l3, l4, l5⟩ := (ho1.blk hb1 (by simp)).six)
  all_goals go_ret
  all_goals refine ⟨by rw [H.out]; simp [*], ?_⟩
  all_goals first
    | exact (((Only.refl _ _).alloc _).alloc _).trans ho1
    | exact ((Only.refl _ _).alloc _).alloc _
end
end Go.Proofs.Ytlhcigpllkigdaa
