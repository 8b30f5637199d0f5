/- What package cdt does to any view, as mathematics (layer 10): what a slot's field tells, links, kids. No dump is read here. -/
import Derived.Test.YtbklkpbcdijgoaaLayM
namespace Go.Proofs.Ytbklkpbcdijgoaa
open Go.RowKit
/-- the slot that a word tells, -1: none -/
def toldI (w : Int) : Int := if 96 < w then -1 else w - 1
theorem toldI_rng {w : Int} (h : U64 w) : -1 ≤ toldI w ∧ toldI w ≤ 95 := by
  have := h.1
  unfold toldI
  split <;> omega
def toldP (i f : Int) : Vp Int := if slotB i f = true then .rd (slotI i f) fun w => .ret (toldI w) else .ret (-1)
def tellP (i f n : Int) : Vp Unit := if slotB i f = true then .wr (slotI i f) (n + 1) (.ret ()) else .ret ()
def standP (i a b c : Int) : Vp Unit := (tellP i 1 a).bind fun _ => (tellP i 3 b).bind fun _ => tellP i 4 c
def placeP (i : Int) : Vp (Int × Int × Int) := (toldP i 1).bind fun p => if p = -1 then .ret (-1, -1, -1) else (toldP i 3).bind fun n => (toldP i 4).bind fun q => .ret (p, n, q)
def besideP (p n q nx pv : Int) : Vp Unit := (if q = -1 then tellP p 2 nx else tellP q 3 nx).bind fun _ => tellP n 4 pv
def linkP (k p : Int) : Vp Int :=
  if slotB k 0 = false ∨ slotB p 0 = false then .ret 2 else if k = p then .ret 10 else (toldP k 1).bind fun x => if x ≠ -1 then .ret 10 else (toldP p 2).bind fun y =>
    (tellP y 4 k).bind fun _ => (tellP p 2 k).bind fun _ => (standP k p y (-1)).bind fun _ => .ret 0
def unlinkP (k : Int) : Vp Int :=
  if slotB k 0 = false then .ret 2 else (placeP k).bind fun u => if u.1 = -1 then .ret 0 else (besideP u.1 u.2.1 u.2.2 u.2.1 u.2.2).bind fun _ => (standP k (-1) (-1) (-1)).bind fun _ => .ret 0
/-- the kids from one on, so many at most -/
def kidsF : Nat → Int → Vp (List Int)
  | 0, _ => .ret []
  | n + 1, k => if k = -1 then .ret [] else (toldP k 3).bind fun k' => (kidsF n k').bind fun l => .ret (k :: l)
def kidsP (i : Int) : Vp (List Int) := (toldP i 2).bind (kidsF 96)
def leafF : Nat → Int → Vp Int
  | 0, i => .ret i
  | n + 1, i => (toldP i 2).bind fun x => if x = -1 then .ret i else leafF n x
def leafP (i : Int) : Vp Int := if slotB i 0 = true then leafF 96 i else .ret (-1)
/-- all these have that Parent -/
def downP (b : Int) : List Int → Vp Unit
  | [] => .ret ()
  | k :: l => (tellP k 1 b).bind fun _ => downP b l
def replaceP (a b : Int) : Vp Int :=
  if slotB a 0 = false ∨ slotB b 0 = false then .ret 2 else if a = b then .ret 10 else (toldP b 1).bind fun x => if x ≠ -1 then .ret 10 else (toldP b 2).bind fun y => if y ≠ -1 then .ret 10 else
    (placeP a).bind fun u => (toldP a 2).bind fun f => (kidsP a).bind fun l => (downP b l).bind fun _ => (besideP u.1 u.2.1 u.2.2 b b).bind fun _ => (standP b u.1 u.2.1 u.2.2).bind fun _ =>
      (tellP b 2 f).bind fun _ => (standP a (-1) (-1) (-1)).bind fun _ => (tellP a 2 (-1)).bind fun _ => .ret 0
section
variable {σ : Type} {M : Mach σ} {s s' s1 : σ} {n : Nat} {k x : Int} {l : List Int}
theorem kidsF_zero : (kidsF 0 k).run M s = ([], s) := rfl
theorem kidsF_none : (kidsF n (-1)).run M s = ([], s) := by
  cases n with
  | zero => rfl
  | succ n => unfold kidsF; rw [Vp.run_yes rfl, Vp.run_ret]
theorem kidsF_more (hk : k ≠ -1) (h : (toldP k 3).run M s = (x, s1)) (h2 : (kidsF n x).run M s1 = (l, s')) : (kidsF (n + 1) k).run M s = (k :: l, s') := by
  rw [show kidsF (n + 1) k = if k = -1 then .ret [] else (toldP k 3).bind fun k' => (kidsF n k').bind fun l => .ret (k :: l) from rfl, Vp.run_no hk, Vp.run_bind_is h, Vp.run_bind_is h2, Vp.run_ret]
theorem kidsF_len : ∀ {n : Nat} {k : Int} {l : List Int} {s s' : σ}, (kidsF n k).run M s = (l, s') → l.length ≤ n := by
  intro n
  induction n with
  | zero =>
    intro k l s s' h
    rw [kidsF_zero] at h
    cases h
    exact Nat.le_refl _
  | succ n ih =>
    intro k l s s' h
    by_cases hk : k = -1
    · subst hk
      rw [kidsF_none] at h
      cases h
      exact Nat.zero_le _
    · obtain ⟨x, s1, h1⟩ : ∃ x s1, (toldP k 3).run M s = (x, s1) := ⟨_, _, rfl⟩
      obtain ⟨r, s2, h2⟩ : ∃ r s2, (kidsF n x).run M s1 = (r, s2) := ⟨_, _, rfl⟩
      rw [kidsF_more hk h1 h2] at h
      cases h
      have := ih h2
      simp only [List.length_cons]
      omega
theorem kids_len {i : Int} (h : (kidsP i).run M s = (l, s')) : l.length ≤ 96 := by
  unfold kidsP at h
  rw [Vp.run_bind] at h
  exact kidsF_len h
theorem leafF_zero : (leafF 0 k).run M s = (k, s) := rfl
theorem leafF_end (h : (toldP k 2).run M s = (-1, s1)) : (leafF (n + 1) k).run M s = (k, s1) := by
  rw [show leafF (n + 1) k = (toldP k 2).bind fun x => if x = -1 then .ret k else leafF n x from rfl, Vp.run_bind_is h, Vp.run_yes rfl, Vp.run_ret]
theorem leafF_more (h : (toldP k 2).run M s = (x, s1)) (hx : x ≠ -1) : (leafF (n + 1) k).run M s = (leafF n x).run M s1 := by
  rw [show leafF (n + 1) k = (toldP k 2).bind fun x => if x = -1 then .ret k else leafF n x from rfl, Vp.run_bind_is h, Vp.run_no hx]
end
end Go.Proofs.Ytbklkpbcdijgoaa
