/- A function of a view as mathematics: what it reads and writes, one behind the other (layers 9 and up). No dump is read here. -/
import Derived.Test.YtlcefgfcihgocaaViewM
namespace Go.Proofs.Ytlcefgfcihgocaa
open Go.RowKit
/-- what is read and written of a view, as mathematics -/
structure Mach (σ : Type) where
  rd : σ → Int → Int × σ
  wr : σ → Int → Int → σ
/-- plain words -/
def machP : Mach (List Int) := ⟨fun L i => (atL L i, L), setL⟩
/-- a function that reads, writes, and tells something -/
inductive Vp (α : Type) : Type where
  | ret (a : α)
  | rd (i : Int) (k : Int → Vp α)
  | wr (i v : Int) (k : Vp α)
namespace Vp
variable {σ α β : Type}
def run (M : Mach σ) : Vp α → σ → α × σ
  | ret a, s => (a, s)
  | rd i k, s => (k (M.rd s i).1).run M (M.rd s i).2
  | wr i v k, s => k.run M (M.wr s i v)
def bind : Vp α → (α → Vp β) → Vp β
  | ret a, f => f a
  | rd i k, f => rd i fun x => (k x).bind f
  | wr i v k, f => wr i v (k.bind f)
section
variable {M : Mach σ} {s : σ}
theorem run_ret (a : α) : (ret a).run M s = (a, s) := rfl
theorem run_rd (i : Int) (k : Int → Vp α) : (rd i k).run M s = (k (M.rd s i).1).run M (M.rd s i).2 := rfl
theorem run_wr (i v : Int) (k : Vp α) : (wr i v k).run M s = k.run M (M.wr s i v) := rfl
theorem run_bind (p : Vp α) (f : α → Vp β) : (p.bind f).run M s = (f (p.run M s).1).run M (p.run M s).2 := by
  induction p generalizing s with
  | ret a => rfl
  | rd i k ih => exact ih _
  | wr i v k ih => exact ih
theorem run_bind_is {p : Vp α} {f : α → Vp β} {a : α} {s1 : σ} (h : p.run M s = (a, s1)) : (p.bind f).run M s = (f a).run M s1 := by rw [run_bind, h]
theorem run_yes {c : Prop} [Decidable c] {p q : Vp α} (h : c) : (if c then p else q).run M s = p.run M s := by rw [if_pos h]
theorem run_no {c : Prop} [Decidable c] {p q : Vp α} (h : ¬ c) : (if c then p else q).run M s = q.run M s := by rw [if_neg h]
end
theorem run_rdP {L : List Int} (i : Int) (k : Int → Vp α) : (rd i k).run machP L = (k (atL L i)).run machP L := rfl
theorem run_wrP {L : List Int} (i v : Int) (k : Vp α) : (wr i v k).run machP L = k.run machP (setL L i v) := rfl
end Vp
/-- is it a word -/
def U64 (x : Int) : Prop := 0 ≤ x ∧ x ≤ 18446744073709551615
/-- are they words -/
def Us (L : List Int) : Prop := ∀ x, x ∈ L → U64 x
theorem Us.atL {L : List Int} (h : Us L) (i : Int) : U64 (atL L i) := by
  rcases atL_cases L i with ⟨k, x, rfl, hx, hv, -⟩ | ⟨-, hv, -⟩
  · rw [hv]; exact h x (List.mem_of_getElem? hx)
  · rw [hv]; exact ⟨by omega, by omega⟩
theorem Us.set {L : List Int} (h : Us L) (i : Int) {v : Int} (hv : U64 v) : Us (setL L i v) := fun x hx => by
  unfold setL at hx
  split at hx
  · rcases List.mem_or_eq_of_mem_set hx with h1 | h1
    · exact h x h1
    · subst h1; exact hv
  · exact h x hx
end Go.Proofs.Ytlcefgfcihgocaa
