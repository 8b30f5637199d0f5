/- Package cspace's calls on plain words of one's own; a boot state's first root, as it lies (layer 11). -/
import Derived.Test.YtbklkpbcdijgoaaCsLook
import Derived.Test.YtbklkpbcdijgoaaBoot
import Derived.Test.YtbklkpbcdijgoaaBootW
import Derived.Test.YtbklkpbcdijgoaaRefWordsG
import Derived.Test.YtbklkpbcdijgoaaMade
namespace Go.Proofs.Ytbklkpbcdijgoaa
open Go.RowKit
section
variable {g : Nat} {w w' : World} {L : List Int} {c : Cp} {addr n z i : Int} {q : Bool}
theorem plook_is (hm : MemP g 738 UT w L) (h : lookL L c addr = (n, z)) :
    Calls Try.prog 5 #[.iface PwT (.slice (some ⟨g, 0, none⟩) 738 738), c.v, .int .i64 addr] w fun e w' => e = .returned (.tuple #[.int .i64 n, errV z]) ∧ MemP g 738 UT w' L ∧ Only [g] w w' :=
  clook_is (viewP g 738 738 UT) hm (by rw [lookP_plain, h])
theorem pccap_is (hm : MemP g 738 UT w L) (h : capL L i = c) :
    Calls Try.prog 9 #[.iface PwT (.slice (some ⟨g, 0, none⟩) 738 738), .int .i64 i] w fun e w' => e = .returned c.v ∧ MemP g 738 UT w' L ∧ Only [g] w w' :=
  ccap_is (viewP g 738 738 UT) hm (by rw [capP_plain, h])
theorem pcfine_is (hm : MemP g 738 UT w L) (h : fineL L c = q) :
    Calls Try.prog 6 #[.iface PwT (.slice (some ⟨g, 0, none⟩) 738 738), c.v] w fun e w' => e = .returned (.bool q) ∧ MemP g 738 UT w' L ∧ Only [g] w w' :=
  cfine_is (viewP g 738 738 UT) hm (by rw [fineP_plain, h])
/-- the first object's root, as it lies -/
structure RootAt (w : World) (p go : Nat) (t : Int) : Prop where
  lp : p < w.heap.size
  lg : go < w.heap.size
  c1 : ∃ co, w.cell? ⟨p, 1, none⟩ = some (.slice (some ⟨go, 0, none⟩) 32 co)
  r0 : w.cell? ⟨go, 14, none⟩ = some (.int .i64 2)
  r1 : w.cell? ⟨go, 15, none⟩ = some (.int .i64 7)
  r2 : w.cell? ⟨go, 16, none⟩ = some (.int .i64 t)
  r3 : w.cell? ⟨go, 17, none⟩ = some (.int .i64 0)
  r4 : w.cell? ⟨go, 18, none⟩ = some (.int .i64 0)
  r5 : w.cell? ⟨go, 19, none⟩ = some (.int .i64 8)
theorem RootAt.only {p go : Nat} {t : Int} {F : List Nat} (h : RootAt w p go t) (ho : Only F w w') (hp : p ∉ F) (hg : go ∉ F) : RootAt w' p go t where
  lp := Nat.lt_of_lt_of_le h.lp ho.size
  lg := Nat.lt_of_lt_of_le h.lg ho.size
  c1 := by obtain ⟨co, e⟩ := h.c1; exact ⟨co, (ho.cell (p := ⟨p, 1, none⟩) h.lp hp).trans e⟩
  r0 := (ho.cell (p := ⟨go, 14, none⟩) h.lg hg).trans h.r0
  r1 := (ho.cell (p := ⟨go, 15, none⟩) h.lg hg).trans h.r1
  r2 := (ho.cell (p := ⟨go, 16, none⟩) h.lg hg).trans h.r2
  r3 := (ho.cell (p := ⟨go, 17, none⟩) h.lg hg).trans h.r3
  r4 := (ho.cell (p := ⟨go, 18, none⟩) h.lg hg).trans h.r4
  r5 := (ho.cell (p := ⟨go, 19, none⟩) h.lg hg).trans h.r5
theorem RefAt.rootAt {p gs go : Nat} {S : RSt} {t : Int} (h : RefM w p gs go S) (hr : (S.ob ((0 : Nat) : Int)).root = rootC t) : RootAt w p go t := by
  have h1 := h.ltP
  have h2 := h.ltO
  have h3 := h.cObjs
  obtain ⟨-, -, ⟨cur, q2, q3⟩⟩ := h
  obtain ⟨qv, q, -⟩ := q3 0 (by omega)
  have hc : ∀ (j : Nat) (v : Value), (objRow (S.ob ((0 : Nat) : Int)) qv)[j]? = some v → w.cell? ⟨go, j, none⟩ = some v := fun j v hv => by
    rw [q2.cell]
    have := q j v hv
    rwa [Nat.zero_mul, Nat.zero_add] at this
  refine ⟨h1, h2, h3, hc 14 _ ?_, hc 15 _ ?_, hc 16 _ ?_, hc 17 _ ?_, hc 18 _ ?_, hc 19 _ ?_⟩
  all_goals (unfold objRow; rw [hr]; rfl)
theorem boot1_root : ((bootS 1).ob ((0 : Nat) : Int)).root = rootC 1 := rfl
theorem boot2_root : ((bootS 2).ob ((0 : Nat) : Int)).root = rootC 2 := rfl
theorem boot1_any (w : World) : Calls Try.prog 7 #[.int .i64 1] w fun e w' => ∃ gs go, e = .returned (.pointer (some ⟨w.heap.size, 0, none⟩)) ∧ RefM w' w.heap.size gs go (bootS 1) ∧ w.heap.size ≤ gs ∧ w.heap.size ≤ go ∧ Only [] w w' := boot_any 1 (by decide) w
theorem boot2_any (w : World) : Calls Try.prog 7 #[.int .i64 2] w fun e w' => ∃ gs go, e = .returned (.pointer (some ⟨w.heap.size, 0, none⟩)) ∧ RefM w' w.heap.size gs go (bootS 2) ∧ w.heap.size ≤ gs ∧ w.heap.size ≤ go ∧ Only [] w w' := boot_any 2 (by decide) w
end
end Go.Proofs.Ytbklkpbcdijgoaa
