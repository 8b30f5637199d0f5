/- Capabilities made of others (layer 12): what the document's Derive, Move, Delete, One come to, as mathematics. -/
import Derived.Test.YtffoajakkghlbaaJ4
import Derived.Test.YtffoajakkghlbaaBootM
import Derived.Test.YtffoajakkghlbaaJ1
import Derived.Test.YtffoajakkghlbaaJ2
import Derived.Test.YtffoajakkghlbaaJ5
namespace Go.Proofs.Ytffoajakkghlbaa
open Go.RowKit
/-- a capability comes below another one -/
def belowS (S : RSt) (f t : Int) (c : Cp) : RSt := if linkN S t f = 0 then (linkS S t f).putC t c else S
/-- what the program's Delete tells (the document's own answer in the statements, rdelN in RefDel, tells 0 of a slot without a capability: see REPORT) -/
def delN (S : RSt) (i : Int) : Int := if slotOk i = false ∨ (S.cap i).kind = 0 then 2 else if S.kids i ≠ [] then 9 else 0
def delS (S : RSt) (i : Int) : RSt := if delN S i = 0 then (unlinkS S i).putC i Cp.zero else S
def oneS (S : RSt) (i : Int) : RSt := if leafS S i < 0 then S else if leafS S i = i then S else delS S (leafS S i)
end Go.Proofs.Ytffoajakkghlbaa
/- Untyped memory made into objects (layer 13): what the document's Cost, Retype come to, as mathematics. -/
namespace Go.Proofs.Ytffoajakkghlbaa
open Go.RowKit
/-- what an object costs; below 0: there is no such -/
def costZ (k b : Int) : Int := if b < 0 ∨ 8 < b then -1 else if k = 1 then 2 ^ b.toNat + 1 else if k = 2 ∧ b ≤ 5 then 2 ^ b.toNat else if 3 ≤ k ∧ k ≤ 7 ∧ b = 0 then 4 else -1
/-- is it an object of that kind -/
def isO (S : RSt) (i k : Int) : Bool := decide (0 ≤ i ∧ i ≤ 31 ∧ (S.ob i).kind = k)
/-- the slots that an object takes -/
def slotsZ (k b : Int) : Int := if k = 2 then costZ k b else 0
/-- the object that is made -/
def newO (S : RSt) (k b : Int) : RObj :=
  if k = 1 then { RObj.fresh k with size := costZ k b - 1 } else if k = 2 then { RObj.fresh k with first := S.ns, radix := b } else RObj.fresh k
/-- an error's number -/
def retN (S : RSt) (f t k b : Int) : Int :=
  if slotOk f = false ∨ slotOk t = false then 2
  else if (S.cap f).kind ≠ 1 ∨ isO S (S.cap f).obj 1 = false then 5
  else if hasR (S.cap f).rights 2 = false then 6
  else if (S.cap t).kind ≠ 0 ∨ 0 ≤ S.par t then 8
  else if costZ k b < 0 then 1
  else if (S.ob (S.cap f).obj).size - (S.ob (S.cap f).obj).used < costZ k b then 14
  else if 96 < S.ns + slotsZ k b ∨ 32 < S.no + 1 then 7
  else 0
/-- memory is used -/
def useS (S : RSt) (m c : Int) : RSt := S.putO m { S.ob m with used := (S.ob m).used + c }
def retOk (S : RSt) (f t k b : Int) : RSt :=
  belowS { (useS S (S.cap f).obj (costZ k b)).putO S.no (newO S k b) with ns := S.ns + slotsZ k b, no := S.no + 1 } f t (fullC k S.no)
def retS (S : RSt) (f t k b : Int) : RSt := if retN S f t k b = 0 then retOk S f t k b else S
/-- the object, and an error's number -/
def retA (S : RSt) (f t k b : Int) : Int × Int := (if retN S f t k b = 0 then S.no else 0, retN S f t k b)
theorem pow_rng {b : Int} (h : ¬ (b < 0 ∨ 8 < b)) : 1 ≤ (2 : Int) ^ b.toNat ∧ (2 : Int) ^ b.toNat ≤ 256 := pow_le b (by omega) (by omega)
theorem costZ_rng (k b : Int) : costZ k b = -1 ∨ (1 ≤ costZ k b ∧ costZ k b ≤ 257) := by
  unfold costZ
  split
  · exact .inl rfl
  · next h =>
    have := pow_rng h
    repeat' split
    all_goals omega
theorem costZ_kind {k b : Int} (h : ¬ costZ k b < 0) : (1 ≤ k ∧ k ≤ 7) ∧ 0 ≤ b ∧ b ≤ 8 := by
  unfold costZ at h
  split at h
  · omega
  · next h1 =>
    refine ⟨?_, by omega⟩
    split at h
    · omega
    · split at h
      · omega
      · split at h
        · omega
        · omega
theorem costZ_two {b : Int} (h : ¬ costZ 2 b < 0) : b ≤ 5 := by
  unfold costZ at h
  split at h
  · omega
  · rw [if_neg (by decide)] at h
    split at h
    · next h2 => exact h2.2
    · rw [if_neg (by omega)] at h; omega
section
variable {S : RSt} {f t k b : Int}
theorem retN_ok (h : retN S f t k b = 0) : (InS f ∧ InS t) ∧ ((S.cap f).kind = 1 ∧ isO S (S.cap f).obj 1 = true) ∧ hasR (S.cap f).rights 2 = true ∧ ((S.cap t).kind = 0 ∧ S.par t < 0) ∧ ¬ costZ k b < 0 ∧
    costZ k b ≤ (S.ob (S.cap f).obj).size - (S.ob (S.cap f).obj).used ∧ S.ns + slotsZ k b ≤ 96 ∧ S.no + 1 ≤ 32 := by
  unfold retN at h
  by_cases h1 : slotOk f = false ∨ slotOk t = false
  · rw [if_pos h1] at h; omega
  rw [if_neg h1] at h
  by_cases h2 : (S.cap f).kind ≠ 1 ∨ isO S (S.cap f).obj 1 = false
  · rw [if_pos h2] at h; omega
  rw [if_neg h2] at h
  by_cases h3 : hasR (S.cap f).rights 2 = false
  · rw [if_pos h3] at h; omega
  rw [if_neg h3] at h
  by_cases h4 : (S.cap t).kind ≠ 0 ∨ 0 ≤ S.par t
  · rw [if_pos h4] at h; omega
  rw [if_neg h4] at h
  by_cases h5 : costZ k b < 0
  · rw [if_pos h5] at h; omega
  rw [if_neg h5] at h
  by_cases h6 : (S.ob (S.cap f).obj).size - (S.ob (S.cap f).obj).used < costZ k b
  · rw [if_pos h6] at h; omega
  rw [if_neg h6] at h
  by_cases h7 : 96 < S.ns + slotsZ k b ∨ 32 < S.no + 1
  · rw [if_pos h7] at h; omega
  have hf : slotOk f = true := by cases hh : slotOk f <;> simp_all
  have ht : slotOk t = true := by cases hh : slotOk t <;> simp_all
  refine ⟨⟨slotOk_yes.1 hf, slotOk_yes.1 ht⟩, ⟨?_, ?_⟩, ?_, ?_, h5, by omega, by omega, by omega⟩
  · by_cases e : (S.cap f).kind = 1
    · exact e
    · exact absurd (.inl e) h2
  · cases e : isO S (S.cap f).obj 1 with
    | true => rfl
    | false => exact absurd (.inr e) h2
  · cases e : hasR (S.cap f).rights 2 with
    | true => rfl
    | false => exact absurd e h3
  · refine ⟨?_, by omega⟩
    by_cases e : (S.cap t).kind = 0
    · exact e
    · exact absurd (.inl e) h4
theorem retN_rng (S : RSt) (f t k b : Int) : retN S f t k b = 0 ∨ (1 ≤ retN S f t k b ∧ retN S f t k b ≤ 14) := by
  unfold retN
  repeat' split
  all_goals omega
end
end Go.Proofs.Ytffoajakkghlbaa
/- Left, Retype of package untyped on any view, as mathematics (layer 13). No dump is read here. -/
namespace Go.Proofs.Ytffoajakkghlbaa
open Go.RowKit
/-- what is left of an object -/
def uleftP (o : Int) : Vp Int := (isP o 1).bind fun q => if q = true then (fieldP o 1).bind fun a => (fieldP o 2).bind fun b => .ret (max 0 (a - b)) else .ret 0
/-- the memory of a capability, if an object may be made of it; and an error's number -/
def ubtwP (f t : Int) : Vp (Int × Int) :=
  if slotB f 0 = false ∨ slotB t 0 = false then .ret (0, 2) else
  (capP f).bind fun c => if c.kind ≠ 1 then .ret (0, 5) else
  (isP c.obj 1).bind fun q => if q = false then .ret (0, 5) else
  if hasR c.rights 2 = false then .ret (0, 6) else
  (capP t).bind fun d => if d.kind ≠ 0 then .ret (0, 8) else
  (toldP t 1).bind fun p => if 0 ≤ p then .ret (0, 8) else .ret (c.obj, 0)
/-- the fields of an object as it is made -/
def newF (k b sl : Int) (f : Nat) : Int := if f = 0 then k else if k = 1 ∧ f = 1 then costZ k b - 1 else if k = 2 ∧ f = 1 then sl else if k = 2 ∧ f = 2 then b else 0
/-- so many fields are put, from that one on -/
def uputsP (o : Int) (F : Nat → Int) : Nat → Nat → Vp Unit
  | _, 0 => .ret ()
  | j, n + 1 => (putP o j (F j)).bind fun _ => uputsP o F (j + 1) n
def ugiveP (f t : Int) (c : Cp) : Vp Int := (linkP t f).bind fun n => if n ≠ 0 then .ret n else csetP t c
def uretP (f t k b : Int) : Vp (Int × Int) :=
  (ubtwP f t).bind fun x => if x.2 ≠ 0 then .ret (0, x.2) else
  if costZ k b < 0 then .ret (0, 1) else
  (uleftP x.1).bind fun l => if l < costZ k b then .ret (0, 14) else
  (takeP (slotsZ k b) 1).bind fun y => if y.2.2 ≠ 0 then .ret (0, y.2.2) else
  (fieldP x.1 2).bind fun u =>
  (uputsP y.2.1 (newF k b y.1) 0 8).bind fun _ =>
  (putP x.1 2 (u + costZ k b)).bind fun _ =>
  (ugiveP f t (fullC k y.2.1)).bind fun n => if n ≠ 0 then .ret (0, n) else .ret (y.2.1, 0)
theorem getC_may (x : Int) : (getC x).may := by
  unfold getC
  split
  · next h => exact h
  · decide
theorem capP_may {σ : Type} {M : Mach σ} {s s1 : σ} {i : Int} {c : Cp} (h : (capP i).run M s = (c, s1)) : c.may := by
  unfold capP at h
  split at h
  · rw [Vp.run_rd, Vp.run_ret] at h
    cases h
    exact getC_may _
  · rw [Vp.run_ret] at h
    cases h
    decide
theorem and2_no {r : Int} (h0 : 0 ≤ r) (h7 : r ≤ 7) (h : hasR r 2 = false) : bits .and .i64 r 2 = 0 := by
  have q : ∀ a : Fin 8, hasR (a.val : Int) 2 = false → bits .and .i64 (a.val : Int) 2 = 0 := by decide +kernel
  exact fin8 (p := fun x => hasR x 2 = false → bits .and .i64 x 2 = 0) q h0 h7 h
theorem and2_yes {r : Int} (h0 : 0 ≤ r) (h7 : r ≤ 7) (h : ¬ hasR r 2 = false) : bits .and .i64 r 2 = 2 := by
  have q : ∀ a : Fin 8, ¬ hasR (a.val : Int) 2 = false → bits .and .i64 (a.val : Int) 2 = 2 := by decide +kernel
  exact fin8 (p := fun x => ¬ hasR x 2 = false → bits .and .i64 x 2 = 2) q h0 h7 h
end Go.Proofs.Ytffoajakkghlbaa
/- What below of package lay answers (layer 9): whether a number is 0 to one less than another one. -/
namespace Go.Proofs.Ytffoajakkghlbaa
open Go.RowKit
theorem below_any (n m : Int) (w : World) : Calls Try.prog 50 #[.int .i64 n, .int .i64 m] w fun e w' => e = .returned (.bool (belowB n m)) ∧ w' = w := by
  go_enter Try.func50, Try.ntmps50
  go_wp2
  all_goals go_ret
  all_goals exact ⟨by simp [belowB, *] <;> omega, rfl⟩
theorem below_is {n m : Int} {q : Bool} (h : belowB n m = q) (w : World) : Calls Try.prog 50 #[.int .i64 n, .int .i64 m] w fun e w' => e = .returned (.bool q) ∧ w' = w := h ▸ below_any n m w
end Go.Proofs.Ytffoajakkghlbaa
/- What Slot of package lay answers (layer 9): a slot's word. -/
namespace Go.Proofs.Ytffoajakkghlbaa
open Go.RowKit
theorem slot_any (i f : Int) (w : World) : Calls Try.prog 46 #[.int .i64 i, .int .i64 f] w fun e w' => e = .returned (.tuple #[.int .i64 (slotI i f), .bool (slotB i f)]) ∧ w' = w := by
  by_cases h1 : belowB i 96 = true
  · have hi := belowB_yes.1 h1
    by_cases h2 : belowB f 5 = true
    · have hf := belowB_yes.1 h2
      have hs : slotB i f = true := slotB_yes.2 ⟨hi.1, hi.2, hf.1, hf.2⟩
      rw [slotI_yes hs, hs]
      have H1 := Lib.hid h1
      have H2 := Lib.hid h2
      clear h1 h2 hs
      go_enter Try.func46, Try.ntmps46
      go_wp2_with (go_at_call 50; (first | (with_reducible refine (below_is H1.out _).mono ?_) | (with_reducible refine (below_is H2.out _).mono ?_)); rintro e w' ⟨rfl, rfl⟩)
      go_ret2
      exact ⟨by go_num, rfl⟩
    · replace h2 : belowB f 5 = false := by simpa using h2
      have hs : slotB i f = false := slotB_no.2 (.inr (belowB_no.1 h2))
      rw [slotI_no hs, hs]
      have H1 := Lib.hid h1
      have H2 := Lib.hid h2
      clear h1 h2 hs
      go_enter Try.func46, Try.ntmps46
      go_wp2_with (go_at_call 50; (first | (with_reducible refine (below_is H1.out _).mono ?_) | (with_reducible refine (below_is H2.out _).mono ?_)); rintro e w' ⟨rfl, rfl⟩)
      go_ret2
      exact ⟨rfl, rfl⟩
  · replace h1 : belowB i 96 = false := by simpa using h1
    have hs : slotB i f = false := slotB_no.2 (.inl (belowB_no.1 h1))
    rw [slotI_no hs, hs]
    have H1 := Lib.hid h1
    clear h1 hs
    go_enter Try.func46, Try.ntmps46
    go_wp2_with (go_at_call 50; (with_reducible refine (below_is H1.out _).mono ?_); rintro e w' ⟨rfl, rfl⟩)
    go_ret2
    exact ⟨rfl, rfl⟩
theorem slot_is {i f x : Int} {q : Bool} (hx : slotI i f = x) (h : slotB i f = q) (w : World) : Calls Try.prog 46 #[.int .i64 i, .int .i64 f] w fun e w' => e = .returned (.tuple #[.int .i64 x, .bool q]) ∧ w' = w := hx ▸ h ▸ slot_any i f w
end Go.Proofs.Ytffoajakkghlbaa
