/- The words of a boot state (layers 11 to 22), those that a look-up reads, as mathematics; what a look-up comes to on them. -/
import Derived.Test.YtbklkpbcdijgoaaBootM
import Derived.Test.YtbklkpbcdijgoaaRefSpecM
import Derived.Test.YtbklkpbcdijgoaaCsM
namespace Go.Proofs.Ytbklkpbcdijgoaa
open Go.RowKit
section
variable {S : RSt}
theorem RSt.Plainly.far (h : S.Plainly) {j : Int} {n m : Nat} (hnm : n ≤ m) (hj : ∀ i : Nat, n ≤ i → i < m → ∀ f : Nat, f ≤ 7 → j ≠ ow i f) (c : Int) : effs S j c m = effs S j c n :=
  effs_far hnm fun i a b d => effF_far (fun f hf => hj i a b f hf) (fun t ht => by rw [h.bare] at ht; simp at ht)
theorem RSt.Plainly.slot_word (h : S.Plainly) {i : Int} (hi : InS i) : atL (wordsG S) (5 * i) = (S.cap i).word := by
  have h0 := hi.1
  have h1 := hi.2
  rw [wordsG_at S ⟨by omega, by omega⟩, putF_ne (by omega), putF_ne (by omega), h.far (n := 0) (by omega) (fun k _ _ f _ => by unfold ow; omega)]
  exact (slotsL_rep h.tree).2.1 i hi
theorem RSt.Plainly.obj_word (h : S.Plainly) {o f : Nat} (ho : o < 32) (hf : f < 8) : atL (wordsG S) ((480 + 8 * o + f : Nat) : Int) = effF o (S.ob o) ((480 + 8 * o + f : Nat) : Int) 0 := by
  rw [wordsG_at S ⟨by omega, by omega⟩, putF_ne (by omega), putF_ne (by omega), h.far (n := o + 1) (by omega) (fun k _ _ g _ => by unfold ow; omega)]
  rw [show effs S ((480 + 8 * o + f : Nat) : Int) (atL (slotsL S) ((480 + 8 * o + f : Nat) : Int)) (o + 1) = effF o (S.ob o) ((480 + 8 * o + f : Nat) : Int) (effs S ((480 + 8 * o + f : Nat) : Int) (atL (slotsL S) ((480 + 8 * o + f : Nat) : Int)) o) from rfl]
  rw [h.far (n := 0) (by omega) (fun k _ _ g _ => by unfold ow; omega)]
  rw [show effs S ((480 + 8 * o + f : Nat) : Int) (atL (slotsL S) ((480 + 8 * o + f : Nat) : Int)) 0 = atL (slotsL S) ((480 + 8 * o + f : Nat) : Int) from rfl, (slotsL_rep h.tree).2.2 _ (by omega)]
end
/-- the words of a boot state -/
abbrev bootL (t : Nat) : List Int := wordsG (bootS t)
theorem nodeL_is {L : List Int} {c : Cp} {a r : Int} {o : Nat} (hk : c.kind = 2) (ho : c.obj = o) (h32 : o < 32) (h0 : atL L ((480 + 8 * o + 0 : Nat) : Int) = 2) (h1 : atL L ((480 + 8 * o + 1 : Nat) : Int) = a) (h2 : atL L ((480 + 8 * o + 2 : Nat) : Int) = r) (ha : a ≤ 100) (hr : r ≤ 100) : nodeL L c = nodeN a r := by
  have b0 : objB (o : Int) 0 = true := objB_yes.2 ⟨by omega, by omega, by omega, by omega⟩
  have b1 : objB (o : Int) 1 = true := objB_yes.2 ⟨by omega, by omega, by omega, by omega⟩
  have b2 : objB (o : Int) 2 = true := objB_yes.2 ⟨by omega, by omega, by omega, by omega⟩
  have hI : isL L c.obj 2 = true := by
    unfold isL
    rw [ho, b0, show (480 : Int) + 8 * (o : Int) = ((480 + 8 * o + 0 : Nat) : Int) by omega, h0]
    rfl
  have hA : fieldL L c.obj 1 = a := by
    unfold fieldL
    rw [ho, if_pos b1, show (480 : Int) + 8 * (o : Int) + 1 = ((480 + 8 * o + 1 : Nat) : Int) by omega, h1, numI, if_neg (by omega)]
  have hR : fieldL L c.obj 2 = r := by
    unfold fieldL
    rw [ho, if_pos b2, show (480 : Int) + 8 * (o : Int) + 2 = ((480 + 8 * o + 2 : Nat) : Int) by omega, h2, numI, if_neg (by omega)]
  unfold nodeL
  rw [if_pos ⟨hk, hI⟩, hA, hR]
theorem node_at {t o : Nat} {c : Cp} {a r : Int} (ht : t ≤ 7) (hk : c.kind = 2) (ho : c.obj = o) (h32 : o < 32) (h0 : effF o ((bootS t).ob o) ((480 + 8 * o + 0 : Nat) : Int) 0 = 2) (h1 : effF o ((bootS t).ob o) ((480 + 8 * o + 1 : Nat) : Int) 0 = a) (h2 : effF o ((bootS t).ob o) ((480 + 8 * o + 2 : Nat) : Int) 0 = r) (ha : a ≤ 100) (hr : r ≤ 100) : nodeL (bootL t) c = nodeN a r :=
  nodeL_is hk ho h32 (by rw [(boot_plainly ht).obj_word h32 (by omega), h0]) (by rw [(boot_plainly ht).obj_word h32 (by omega), h1]) (by rw [(boot_plainly ht).obj_word h32 (by omega), h2]) ha hr
theorem cap_at {t : Nat} (ht : t ≤ 7) {i : Int} (hi : InS i) {c : Cp} (h : getC ((bootS t).cap i).word = c) : capL (bootL t) i = c := by
  unfold capL
  rw [if_pos (slotB_yes.2 ⟨hi.1, hi.2, by omega, by omega⟩), (boot_plainly ht).slot_word hi, h]
theorem b1_root : nodeL (bootL 1) (rootC 1) = (0, 3, true) := (node_at (t := 1) (o := 1) (a := 0) (r := 3) (by decide) rfl rfl (by decide) (by decide) (by decide) (by decide) (by decide) (by decide)).trans (by decide)
theorem b1_big : nodeL (bootL 1) (fullC 2 2) = (8, 5, true) := (node_at (t := 1) (o := 2) (a := 8) (r := 5) (by decide) rfl rfl (by decide) (by decide) (by decide) (by decide) (by decide) (by decide)).trans (by decide)
theorem b2_root : nodeL (bootL 2) (rootC 2) = (0, 3, true) := (node_at (t := 2) (o := 2) (a := 0) (r := 3) (by decide) rfl rfl (by decide) (by decide) (by decide) (by decide) (by decide) (by decide)).trans (by decide)
theorem b2_big : nodeL (bootL 2) (fullC 2 3) = (8, 5, true) := (node_at (t := 2) (o := 3) (a := 8) (r := 5) (by decide) rfl rfl (by decide) (by decide) (by decide) (by decide) (by decide) (by decide)).trans (by decide)
theorem in_S {i : Int} (h0 : 0 ≤ i) (h1 : i < 96) : InS i := ⟨h0, h1⟩
theorem b1_c0 : capL (bootL 1) 0 = fullC 2 2 := cap_at (by decide) (in_S (by decide) (by decide)) rfl
theorem b1_c9 : capL (bootL 1) 9 = fullC 3 4 := cap_at (by decide) (in_S (by decide) (by decide)) rfl
theorem b2_c0 : capL (bootL 2) 0 = fullC 2 3 := cap_at (by decide) (in_S (by decide) (by decide)) rfl
theorem b2_c1 : capL (bootL 2) 1 = rootC 2 := cap_at (by decide) (in_S (by decide) (by decide)) rfl
theorem b2_cn {i : Int} (h : 2 ≤ i ∧ i ≤ 7) : capL (bootL 2) i = Cp.zero := by
  obtain rfl | rfl | rfl | rfl | rfl | rfl : i = 2 ∨ i = 3 ∨ i = 4 ∨ i = 5 ∨ i = 6 ∨ i = 7 := by omega
  all_goals exact cap_at (by decide) (in_S (by decide) (by decide)) rfl
/- steps -/
section
variable {L : List Int} {addr l a r x y z : Int} {n : Nat} {c d : Cp}
theorem goL_no (h : (nodeL L c).2.2 = false) : goL L addr (n + 1) c l = (0, 4) := by unfold goL; rw [if_pos h]
theorem goL_err (h : nodeL L c = (a, r, true)) (hw : walkP addr l c.guard c.bits r = (x, y, z)) (hz : z ≠ 0) : goL L addr (n + 1) c l = (0, z) := by
  unfold goL
  rw [h, if_neg (by simp), hw, if_pos hz]
theorem goL_here (h : nodeL L c = (a, r, true)) (hw : walkP addr l c.guard c.bits r = (x, 0, 0)) : goL L addr (n + 1) c l = (a + x, 0) := by
  unfold goL
  rw [h, if_neg (by simp), hw, if_neg (by simp), if_pos rfl]
theorem goL_on (h : nodeL L c = (a, r, true)) (hw : walkP addr l c.guard c.bits r = (x, y, 0)) (hy : y ≠ 0) (hd : capL L (a + x) = d) : goL L addr (n + 1) c l = goL L addr n d y := by
  show (if _ then _ else _) = _
  rw [h, if_neg (by simp), hw, if_neg (by simp), if_neg hy, hd]
end
theorem b1_look : lookL (bootL 1) (rootC 1) 3 = (11, 0) := by
  unfold lookL
  rw [if_neg (by decide), if_pos (by unfold fineL; rw [b1_root]), goL_on (n := 15) b1_root (show walkP 3 16 (rootC 1).guard (rootC 1).bits 3 = (0, 5, 0) by decide) (by decide) b1_c0, goL_here (n := 14) b1_big (show walkP 3 5 (fullC 2 2).guard (fullC 2 2).bits 5 = (3, 0, 0) by decide)]
  rfl
theorem b1_far : lookL (bootL 1) (rootC 1) 256 = (0, 3) := by
  unfold lookL
  rw [if_neg (by decide), if_pos (by unfold fineL; rw [b1_root]), goL_err (n := 15) b1_root (show walkP 256 16 (rootC 1).guard (rootC 1).bits 3 = (0, 0, 3) by decide) (by decide)]
theorem b1_fine : fineL (bootL 1) (rootC 1) = true := by unfold fineL; rw [b1_root]
theorem b1_not : fineL (bootL 1) (fullC 3 4) = false := by
  unfold fineL nodeL
  rw [if_neg (fun h => absurd h.1 (by decide))]
/-- an address of the second CNode is found at that index -/
theorem b2_look {i : Int} (h0 : 0 ≤ i) (h1 : i ≤ 31) : lookL (bootL 2) (rootC 2) i = (8 + i, 0) := by
  have a0 : addrB i 16 = true := (addrB_iff _ _).2 ⟨⟨h0, by omega⟩, by decide, by decide⟩
  have a1 : addrB i 5 = true := (addrB_iff _ _).2 ⟨⟨h0, by omega⟩, by decide, by decide⟩
  have w0 : walkP i 16 (rootC 2).guard (rootC 2).bits 3 = (0, 5, 0) := by
    show walkP i 16 0 8 3 = _
    rw [walkP_ok a0 (by decide) (by decide) (by decide) (by decide) (by unfold topI; show i / 256 % 256 = 0; omega)]
    congr 1
    unfold topI
    show i / 32 % 8 = 0
    omega
  have w1 : walkP i 5 (fullC 2 3).guard (fullC 2 3).bits 5 = (i, 0, 0) := by
    show walkP i 5 0 0 5 = _
    rw [walkP_ok a1 (by decide) (by decide) (by decide) (by decide) (by unfold topI; show i / 32 % 1 = 0; omega)]
    congr 1
    unfold topI
    show i / 1 % 32 = i
    omega
  unfold lookL
  rw [if_neg (by omega), if_pos (by unfold fineL; rw [b2_root]), goL_on (n := 15) b2_root w0 (by decide) b2_c0, goL_here (n := 14) b2_big w1]
/-- no other is -/
theorem b2_none {i : Int} (h : i < 0 ∨ 31 < i) : (lookL (bootL 2) (rootC 2) i).2 ≠ 0 := by
  unfold lookL
  by_cases ho : i < 0 ∨ 65536 ≤ i
  · rw [if_pos ho]
    decide
  · have a0 : addrB i 16 = true := (addrB_iff _ _).2 ⟨⟨by omega, by omega⟩, by decide, by decide⟩
    have a1 : addrB i 5 = true := (addrB_iff _ _).2 ⟨⟨by omega, by omega⟩, by decide, by decide⟩
    rw [if_neg ho, if_pos (by unfold fineL; rw [b2_root])]
    by_cases hg : i / 256 % 256 = 0
    · have w0 : walkP i 16 (rootC 2).guard (rootC 2).bits 3 = (i / 32 % 8, 5, 0) := by
        show walkP i 16 0 8 3 = _
        rw [walkP_ok a0 (by decide) (by decide) (by decide) (by decide) (by unfold topI; exact hg)]
        rfl
      have hn : 1 ≤ i / 32 % 8 ∧ i / 32 % 8 ≤ 7 := by omega
      by_cases h1 : i / 32 % 8 = 1
      · have w1 : walkP i 5 (rootC 2).guard (rootC 2).bits 3 = (0, 0, 4) := by
          show walkP i 5 0 8 3 = _
          rw [walkP_deep a1 (by decide) (by decide) (by decide) (by decide)]
        rw [goL_on (n := 15) (d := rootC 2) b2_root w0 (by decide) (by rw [h1]; exact b2_c1), goL_err (n := 14) b2_root w1 (by decide)]
        decide
      · rw [goL_on (n := 15) b2_root w0 (by decide) (b2_cn (i := 0 + i / 32 % 8) (by omega)), goL_no (n := 14) (by unfold nodeL; rw [if_neg (fun h => absurd h.1 (by decide))])]
        decide
    · have w0 : walkP i 16 (rootC 2).guard (rootC 2).bits 3 = (0, 0, 3) := by
        show walkP i 16 0 8 3 = _
        rw [walkP_other a0 (by decide) (by decide) (by decide) (by decide) (by unfold topI; exact hg)]
      rw [goL_err (n := 15) b2_root w0 (by decide)]
      decide
end Go.Proofs.Ytbklkpbcdijgoaa
