/- The document's example of layer 10: it answers true. -/
import Derived.Test.YtopbbpjjiamdcaaCdtPlain
import Derived.Test.YtopbbpjjiamdcaaCdtCur
namespace Go.Proofs.Ytopbbpjjiamdcaa
open Go.RowKit
def upS1 : RSt := linkS RSt.new 1 0
def upS2 : RSt := linkS upS1 2 0
def upL1 : List Int := linkL zeros 1 0
def upL2 : List Int := linkL upL1 2 0
theorem up_n1 : linkN RSt.new 1 0 = 0 := by decide
theorem up_n2 : linkN upS1 2 0 = 0 := by decide
theorem up_c1 : linkA zeros 1 0 = 0 ∧ Cur upL1 upS1 := by
  have := Cur.new.link 1 0
  rwa [up_n1] at this
theorem up_c2 : linkA upL1 2 0 = 0 ∧ Cur upL2 upS2 := by
  have := up_c1.2.link 2 0
  rwa [up_n2] at this
theorem up_kids : kidsL upL2 0 = [2, 1] := by rw [up_c2.2.kids]; decide
theorem up_par : toldL upL2 1 1 = 0 := by rw [up_c2.2.par]; decide
theorem up_leaf : leafL upL2 0 = 2 := by rw [up_c2.2.leaf]; decide
theorem up_n3 : linkA upL2 96 0 = 2 := by rw [(up_c2.2.link 96 0).1]; decide
set_option maxRecDepth 100000 in
set_option maxHeartbeats 1000000 in
theorem up_any (w : World) : Calls Try.prog 5 #[] w fun e w' => e = .returned (.bool true) ∧ Only [] w w' := by
  have hm := memP_new w
  have ho := (Only.refl [] w).alloc (.cells zerosA UT)
  have hq := fun (a : Int) (W : World) => Lib.run_eql_iface_int (P := Try.prog) W (t := 31) (tx := 53) (k := .i64) 2 a Try.underlying31 (by kernel_rfl) Try.underlying53
  have hN : ∀ y, y ∈ [w.heap.size] → y ∈ ([] : List Nat) ∨ w.heap.size ≤ y := fun y hy => .inr (by simp at hy; omega)
  have HN := Lib.hid hN
  have HH := Lib.hid (And.intro hm ho)
  clear hm ho hN
  go_enter Try.func5, Try.ntmps5
  go_wp2
  rw [made_words]
  go_wp2_with fail
  obtain ⟨w0, hw0⟩ : ∃ w0, w0 = w.alloc (.cells zerosA UT) := ⟨_, rfl⟩
  rw [← hw0] at HH ⊢
  (with_reducible refine (plink_is (L' := upL1) HH.out.1 up_c1.1 rfl).mono ?_)
  rintro e w1 ⟨rfl, hm1, ho1⟩
  have ho1 := HH.out.2.then ho1 HN.out
  go_wp2_with fail
  (with_reducible refine (plink_is (L' := upL2) hm1 up_c2.1 rfl).mono ?_)
  rintro e w2 ⟨rfl, hm2, ho2⟩
  have ho2 := ho1.then ho2 HN.out
  go_wp2_with fail
  (with_reducible refine (pkids_is hm2 up_kids).mono ?_)
  rintro e w3 ⟨u, rfl, hu, hm3, ho3⟩
  have ho3 := ho2.then ho3 HN.out
  obtain ⟨A, cp, rfl, -⟩ : ∃ A cp, u = .slice A 2 cp ∧ True := by obtain ⟨A, cp, e, -⟩ := hu; exact ⟨A, cp, e, trivial⟩
  obtain ⟨g, rfl, hg, d0⟩ := hu.cell (k := 0) (x := 2) rfl rfl
  obtain ⟨g', e, -, d1⟩ := hu.cell (k := 1) (x := 1) rfl rfl
  cases e
  clear hm1 ho1 hm2 ho2 hu
  rw [errV_nil]
  go_wp2_with fail
  (with_reducible refine (pparent_is hm3 up_par).mono ?_)
  rintro e w4 ⟨rfl, hm4, ho4⟩
  have ho4 := ho3.then ho4 HN.out
  clear hm3 ho3 d0 d1
  go_wp2_with fail
  (with_reducible refine (pleaf_is hm4 up_leaf).mono ?_)
  rintro e w5 ⟨rfl, hm5, ho5⟩
  have ho5 := ho4.then ho5 HN.out
  clear hm4 ho4
  go_wp2_with fail
  (with_reducible refine (plink_is hm5 up_n3 rfl).mono ?_)
  rintro e w6 ⟨rfl, hm6, ho6⟩
  have ho6 := ho5.then ho6 HN.out
  clear hm5 ho5 hm6
  rw [show errV 2 = .iface 53 (.int .i64 2) from rfl]
  go_wp2_with fail
  go_ret
  exact ⟨rfl, ho6⟩
end Go.Proofs.Ytopbbpjjiamdcaa
