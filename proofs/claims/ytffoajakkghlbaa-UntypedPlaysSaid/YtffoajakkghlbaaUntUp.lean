/- The document's example of layer 13. -/
import Derived.Test.YtffoajakkghlbaaJ16
import Derived.Test.YtffoajakkghlbaaBoot
import Derived.Test.YtffoajakkghlbaaRefWordsG
import Derived.Lib.IfaceEq
namespace Go.Proofs.Ytffoajakkghlbaa
open Go.RowKit
def uS0 : RSt := bootU 0 8
def uS1 : RSt := retS uS0 8 20 3 0
theorem uS0_ok : Uok uS0 := bootU_uok (by decide) (by decide)
theorem uS1_ok : Uok uS1 := uS0_ok.ret _ _ _ _
theorem u_ret : retA uS0 8 20 3 0 = (8, 0) := by decide
theorem u_left : leftZ uS1 2 = 4 := by decide
theorem ucost_is {k b c r : Int} {q : Bool} (h : costZ k b = c) (hr : (if c < 0 then 0 else c) = r) (hq : (!decide (c < 0)) = q) (w : World) : Calls Try.prog 7 #[.int .i64 k, .int .i64 b] w fun e w' => e = .returned (.tuple #[.int .i64 r, .bool q]) ∧ Only [] w w' := by
  subst h hr hq
  exact ucost_any k b w
set_option maxRecDepth 100000 in
set_option maxHeartbeats 2000000 in
theorem up_any (w : World) : Calls Try.prog 6 #[] w fun e w' => e = .returned (.bool true) ∧ Only [] w w' := by
  have cB : Calls Try.prog 9 #[.int .i64 0] w fun e w' => ∃ gs go, e = .returned (.pointer (some ⟨w.heap.size, 0, none⟩)) ∧ RefM w' w.heap.size gs go (bootS 0) ∧ w.heap.size ≤ gs ∧ w.heap.size ≤ go ∧ Only [] w w' := boot_any 0 (by decide) w
  have cC1 : ∀ W, Calls Try.prog 7 #[.int .i64 2, .int .i64 3] W fun e w' => e = .returned (.tuple #[.int .i64 8, .bool true]) ∧ Only [] W w' := fun W => ucost_is (k := 2) (b := 3) (c := 8) (by decide) (by decide) (by decide) W
  have cC2 : ∀ W, Calls Try.prog 7 #[.int .i64 8, .int .i64 0] W fun e w' => e = .returned (.tuple #[.int .i64 0, .bool false]) ∧ Only [] W w' := fun W => ucost_is (k := 8) (b := 0) (c := -1) (by decide) (by decide) (by decide) W
  have HC1 := Lib.hid cC1
  have HC2 := Lib.hid cC2
  clear cC1 cC2
  go_enter Try.func6, Try.ntmps6
  go_wp2_with fail
  (with_reducible refine cB.mono ?_)
  clear cB
  rintro e w1 ⟨gs, go, rfl, hr, -, hgo, ho1⟩
  obtain ⟨co, c1⟩ := hr.cObjs
  obtain ⟨v, e, f⟩ : ∃ v, w1.cell? ⟨go, 65, none⟩ = some v ∧ w1.frozen? ⟨go, 65, none⟩ = false := hr.fld (i := 2) (j := 1) (by omega) (by omega)
  obtain ⟨hr2, ho2⟩ := hr.setField (by decide) (by decide) (by decide) (i := 2) (j := 1) (by omega) (by omega) (.int .i64 8) { (bootS 0).ob ((2 : Nat) : Int) with size := 8 } (fun _ => rfl) rfl
  replace hr2 : RefM (w1.setCell ⟨go, 65, none⟩ (.int .i64 8)) w.heap.size gs go uS0 := hr2
  replace ho2 : Only [go] w1 (w1.setCell ⟨go, 65, none⟩ (.int .i64 8)) := ho2
  have H2 := Lib.hid (And.intro hr2 (ho1.then ho2 (fun y hy => .inr (by simp at hy; rw [hy]; exact hgo))))
  clear hr2 ho2 hr ho1
  go_upto_region 3 with fail
  obtain ⟨w2, hw2⟩ : ∃ X2, X2 = w1.setCell ⟨go, 65, none⟩ (.int .i64 8) := ⟨_, rfl⟩
  rw [← hw2] at H2 ⊢
  clear hw2 c1 e f hgo
  clear w1
  have cW := rwordsG_any H2.out.1 uS0_ok.sok.fitG
  go_wp2_with fail
  (with_reducible refine cW.mono ?_)
  clear cW
  rintro e w3 ⟨rfl, hm3, ho3⟩
  have hgw := H2.out.2.size
  replace ho3 := H2.out.2.trans ho3
  obtain ⟨g, hg⟩ : ∃ g, Hid (w2.heap.size = g) := ⟨_, Lib.hid rfl⟩
  rw [hg.out] at hm3 hgw ⊢
  have HK := Lib.hid fun (W W' : World) (o : Only [] w W) (o' : Only [g] W W') => o.then o' (fun y hy => .inr (by simp at hy; rw [hy]; exact hgw))
  have c3 := uret_is hm3 uS0_ok 8 20 3 0
  rw [u_ret, errV_nil] at c3
  have HO := Lib.hid ho3
  clear H2 hm3 ho3 hgw hg
  clear w2
  go_wp2_with fail
  (with_reducible refine c3.mono ?_)
  clear c3
  rintro e w4 ⟨rfl, hm4, ho4⟩
  have HO4 := Lib.hid (HK.out _ _ HO.out ho4)
  clear ho4 HO
  go_wp2_with fail
  (with_reducible refine (HC1.out _).mono ?_)
  rintro e w5 ⟨rfl, ho5⟩
  have hm5 := hm4.only ho5 (by simp)
  have HO5 := Lib.hid (HO4.out.trans ho5)
  clear ho5 HO4 hm4
  go_wp2_with fail
  (with_reducible refine (HC2.out _).mono ?_)
  rintro e w6 ⟨rfl, ho6⟩
  have hm6 := hm5.only ho6 (by simp)
  have HO6 := Lib.hid (HO5.out.trans ho6)
  have c6 := uleft_is (S := uS1) hm6 uS1_ok 2
  rw [u_left] at c6
  clear ho6 HO5 hm5 hm6
  go_wp2_with fail
  (with_reducible refine c6.mono ?_)
  clear c6
  rintro e w7 ⟨rfl, hm7, ho7⟩
  have HO7 := Lib.hid (HK.out _ _ HO6.out ho7)
  clear ho7 HO6 hm7
  go_wp2_with fail
  go_ret
  exact ⟨rfl, HO7.out⟩
end Go.Proofs.Ytffoajakkghlbaa
