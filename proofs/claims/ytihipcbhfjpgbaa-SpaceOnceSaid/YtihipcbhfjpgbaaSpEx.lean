/- The document's example of layer 18. -/
import Derived.Test.YtihipcbhfjpgbaaJ13
import Derived.Test.YtihipcbhfjpgbaaRefWordsG
import Derived.Lib.IfaceEq
namespace Go.Proofs.Ytihipcbhfjpgbaa
open Go.RowKit
def spS1 : RSt := mapS (begS 6) 1 4 2 3
theorem spS1_sp : SP spS1 := begS_sp.map
set_option maxRecDepth 100000 in
set_option maxHeartbeats 1000000 in
theorem sup_any (w : World) : Calls Try.prog 5 #[] w fun e w' => e = .returned (.bool true) ∧ Only [] w w' := by
  have cB := begun_any w
  go_enter Try.func5, Try.ntmps5
  go_wp2_with fail
  (with_reducible refine cB.mono ?_)
  clear cB
  rintro e w1 ⟨gs, go, rfl, hr, -, -, ho1⟩
  have cW := rwordsG_any hr begS_sp.sok.fitG
  go_wp2_with fail
  (with_reducible refine cW.mono ?_)
  clear cW
  rintro e w2 ⟨rfl, hm2, ho2⟩
  have hgw := ho1.size
  replace ho2 := ho1.trans ho2
  obtain ⟨g, hg⟩ : ∃ g, Hid (w1.heap.size = g) := ⟨_, Lib.hid rfl⟩
  rw [hg.out] at hm2 hgw ⊢
  have HK := Lib.hid fun (W W' : World) (o : Only [] w W) (o' : Only [g] W W') => o.then o' (fun y hy => .inr (by simp at hy; rw [hy]; exact hgw))
  have HO := Lib.hid ho2
  have c1 : Calls Try.prog 10 #[pvw g, .int .i64 1, .int .i64 4, .int .i64 2, .int .i64 3] w2 fun e w' => e = .returned .nilIface ∧ MemP g 738 UT w' (wordsG spS1) ∧ Only [g] w2 w' := smap_is hm2 begS_sp 1 4 2 3
  clear hr ho1 hm2 ho2 hgw hg
  clear w1
  go_wp2_with fail
  (with_reducible refine c1.mono ?_)
  clear c1
  rintro e w3 ⟨rfl, hm3, ho3⟩
  have HO3 := Lib.hid (HK.out _ _ HO.out ho3)
  have c2 := spage_is hm3 spS1_sp (s := 4) (p := 2) (x := 1) (r := 3) (q := true) (by decide)
  clear hm3 ho3 HO
  go_wp2_with fail
  (with_reducible refine c2.mono ?_)
  clear c2
  rintro e w4 ⟨rfl, hm4, ho4⟩
  have HO4 := Lib.hid (HK.out _ _ HO3.out ho4)
  have c3 := spage_is hm4 spS1_sp (s := 4) (p := 1) (x := 0) (r := 0) (q := false) (by decide)
  clear hm4 ho4 HO3
  go_wp2_with fail
  (with_reducible refine c3.mono ?_)
  clear c3
  rintro e w5 ⟨rfl, hm5, ho5⟩
  have HO5 := Lib.hid (HK.out _ _ HO4.out ho5)
  have c4 : Calls Try.prog 8 #[pvw g, .int .i64 0] w5 fun e w' => e = .returned (.iface 53 (.int .i64 10)) ∧ MemP g 738 UT w' (wordsG spS1) ∧ Only [g] w5 w' := sunm_is hm5 spS1_sp 0
  have hq := fun (n a : Int) (W : World) => Lib.run_eql_iface_int (P := Try.prog) W (t := 32) (tx := 53) (k := .i64) n a Try.underlying32 (by kernel_rfl) Try.underlying53
  clear hm5 ho5 HO4
  go_wp2_with fail
  (with_reducible refine c4.mono ?_)
  clear c4
  rintro e w6 ⟨rfl, hm6, ho6⟩
  have HO6 := Lib.hid (HK.out _ _ HO5.out ho6)
  have c5 : Calls Try.prog 10 #[pvw g, .int .i64 4, .int .i64 4, .int .i64 0, .int .i64 0] w6 fun e w' => e = .returned (.iface 53 (.int .i64 2)) ∧ MemP g 738 UT w' (wordsG spS1) ∧ Only [g] w6 w' := smap_is hm6 spS1_sp 4 4 0 0
  clear hm6 ho6 HO5
  go_wp2_with fail
  (with_reducible refine c5.mono ?_)
  clear c5
  rintro e w7 ⟨rfl, hm7, ho7⟩
  go_wp2_with fail
  go_ret
  exact ⟨rfl, HK.out _ _ HO6.out ho7⟩
end Go.Proofs.Ytihipcbhfjpgbaa
