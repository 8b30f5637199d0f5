/- The document's example of layer 12: it answers true. -/
import Derived.Test.YtlhcigpllkigdaaDerDo
import Derived.Test.YtlhcigpllkigdaaBoot
import Derived.Test.YtlhcigpllkigdaaRefWordsG
import Derived.Test.YtlhcigpllkigdaaCsCapP
import Derived.Lib.IfaceEq
namespace Go.Proofs.Ytlhcigpllkigdaa
open Go.RowKit
def dS1 : RSt := derS (bootS 1) 9 20 3 0 false
def dS2 : RSt := oneS dS1 9
theorem dS1_ok : Dok dS1 := (boot_dok (by decide)).der _ _ _ _ _
theorem dS2_ok : Dok dS2 := dS1_ok.one _
theorem d_copy : derN (bootS 1) 9 20 3 0 false = 0 := by decide
theorem d_del : delN dS1 9 = 9 := by decide
theorem d_dels : delS dS1 9 = dS1 := by unfold delS; rw [if_neg (by rw [d_del]; decide)]
theorem d_one : oneA dS1 9 = (true, 0) := by decide
theorem d_cap : dS2.cap 20 = Cp.zero := rfl
theorem d_type : derN dS2 8 20 7 0 false = 5 := by decide
set_option maxRecDepth 100000 in
set_option maxHeartbeats 2000000 in
theorem up_any (w : World) : Calls Try.prog 4 #[] w fun e w' => e = .returned (.bool true) ∧ Only [] w w' := by
  have hq5 := fun (a : Int) (W : World) => Lib.run_eql_iface_int (P := Try.prog) W (t := 34) (tx := 42) (k := .i64) 5 a Try.underlying34 (by kernel_rfl) Try.underlying42
  have hq9 := fun (a : Int) (W : World) => Lib.run_eql_iface_int (P := Try.prog) W (t := 34) (tx := 42) (k := .i64) 9 a Try.underlying34 (by kernel_rfl) Try.underlying42
  have cB : Calls Try.prog 5 #[.int .i64 1] w fun e w' => ∃ gs go, e = .returned (.pointer (some ⟨w.heap.size, 0, none⟩)) ∧ RefM w' w.heap.size gs go (bootS 1) ∧ w.heap.size ≤ gs ∧ w.heap.size ≤ go ∧ Only [] w w' := boot_any 1 (by decide) w
  go_enter Try.func4, Try.ntmps4
  go_wp2_with fail
  (with_reducible refine cB.mono ?_)
  clear cB
  rintro e w1 ⟨gs, go, rfl, hr, -, -, ho1⟩
  have cW := rwordsG_any hr (boot_fitG (by decide))
  go_wp2_with fail
  (with_reducible refine cW.mono ?_)
  clear cW
  rintro e w2 ⟨rfl, hm2, ho2⟩
  have hgw := ho1.size
  replace ho2 := ho1.trans ho2
  obtain ⟨g, hg⟩ : ∃ g, Hid (w1.heap.size = g) := ⟨_, Lib.hid rfl⟩
  rw [hg.out] at hm2 hgw ⊢
  have HK := Lib.hid fun (W W' : World) (o : Only [] w W) (o' : Only [g] W W') => o.then o' (fun y hy => .inr (by simp at hy; rw [hy]; exact hgw))
  have c3 := dcopy_is hm2 (boot_dok (t := 1) (by decide)) 9 20 3
  rw [d_copy, errV_nil] at c3
  have HO := Lib.hid ho2
  clear hr ho1 hm2 ho2 hgw hg
  clear w1
  go_wp2_with fail
  (with_reducible refine c3.mono ?_)
  clear c3
  rintro e w3 ⟨rfl, hm3, ho3⟩
  have HO3 := Lib.hid (HK.out _ _ HO.out ho3)
  have c4 := ddelete_is (S := dS1) hm3 dS1_ok 9
  rw [d_del, d_dels, show errV 9 = .iface 42 (.int .i64 9) from rfl] at c4
  clear hm3 ho3 HO
  go_wp2_with fail
  (with_reducible refine c4.mono ?_)
  clear c4
  rintro e w4 ⟨rfl, hm4, ho4⟩
  have HO4 := Lib.hid (HK.out _ _ HO3.out ho4)
  have c5 := done_is (S := dS1) hm4 dS1_ok 9
  rw [d_one, errV_nil] at c5
  clear hm4 ho4 HO3
  go_wp2_with fail
  (with_reducible refine c5.mono ?_)
  clear c5
  rintro e w5 ⟨rfl, hm5, ho5⟩
  have HO5 := Lib.hid (HK.out _ _ HO4.out ho5)
  have c6 : Calls Try.prog 7 #[.iface PwT (.slice (some ⟨g, 0, none⟩) 738 738), .int .i64 20] w5 fun e w' => e = .returned (.agg #[.int .i64 0, .int .i64 0, .int .i64 0, .int .i64 0, .int .i64 0, .int .i64 0]) ∧ MemP g 738 UT w' (wordsG dS2) ∧ Only [g] w5 w' := pccap_is (L := wordsG dS2) (c := Cp.zero) hm5 (by rw [dS2_ok.sok.cap_in ⟨by decide, by decide⟩, d_cap])
  clear hm5 ho5 HO4
  go_wp2_with fail
  (with_reducible refine c6.mono ?_)
  clear c6
  rintro e w6 ⟨rfl, hm6, ho6⟩
  have HO6 := Lib.hid (HK.out _ _ HO5.out ho6)
  have c7 := dcopy_is hm6 dS2_ok 8 20 7
  rw [d_type, show errV 5 = .iface 42 (.int .i64 5) from rfl] at c7
  clear hm6 ho6 HO5
  go_wp2_with fail
  (with_reducible refine c7.mono ?_)
  clear c7
  rintro e w7 ⟨rfl, hm7, ho7⟩
  have HO7 := Lib.hid (HK.out _ _ HO6.out ho7)
  clear hm7 ho7 HO6
  go_wp2_with fail
  go_ret
  exact ⟨rfl, HO7.out⟩
end Go.Proofs.Ytlhcigpllkigdaa
