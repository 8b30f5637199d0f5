/- The document's example of layer 16. -/
import Derived.Test.YtloeofhchfaieaaJ15
import Derived.Test.YtloeofhchfaieaaBoot
import Derived.Test.YtloeofhchfaieaaRefWordsG
import Derived.Lib.IfaceEq
namespace Go.Proofs.Ytloeofhchfaieaa
open Go.RowKit
theorem boot_nt {n : Nat} (hn : n ≤ 7) : NtAt (bootS n) ((n : Int) + 4) := ⟨by omega, by rw [bootS_far n (by omega), if_pos (by omega), show (((n : Int) + 4) - (n : Int)).toNat = 4 by omega]; rfl⟩
theorem boot_kp {n : Nat} (hn : n ≤ 7) : KP n (bootS n) 0 0 := by
  have hb := (boot_plainly hn).bare
  have hw : ((bootS n).ob ((n : Int) + 4)).word = 0 := by rw [bootS_far n (by omega), if_pos (by omega)]; rfl
  refine ⟨boot_eok hn, hn, fun t a b => (boot_thr hn).2 ⟨a, b⟩, fun t ht => ((boot_thr hn).1 ht).2, boot_nt hn, fun x hx => absurd (hb x) hx, fun t ht => ?_, by rw [hw]; decide, by decide, by decide, ?_⟩
  · rw [boot_of hn ht]; exact .inl rfl
  · rw [hw]; rfl
def nS1 : RSt := sigS (bootS 1) 5 1
def nS2 : RSt := sigS nS1 5 4
def nS3 : RSt := ntwS nS2 5 0
theorem nS0 : KP 1 (bootS 1) 0 0 := boot_kp (by decide)
theorem nS1_kp : KP 1 nS1 1 0 := nS0.sig (b := 1) (by decide) rfl
theorem nS2_kp : KP 1 nS2 5 0 := nS1_kp.sig (b := 4) (by decide) rfl
set_option maxRecDepth 100000 in
set_option maxHeartbeats 1000000 in
theorem nup_any (w : World) : Calls Try.prog 5 #[] w fun e w' => e = .returned (.bool true) ∧ Only [] w w' := by
  have cB : Calls Try.prog 6 #[.int .i64 1] w fun e w' => ∃ gs go, e = .returned (.pointer (some ⟨w.heap.size, 0, none⟩)) ∧ RefM w' w.heap.size gs go (bootS 1) ∧ w.heap.size ≤ gs ∧ w.heap.size ≤ go ∧ Only [] w w' := boot_any 1 (by decide) w
  go_enter Try.func5, Try.ntmps5
  go_wp2_with fail
  (with_reducible refine cB.mono ?_)
  clear cB
  rintro e w1 ⟨gs, go, rfl, hr, -, -, ho1⟩
  have cW := rwordsG_any hr nS0.ok.sok.fitG
  go_wp2_with fail
  (with_reducible refine cW.mono ?_)
  clear cW
  rintro e w2 ⟨rfl, hm2, ho2⟩
  have hgw := ho1.size
  replace ho2 := ho1.trans ho2
  obtain ⟨g, hg⟩ : ∃ g, Hid (w1.heap.size = g) := ⟨_, Lib.hid rfl⟩
  rw [hg.out] at hm2 hgw ⊢
  have HK := Lib.hid fun (W W' : World) (o : Only [] w W) (o' : Only [g] W W') => o.then o' (fun y hy => .inr (by simp at hy; rw [hy]; exact hgw))
  have HO := Lib.hid ho2
  have c1 : Calls Try.prog 9 #[pvw g, .int .i64 5, .int .i64 1] w2 fun e w' => e = .returned .nilIface ∧ MemP g 738 UT w' (wordsG nS1) ∧ Only [g] w2 w' := nsignal_is hm2 nS0.ok nS0.nt (by decide) (by decide)
  clear hr ho1 hm2 ho2 hgw hg
  clear w1
  go_wp2_with fail
  (with_reducible refine c1.mono ?_)
  clear c1
  rintro e w3 ⟨rfl, hm3, ho3⟩
  have HO3 := Lib.hid (HK.out _ _ HO.out ho3)
  have c2 : Calls Try.prog 9 #[pvw g, .int .i64 5, .int .i64 4] w3 fun e w' => e = .returned .nilIface ∧ MemP g 738 UT w' (wordsG nS2) ∧ Only [g] w3 w' := nsignal_is hm3 nS1_kp.ok nS1_kp.nt (by decide) (by decide)
  clear hm3 ho3 HO
  go_wp2_with fail
  (with_reducible refine c2.mono ?_)
  clear c2
  rintro e w4 ⟨rfl, hm4, ho4⟩
  have HO4 := Lib.hid (HK.out _ _ HO3.out ho4)
  have c3 : Calls Try.prog 12 #[pvw g, .int .i64 5, .int .i64 0] w4 fun e w' => e = .returned (.tuple #[replyV 5 0, .bool true, .nilIface]) ∧ MemP g 738 UT w' (wordsG nS3) ∧ Only [g] w4 w' :=
    nwait_told hm4 nS2_kp.ok nS2_kp.nt (nS2_kp.thr 0 (by decide) (by decide)) (by decide)
  clear hm4 ho4 HO3
  go_wp2_with fail
  (with_reducible refine c3.mono ?_)
  clear c3
  rintro e w5 ⟨rfl, hm5, ho5⟩
  have HO5 := Lib.hid (HK.out _ _ HO4.out ho5)
  have oA := (Only.refl [] w5).alloc (.cells #[.int .i64 0, .int .i64 5, .int .i64 0] 38)
  have c4 := nsignal_bad (hm5.only oA (by simp)) (o := 32) (by decide) 1
  rw [show errV 2 = .iface 47 (.int .i64 2) from rfl] at c4
  have HO6 := Lib.hid (HO5.out.trans oA)
  clear hm5 ho5 HO4 oA
  have hq := fun (a : Int) (W : World) => Lib.run_eql_iface_int (P := Try.prog) W (t := 33) (tx := 47) (k := .i64) 2 a Try.underlying33 (by kernel_rfl) Try.underlying47
  go_wp2_with ((with_reducible refine c4.mono ?_); clear c4; rintro e w6 ⟨rfl, hm6, ho6⟩)
  go_ret
  exact ⟨rfl, HK.out _ _ HO6.out ho6⟩
end Go.Proofs.Ytloeofhchfaieaa
