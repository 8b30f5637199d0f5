/- The document's example of layer 15. -/
import Derived.Test.YtgbcgcmcfklnjaaJ14
import Derived.Test.YtgbcgcmcfklnjaaBoot
import Derived.Test.YtgbcgcmcfklnjaaRefWordsG
namespace Go.Proofs.Ytgbcgcmcfklnjaa
open Go.RowKit
def eS1 : RSt := sendS (bootS 2) 5 0 2 7 false
def eS2 : RSt := recvS eS1 5 1
theorem eS0_ep : EpAt (bootS 2) 5 := boot_ep (n := 2) (by decide)
theorem eS0_thr {t : Int} (h : 0 ≤ t ∧ t < 2) : (bootS 2).Thr t := (boot_thr (n := 2) (by decide)).2 h
theorem eS0_ok : Eok (bootS 2) := boot_eok (by decide)
theorem eS1_ok : Eok eS1 := eS0_ok.send eS0_ep (eS0_thr (by decide)) (by decide) ⟨by decide, by decide⟩ ⟨by decide, by decide⟩
theorem eS1_thr {t : Int} (h : 0 ≤ t ∧ t < 2) : eS1.Thr t := ⟨by omega, by
  have : t = 0 ∨ t = 1 := by omega
  rcases this with rfl | rfl <;> decide⟩
theorem eS1_ep : EpAt eS1 5 := ⟨by decide, by decide⟩
theorem eS2_ok : Eok eS2 := eS1_ok.recv eS1_ep (eS1_thr (by decide)) (by decide)
theorem eS2_thr : eS2.Thr 0 := ⟨by decide, by decide⟩
set_option maxRecDepth 100000 in
set_option maxHeartbeats 1000000 in
theorem up_any (w : World) : Calls Try.prog 4 #[] w fun e w' => e = .returned (.bool true) ∧ Only [] w w' := by
  have cB : Calls Try.prog 5 #[.int .i64 2] w fun e w' => ∃ gs go, e = .returned (.pointer (some ⟨w.heap.size, 0, none⟩)) ∧ RefM w' w.heap.size gs go (bootS 2) ∧ w.heap.size ≤ gs ∧ w.heap.size ≤ go ∧ Only [] w w' := boot_any 2 (by decide) w
  go_enter Try.func4, Try.ntmps4
  go_wp2_with fail
  (with_reducible refine cB.mono ?_)
  clear cB
  rintro e w1 ⟨gs, go, rfl, hr, -, -, ho1⟩
  have cW := rwordsG_any hr eS0_ok.sok.fitG
  go_wp2_with fail
  (with_reducible refine cW.mono ?_)
  clear cW
  rintro e w2 ⟨rfl, hm2, ho2⟩
  have hgw := ho1.size
  replace ho2 := ho1.trans ho2
  obtain ⟨g, hg⟩ : ∃ g, Hid (w1.heap.size = g) := ⟨_, Lib.hid rfl⟩
  rw [hg.out] at hm2 hgw ⊢
  have HK := Lib.hid fun (W W' : World) (o : Only [] w W) (o' : Only [g] W W') => o.then o' (fun y hy => .inr (by simp at hy; rw [hy]; exact hgw))
  have HO := Lib.hid ho2
  have c1 : Calls Try.prog 9 #[pvw g, .int .i64 5, .int .i64 0, .int .i64 2, .int .i64 7, .bool false] w2 fun e w' => e = .returned (.tuple #[.bool true, .nilIface]) ∧ MemP g 738 UT w' (wordsG eS1) ∧ Only [g] w2 w' :=
    esend_is hm2 eS0_ok eS0_ep (eS0_thr (by decide)) (by decide) ⟨by decide, by decide⟩ ⟨by decide, by decide⟩ false
  clear hr ho1 hm2 ho2 hgw hg
  clear w1
  go_wp2_with fail
  (with_reducible refine c1.mono ?_)
  clear c1
  rintro e w3 ⟨rfl, hm3, ho3⟩
  have HO3 := Lib.hid (HK.out _ _ HO.out ho3)
  have c2 : Calls Try.prog 10 #[pvw g, .int .i64 5, .int .i64 1] w3 fun e w' => e = .returned (.tuple #[replyV 7 2, .bool true, .nilIface]) ∧ MemP g 738 UT w' (wordsG eS2) ∧ Only [g] w3 w' :=
    erecv_told hm3 eS1_ok eS1_ep (eS1_thr (by decide)) (by decide) (by decide) (by decide)
  clear hm3 ho3 HO
  go_wp2_with fail
  (with_reducible refine c2.mono ?_)
  clear c2
  rintro e w4 ⟨rfl, hm4, ho4⟩
  have oA := (Only.refl [] w4).alloc (.cells #[.int .i64 0, .int .i64 7, .int .i64 2] 41)
  have hmA := hm4.only oA (by simp)
  have hbR := Blk.new w4 41 #[.int .i64 0, .int .i64 7, .int .i64 2]
  have HO4 := Lib.hid ((HK.out _ _ HO3.out ho4).trans oA)
  have c3 := eon_is hmA eS2_ok eS2_thr
  have hon : ¬ 0 ≤ (eS2.ob 0).on := by decide
  rw [if_neg hon, decide_eq_false hon] at c3
  have HB := Lib.hid (And.intro hbR hm4)
  have hne : Hid (w4.heap.size ≠ g) := Lib.hid (by obtain ⟨cur, hg⟩ := hmA.blkG; exact hbR.ne_ hg (by decide))
  clear hm4 ho4 HO3 oA hmA hbR hon
  go_wp2_with fail
  (with_reducible refine c3.mono ?_)
  clear c3
  rintro e w5 ⟨rfl, hm5, ho5⟩
  have hb5 := ho5.blk HB.out.1 (by simp; exact hne.out)
  obtain ⟨k0, k1, k2⟩ : w5.cell? ⟨w4.heap.size, 0, none⟩ = some (.int .i64 0) ∧ w5.cell? ⟨w4.heap.size, 1, none⟩ = some (.int .i64 7) ∧ w5.cell? ⟨w4.heap.size, 2, none⟩ = some (.int .i64 2) := ⟨hb5.cell 0, hb5.cell 1, hb5.cell 2⟩
  have hlb := hb5.lt
  have HO5 := Lib.hid (HK.out _ _ HO4.out ho5)
  have c4 := estate_is hm5 eS2_ok eS2_thr
  have hst : (eS2.ob 0).state = 1 := by decide
  rw [hst] at c4
  clear hm5 ho5 HO4 HB hb5 hst
  go_wp2_with ((with_reducible refine c4.mono ?_); clear c4; rintro e w6 ⟨rfl, hm6, ho6⟩)
  go_ret
  exact ⟨rfl, HK.out _ _ HO5.out ho6⟩
end Go.Proofs.Ytgbcgcmcfklnjaa
