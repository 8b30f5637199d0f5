/- The document's example of layer 17. -/
import Derived.Test.YtdkjfalhalepgaaJ19
import Derived.Test.YtdkjfalhalepgaaBoot
import Derived.Test.YtdkjfalhalepgaaRefWordsG
import Derived.Lib.IfaceEq
namespace Go.Proofs.Ytdkjfalhalepgaa
open Go.RowKit
section
variable {n : Nat} {S : RSt} {t : Int}
theorem isO_thr (h : isO S t 5 = true) : S.Thr t := by
  obtain ⟨m, rfl, hm, hk⟩ := isO_yes h
  exact ⟨⟨by omega, by omega⟩, hk⟩
theorem TP.sus (h : TP n S) (t : Int) : TP n (susS S t) := by
  unfold susS
  split
  · next e => exact h.next (Alike.cancel S t) (h.ok.cancel (isO_thr e.1))
  · exact h
theorem Eok.resume (h : Eok S) (t : Int) : Eok (resS S t) := by
  unfold resS
  split
  · next e =>
    have ht := isO_thr e.1
    exact h.wakeN0 ht (blk_no1 (.inr (.inr e.2))) (by omega) ⟨by decide, by decide⟩ ⟨by decide, by decide⟩
  · exact h
theorem TP.res (h : TP n S) (t : Int) : TP n (resS S t) := by
  have k := h.ok.resume t
  unfold resS at k ⊢
  split
  · next e => rw [if_pos e] at k; exact h.next (Alike.wake (isO_thr e.1).2 0 0) k
  · exact h
theorem TP.pri (h : TP n S) (t x : Int) : TP n (prioT S t x) := by
  unfold prioT
  split
  · next e => exact h.next (Alike.prio S t x) (h.ok.prio (isO_thr e.1) (by omega))
  · exact h
theorem TP.setr (h : TP n S) (t : Int) (c : Cp) : TP n (setrS S t c) := by
  unfold setrS
  split
  · next e => exact h.root (isO_thr e.1) (of_decide_eq_true e.2.1)
  · exact h
theorem TP.send (h : TP n S) (ht : S.Thr t) (h1 : (S.ob t).state = 1) {w b : Int} (hw : b40 w) (hb : b40 b) (call : Bool) : TP n (sendS S ((n : Int) + 3) t b w call) :=
  h.next (Alike.send h.ok h.ep ht w b call) (h.ok.send h.ep ht h1 hw hb)
theorem TP.recv (h : TP n S) (ht : S.Thr t) (h1 : (S.ob t).state = 1) : TP n (recvS S ((n : Int) + 3) t) := h.next (Alike.recv h.ok h.ep) (h.ok.recv h.ep ht h1)
theorem TP.ntw (h : TP n S) (ht : S.Thr t) (h1 : (S.ob t).state = 1) : TP n (ntwS S ((n : Int) + 4) t) := h.next (Alike.ntw h.wd) (h.ok.ntw h.nt ht h1)
theorem TP.ans (h : TP n S) (ht : S.Thr t) {w : Int} (hw : b40 w) : TP n (ansS S t w) := h.next (Alike.ans h.ok ht w) (h.ok.answer ht hw)
end
theorem made_plain (W : World) : (Instr.makeSlice PwT (.int .i64 738) (.int .i64 738)).run Try.prog W = .ok (.slice (some ⟨W.heap.size, 0, none⟩) 738 738) (W.alloc (.cells zerosA UT)) :=
  run_makeN (P := Try.prog) (t := PwT) (f := u64row) 0 infoU64 Try.underlying27 (fun _ => rfl) (by omega) rfl .i64 .i64 738 738 (by omega) (by omega) (by omega) (by omega) W
def tS1 : RSt := susS (bootS 2) 1
def tS2 : RSt := resS tS1 1
theorem tS0 : TP 2 (bootS 2) := boot_tp (by decide)
theorem tS1_tp : TP 2 tS1 := tS0.sus 1
theorem tS2_tp : TP 2 tS2 := tS1_tp.res 1
set_option maxRecDepth 100000 in
set_option maxHeartbeats 1000000 in
theorem tup_any (w : World) : Calls Try.prog 5 #[] w fun e w' => e = .returned (.bool true) ∧ Only [] w w' := by
  have cB : Calls Try.prog 6 #[.int .i64 2] w _ := boot_any 2 (by decide) w
  go_enter Try.func5, Try.ntmps5
  go_wp2_with fail
  (with_reducible refine cB.mono ?_)
  clear cB
  rintro e w1 ⟨gs, go, rfl, hr, -, -, ho1⟩
  have cW := rwordsG_any hr tS0.ok.sok.fitG
  go_wp2_with fail
  (with_reducible refine cW.mono ?_)
  clear cW
  rintro e w2 ⟨rfl, hm2, ho2⟩
  have hgw := ho1.size
  replace ho2 := ho1.trans ho2
  obtain ⟨g, hg⟩ : ∃ g, Hid (w1.heap.size = g) := ⟨_, Lib.hid rfl⟩
  rw [hg.out] at hm2 hgw ⊢
  have HK := Lib.hid fun (W W' : World) (o : Only [] w W) (o' : Only [g] W W') => o.then o' (fun y hy => .inr (by simp at hy; rw [hy]; exact hgw))
  have HO := Lib.hid ho2
  have c1 : Calls Try.prog 9 #[pvw g, .int .i64 1] w2 fun e w' => e = .returned .nilIface ∧ MemP g 738 UT w' (wordsG tS1) ∧ Only [g] w2 w' := tsus_is hm2 tS0.ok 1
  clear hr ho1 hm2 ho2 hgw hg
  clear w1
  go_wp2_with fail
  (with_reducible refine c1.mono ?_)
  clear c1
  rintro e w3 ⟨rfl, hm3, ho3⟩
  have HO3 := Lib.hid (HK.out _ _ HO.out ho3)
  have e1 : hiN tS1 32 = 0 := by decide
  have c2 := thi_is hm3 tS1_tp.ok
  rw [e1, if_neg (by decide), decide_eq_true (by decide)] at c2
  clear hm3 ho3 HO e1
  go_wp2_with fail
  (with_reducible refine c2.mono ?_)
  clear c2
  rintro e w4 ⟨rfl, hm4, ho4⟩
  have HO4 := Lib.hid (HK.out _ _ HO3.out ho4)
  have c3 : Calls Try.prog 11 #[pvw g, .int .i64 1] w4 fun e w' => e = .returned .nilIface ∧ MemP g 738 UT w' (wordsG tS2) ∧ Only [g] w4 w' := tres_is hm4 tS1_tp.ok 1
  clear hm4 ho4 HO3
  go_wp2_with fail
  (with_reducible refine c3.mono ?_)
  clear c3
  rintro e w5 ⟨rfl, hm5, ho5⟩
  have HO5 := Lib.hid (HK.out _ _ HO4.out ho5)
  clear ho5 HO4
  go_wp2
  rw [made_plain]
  have hmz := memP_new w5
  have oA : Only [] w5 (w5.alloc (.cells zerosA UT)) := (Only.refl [] w5).alloc _
  have hm6 := hm5.only oA (by simp)
  have HO6 := Lib.hid (HO5.out.trans oA)
  have hgl := hm5.row.lt
  go_wp2_with fail
  obtain ⟨w6, hw6⟩ : ∃ w6, Hid (w6 = w5.alloc (.cells zerosA UT)) := ⟨_, Lib.hid rfl⟩
  have hsz : Hid (w.heap.size ≤ w5.heap.size) := Lib.hid HO5.out.size
  obtain ⟨g2, hg2⟩ : ∃ g2, Hid (w5.heap.size = g2) := ⟨_, Lib.hid rfl⟩
  rw [← hw6.out] at hmz hm6 HO6 ⊢
  rw [hg2.out] at hmz hsz hgl ⊢
  have hne : g ∉ [g2] := by simp; omega
  have c4 := thi_zero hmz
  have HK2 := Lib.hid fun (W W' : World) (o : Only [] w W) (o' : Only [g2] W W') => o.then o' (fun y hy => .inr (by simp at hy; rw [hy]; exact hsz.out))
  have HM := Lib.hid (And.intro hm6 hne)
  clear hm5 hw6 hsz hg2 hmz oA hm6 HO5 hgl hne
  clear w5
  (with_reducible refine c4.mono ?_)
  clear c4
  rintro e w7 ⟨rfl, -, ho7⟩
  have hm7 := HM.out.1.only ho7 HM.out.2
  have HO7 := Lib.hid (HK2.out _ _ HO6.out ho7)
  have c5 : Calls Try.prog 9 #[pvw g, .int .i64 2] w7 fun e w' => e = .returned (.iface 70 (.int .i64 2)) ∧ MemP g 738 UT w' (wordsG tS2) ∧ Only [g] w7 w' := tsus_is hm7 tS2_tp.ok 2
  have hth : tS2.Thr 0 := tS2_tp.thr.2 (by decide)
  have hrk : (tS2.ob 0).root = rootC 2 := by kernel_rfl
  have cR := Lib.hid fun (W : World) (hm : MemP g 738 UT W (wordsG tS2)) => trt_is hm tS2_tp.ok hth (tS2_tp.rt 0 hth)
  rw [hrk] at cR
  have hq := fun (a : Int) (W : World) => Lib.run_eql_iface_int (P := Try.prog) W (t := 35) (tx := 70) (k := .i64) 2 a Try.underlying35 (by kernel_rfl) Try.underlying70
  clear hm7 ho7 HO6 hth hrk HM HK2
  go_wp2_with fail
  (with_reducible refine c5.mono ?_)
  clear c5
  rintro e w8 ⟨rfl, hm8, ho8⟩
  have HO8 := Lib.hid (HK.out _ _ HO7.out ho8)
  have c6 := cR.out w8 hm8
  clear hm8 ho8 HO7
  go_wp2_with fail
  (with_reducible refine c6.mono ?_)
  clear c6
  rintro e w9 ⟨rfl, hm9, ho9⟩
  have hf : ∀ W : World, (Instr.field 30 (rootC 2).v 0).run Try.prog W = .ok (.int .i64 2) W := fun W => by kernel_rfl
  go_wp2_with fail
  go_ret
  exact ⟨rfl, HK.out _ _ HO8.out ho9⟩
end Go.Proofs.Ytdkjfalhalepgaa
