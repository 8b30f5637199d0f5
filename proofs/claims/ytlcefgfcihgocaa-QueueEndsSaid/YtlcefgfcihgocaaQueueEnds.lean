/- QueueEnds' walk: for all slices of words, all slices of deeds. -/
import Derived.Test.YtlcefgfcihgocaaQueUp
import Derived.Test.YtlcefgfcihgocaaQueDeeds
import Derived.Test.YtlcefgfcihgocaaPickN
import Derived.Test.YtlcefgfcihgocaaCdtHad
import Derived.Deep.CutBlock
import Derived.Deep.DeepCutAuto
namespace Go.Proofs.Ytlcefgfcihgocaa
open Go.RowKit
set_option maxRecDepth 100000 in
set_option maxHeartbeats 2000000 in
theorem ends_any (A0 : Option Addr) (WL : List Int) (cap0 : Nat) (A : Option Addr) (LL : List Q3) (cap : Nat) (w : World) (hW : Wds w A0 WL) (hU : Us WL) (hL : DeedsQ3 w A LL) (hlw : WL.length ≤ 9223372036854775807) (hll : LL.length ≤ 9223372036854775807) :
    Calls Try.prog 4 #[.slice A0 WL.length cap0, .slice A LL.length cap] w fun e w' => e = .returned (.bool true) ∧ Only [] w w' := by
  have cU := up_any w
  by_cases h1 : 738 < WL.length
  · have h1' : (738 : Int) < (WL.length : Int) := by omega
    go_enter Try.func4, Try.ntmps4
    go_wp2_with ((with_reducible refine cU.mono ?_); clear cU; rintro e w1 ⟨rfl, ho1⟩)
    go_ret
    exact ⟨rfl, ho1⟩
  have h1' : ¬ (738 : Int) < (WL.length : Int) := by omega
  by_cases h2 : 60 < LL.length
  · have h2' : (60 : Int) < (LL.length : Int) := by omega
    go_enter Try.func4, Try.ntmps4
    go_wp2_with ((with_reducible refine cU.mono ?_); clear cU; rintro e w1 ⟨rfl, ho1⟩)
    go_ret
    exact ⟨rfl, ho1⟩
  have h2' : ¬ (60 : Int) < (LL.length : Int) := by omega
  have HW := Lib.hid (And.intro hW (And.intro hU hL))
  clear hW hU hL
  go_enter Try.func4, Try.ntmps4
  go_wp2_with fail
  (with_reducible refine cU.mono ?_)
  clear cU
  rintro e w1 ⟨rfl, ho1⟩
  go_wp2_with fail
  rw [made_words]
  obtain ⟨g1, hg1⟩ : ∃ g1, Hid (g1 = w1.heap.size) := ⟨_, Lib.hid rfl⟩
  obtain ⟨w2, hw2⟩ : ∃ w2, Hid (w2 = w1.alloc (.cells zerosA UT)) := ⟨_, Lib.hid rfl⟩
  rw [← hw2.out, ← hg1.out]
  have hz1 := ho1.size
  have hB2 : Blk w2 g1 UT zerosA := by rw [hw2.out, hg1.out]; exact Blk.new w1 UT zerosA
  have ho2 : Only [] w w2 := by rw [hw2.out]; exact ho1.alloc _
  have hW2 := HW.out.1.only0 ho2
  have hgw : w.heap.size ≤ g1 := by rw [hg1.out]; exact hz1
  have HB := Lib.hid (And.intro hB2 (And.intro ho2 (And.intro hW2 hgw)))
  have hU := HW.out.2.1
  have hw7' : WL.length ≤ 738 := by omega
  have hL := HW.out.2.2
  clear hz1 hB2 ho2 hW2 hgw ho1 hw2 hg1
  clear w1
  have hu := Try.underlying25
  have hsz : (Try.prog.info? UT).map (·.size) = some 1 := by kernel_rfl
  have HU := Lib.hid (And.intro hu hsz)
  clear hu hsz
  go_wp2_with (with_reducible refine wpList_copy_words rfl (.tmp 20) (.tmp 21) 25 24 UT rfl HU.out.1 HU.out.2 g1 A0 WL cap0 rfl rfl HB.out.1 HB.out.2.2.1 hU hw7' ?_; intro w3 hm3 ho3)
  have ho3' : Only [] w w3 := HB.out.2.1.then ho3 (fun z hz => .inr (by have := HB.out.2.2.2; simp at hz; omega))
  have HM := Lib.hid (And.intro hm3 (And.intro ho3' HB.out.2.2.2))
  clear hm3 ho3 ho3' hU HU HB HW
  go_wp2_with fail
  go_loopw [7] (fun i wr => ∃ (k : Nat) (L : List Int), k ≤ LL.length ∧ i = .int .i64 k ∧ MemP g1 738 UT wr L ∧ Only [] w wr) (fun i _ => LL.length - (intOf i).toNat)
  case atStart => exact ⟨0, _, by omega, rfl, HM.out.1, HM.out.2.1⟩
  case round =>
    obtain ⟨k, L, hk, rfl, hm, ho⟩ := hrel
    by_cases hlt : k < LL.length
    · obtain ⟨d, hd⟩ : ∃ d, LL[k]? = some d := ⟨_, List.getElem?_eq_getElem hlt⟩
      obtain ⟨b, off, rfl, hb, hc⟩ := hL.at_ k d hd
      have hok := hL.ok k d hd
      have c0 : wr.cell? ⟨b, off + k * 3, none⟩ = some (.int .i64 d.what) := (ho.cell (p := ⟨b, off + k * 3, none⟩) hb (by simp)).trans (hc 0 _ rfl)
      have c1 : wr.cell? ⟨b, off + k * 3 + 1, none⟩ = some (.int .i64 d.obj) := (ho.cell (p := ⟨b, off + k * 3 + 1, none⟩) hb (by simp)).trans (hc 1 _ rfl)
      have c2 : wr.cell? ⟨b, off + k * 3 + 2, none⟩ = some (.int .i64 d.t) := (ho.cell (p := ⟨b, off + k * 3 + 2, none⟩) hb (by simp)).trans (hc 2 _ rfl)
      have hbz := ho.size
      have hn := Blk.new wr Q3T d.arr
      have hm1 := hm.only ((Only.refl [] wr).alloc (.cells d.arr Q3T)) (by simp)
      have hgn : g1 ≠ wr.heap.size := by obtain ⟨cur, hb⟩ := hm.blkG; exact Nat.ne_of_lt hb.lt
      have HH := Lib.hid (And.intro hn (And.intro hm1 (And.intro (ho.alloc (.cells d.arr Q3T)) hgn)))
      have HLT := Lib.hid hlt
      clear hd hc hm ho hn hm1 hgn
      go_upto_region 10 with fail
      obtain ⟨n0, hn0⟩ : ∃ n0, Hid (n0 = wr.heap.size) := ⟨_, Lib.hid rfl⟩
      obtain ⟨w4, hw4⟩ : ∃ w4, Hid (w4 = wr.alloc (.cells d.arr Q3T)) := ⟨_, Lib.hid rfl⟩
      rw [← hw4.out, ← hn0.out] at HH
      rw [← hw4.out, ← hn0.out]
      clear c0 c1 c2 hbz hn0 hw4
      clear wr
      obtain ⟨hn, hm, ho, hgn⟩ := HH.out
      obtain ⟨e0, e1, e2⟩ := Q3.cells hn
      have hpk := pickN_rng d.what (n := 4) (by decide)
      obtain ⟨p, hp⟩ : ∃ p, pickN d.what 4 = p := ⟨_, rfl⟩
      have cK := Lib.hid fun W => pickN_any d.what 4 hok.what (by decide) (by decide) W
      rw [hp] at hpk cK
      have cPush := qpush_any hm d.obj d.t
      have cPop := qpop_any hm d.obj
      have cRem := qremove_any hm d.obj d.t
      have HKeep := Lib.hid fun (W W' : World) (o : Only [] w W) (o' : Only [g1] W W') => o.then o' (fun y hy => .inr (by simp at hy; rw [hy]; exact HM.out.2.2))
      clear hn hm ho hp hok
      have hc4 : p = 0 ∨ p = 1 ∨ p = 2 ∨ p = 3 := by omega
      clear hpk
      rcases hc4 with rfl | rfl | rfl | rfl
      all_goals
        go_wp2_with fail
        (with_reducible refine (cK.out _).mono ?_)
        rintro e w5 ⟨rfl, hw⟩
        subst hw
        clear cK
      iterate 2
        clear cPop cRem
        go_wp2_with fail
        (with_reducible refine cPush.mono ?_)
        clear cPush e0 e1 e2
        rintro e w5 ⟨nE, L5, rfl, hm5, ho5⟩
        have hn5 := ho5.blk HH.out.1 (by simp; exact fun e => HH.out.2.2.2 e.symm)
        obtain ⟨e0, e1, e2⟩ := Q3.cells hn5
        have cL := qlist_any hm5 d.obj
        have HO5 := Lib.hid (HKeep.out _ _ HH.out.2.2.1 ho5)
        clear hn5 hm5 ho5
        go_wp2_with fail
        (with_reducible refine cL.mono ?_)
        clear cL
        rintro e w6 ⟨u, l, hl, rfl, ⟨A6, cp6, rfl, -⟩, hm6, ho6⟩
        have hl' : ¬ (32 : Int) < (l.length : Int) := by omega
        have HO6 := Lib.hid (And.intro hm6 (HKeep.out _ _ HO5.out ho6))
        clear hm6 ho6 hl
        go_wp2_with fail
        exact ⟨⟨k + 1, _, by have := HLT.out; omega, by go_num, HO6.out.1, HO6.out.2⟩, by have := HLT.out; simp [intOf]; omega⟩
      · clear cPush cRem
        go_wp2_with fail
        (with_reducible refine cPop.mono ?_)
        clear cPop e0 e1 e2
        rintro e w5 ⟨nA, nB, L5, rfl, hm5, ho5⟩
        have hn5 := ho5.blk HH.out.1 (by simp; exact fun e => HH.out.2.2.2 e.symm)
        obtain ⟨e0, e1, e2⟩ := Q3.cells hn5
        have cL := qlist_any hm5 d.obj
        have HO5 := Lib.hid (HKeep.out _ _ HH.out.2.2.1 ho5)
        clear hn5 hm5 ho5
        go_wp2_with fail
        (with_reducible refine cL.mono ?_)
        clear cL
        rintro e w6 ⟨u, l, hl, rfl, ⟨A6, cp6, rfl, -⟩, hm6, ho6⟩
        have hl' : ¬ (32 : Int) < (l.length : Int) := by omega
        have HO6 := Lib.hid (And.intro hm6 (HKeep.out _ _ HO5.out ho6))
        clear hm6 ho6 hl
        go_wp2_with fail
        exact ⟨⟨k + 1, _, by have := HLT.out; omega, by go_num, HO6.out.1, HO6.out.2⟩, by have := HLT.out; simp [intOf]; omega⟩
      · clear cPush cPop
        go_wp2_with fail
        (with_reducible refine cRem.mono ?_)
        clear cRem e0 e1 e2
        rintro e w5 ⟨nB, L5, rfl, hm5, ho5⟩
        have hn5 := ho5.blk HH.out.1 (by simp; exact fun e => HH.out.2.2.2 e.symm)
        obtain ⟨e0, e1, e2⟩ := Q3.cells hn5
        have cL := qlist_any hm5 d.obj
        have HO5 := Lib.hid (HKeep.out _ _ HH.out.2.2.1 ho5)
        clear hn5 hm5 ho5
        go_wp2_with fail
        (with_reducible refine cL.mono ?_)
        clear cL
        rintro e w6 ⟨u, l, hl, rfl, ⟨A6, cp6, rfl, -⟩, hm6, ho6⟩
        have hl' : ¬ (32 : Int) < (l.length : Int) := by omega
        have HO6 := Lib.hid (And.intro hm6 (HKeep.out _ _ HO5.out ho6))
        clear hm6 ho6 hl
        go_wp2_with fail
        exact ⟨⟨k + 1, _, by have := HLT.out; omega, by go_num, HO6.out.1, HO6.out.2⟩, by have := HLT.out; simp [intOf]; omega⟩
    · obtain rfl : k = LL.length := by omega
      have HO := Lib.hid ho
      clear hlt hm ho
      go_wp2_with fail
      go_ret
      exact ⟨rfl, HO.out⟩
end Go.Proofs.Ytlcefgfcihgocaa
