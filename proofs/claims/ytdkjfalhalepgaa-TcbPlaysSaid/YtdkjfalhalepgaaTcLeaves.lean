/- TcbLeaves' walk: for all numbers of threads, all slices of deeds, any thread. -/
import Derived.Test.YtdkjfalhalepgaaTcUp
import Derived.Test.YtdkjfalhalepgaaJ20
import Derived.Test.YtdkjfalhalepgaaJ18
import Derived.Deep.CutBlock
import Derived.Deep.DeepCutAuto
namespace Go.Proofs.Ytdkjfalhalepgaa
open Go.RowKit
/-- words that a law has made, of a state that is sound -/
structure TWd (w wr : World) (g n : Nat) (S : RSt) : Prop where
  mem : MemP g 738 UT wr (wordsG S)
  tp : TP n S
  only : Only [] w wr
  ng : w.heap.size ≤ g
section
variable {w wr w' : World} {g n : Nat} {S S' : RSt} {t : Int}
theorem TWd.only0 (h : TWd w wr g n S) (ho : Only [] wr w') : TWd w w' g n S := ⟨h.mem.only ho (by simp), h.tp, h.only.trans ho, h.ng⟩
theorem TWd.step (h : TWd w wr g n S) (hm : MemP g 738 UT w' (wordsG S')) (ho : Only [g] wr w') (k : TP n S') : TWd w w' g n S' :=
  ⟨hm, k, h.only.then ho (fun y hy => .inr (by have := h.ng; simp at hy; omega)), h.ng⟩
/-- Recv, whatever is told -/
theorem erecv_any (hm : MemP g 738 UT w (wordsG S)) (h : TP n S) (ht : S.Thr t) (h1 : (S.ob t).state = 1) :
    Calls Try.prog 20 #[pvw g, .int .i64 ((n : Int) + 3), .int .i64 t] w fun e w' => (∃ v, e = .returned v) ∧ MemP g 738 UT w' (wordsG (recvS S ((n : Int) + 3) t)) ∧ Only [g] w w' := by
  by_cases h0 : 0 ≤ (S.ob t).owes
  · have e : recvS S ((n : Int) + 3) t = S := by unfold recvS; rw [if_pos h0]
    rw [e]
    exact (erecv_bad hm h.ok h.ep ht h1 h0).mono fun e w' ⟨a, b⟩ => ⟨⟨_, a⟩, b⟩
  · by_cases h2 : (S.ob ((n : Int) + 3)).wait = 1
    · exact (erecv_told hm h.ok h.ep ht h1 h0 h2).mono fun e w' ⟨a, b⟩ => ⟨⟨_, a⟩, b⟩
    · exact (erecv_waits hm h.ok h.ep ht h1 h0 h2).mono fun e w' ⟨a, b⟩ => ⟨⟨_, a⟩, b⟩
theorem sus_state (ht : S.Thr t) : ((susS S t).ob t).state = 0 := by
  unfold susS
  by_cases h0 : (S.ob t).state = 0
  · rw [if_neg (fun z => z.2 h0)]; exact h0
  · rw [if_pos ⟨by unfold isO; exact decide_eq_true ⟨ht.1.1, by have := ht.1.2; omega, ht.2⟩, h0⟩]
    unfold cancelS
    rw [stopS_state, if_pos rfl]
theorem sus_kind (S : RSt) (t i : Int) : ((susS S t).ob i).kind = (S.ob i).kind := by
  unfold susS
  split
  · exact (Alike.cancel S t).kind i
  · rfl
/-- a queue's list, on words of a sound state -/
theorem elist_is (hm : MemP g 738 UT w (wordsG S)) (h : Eok S) {o : Int} (ho : S.zs o) :
    Calls Try.prog 31 #[pvw g, .int .i64 o] w fun e w' => ∃ u, e = .returned u ∧ MadeW w' w.heap.size u (S.ob o).queue ∧ MemP g 738 UT w' (wordsG S) ∧ Only [g] w w' :=
  vlist_is (viewP g 738 738 UT) hm (h.wok.q.way ho)
theorem isO_of (ht : S.Thr t) : isO S t 5 = true := by unfold isO; exact decide_eq_true ⟨ht.1.1, by have := ht.1.2; omega, ht.2⟩
end
set_option maxRecDepth 100000 in
set_option maxHeartbeats 4000000 in
theorem tleaves_any (z : Int) (A : Option Addr) (LL : List T9) (cp : Nat) (who : Int) (hwho : -9223372036854775808 ≤ who ∧ who ≤ 9223372036854775807) (w : World) (hL : DeedsT9 w A LL) (hl : LL.length ≤ 9223372036854775807) :
    Calls Try.prog 4 #[.int .i64 z, .slice A LL.length cp, .int .i64 who] w fun e w' => e = .returned (.bool true) ∧ Only [] w w' := by
  have cU := tup_any w
  by_cases h1 : z < 1
  · skip
    --<X>
    go_enter Try.func4, Try.ntmps4
    go_wp2_with ((with_reducible refine cU.mono ?_); clear cU; rintro e w1 ⟨rfl, ho1⟩)
    go_ret
    exact ⟨rfl, ho1⟩
    --</X>
  by_cases h2 : 7 < z
  · skip
    --<X>
    go_enter Try.func4, Try.ntmps4
    go_wp2_with ((with_reducible refine cU.mono ?_); clear cU; rintro e w1 ⟨rfl, ho1⟩)
    go_ret
    exact ⟨rfl, ho1⟩
    --</X>
  by_cases h3 : 100 < LL.length
  · skip
    --<X>
    have h3' : (100 : Int) < (LL.length : Int) := by omega
    go_enter Try.func4, Try.ntmps4
    go_wp2_with ((with_reducible refine cU.mono ?_); clear cU; rintro e w1 ⟨rfl, ho1⟩)
    go_ret
    exact ⟨rfl, ho1⟩
    --</X>
  have h3' : ¬ (100 : Int) < (LL.length : Int) := by omega
  obtain ⟨n, rfl⟩ : ∃ n : Nat, z = n := ⟨z.toNat, by omega⟩
  have hn7 : n ≤ 7 := by omega
  have hn1 : 1 ≤ n := by omega
  have HB := Lib.hid fun W : World => boot_any n hn7 W
  go_enter Try.func4, Try.ntmps4
  go_wp2_with fail
  (with_reducible refine cU.mono ?_)
  clear cU
  rintro e w1 ⟨rfl, ho1⟩
  go_wp2_with fail
  (with_reducible refine (HB.out _).mono ?_)
  rintro e w2 ⟨gs, go, rfl, hr2, -, -, ho2⟩
  obtain ⟨pB, hpB⟩ : ∃ pB, Hid (w1.heap.size = pB) := ⟨_, Lib.hid rfl⟩
  rw [hpB.out] at hr2 ⊢
  have cW := rwordsG_any hr2 (boot_tp hn7).ok.sok.fitG
  go_wp2_with fail
  (with_reducible refine cW.mono ?_)
  clear cW HB
  rintro e w3 ⟨rfl, hm3, ho3⟩
  have ng := (ho1.trans ho2).size
  replace ho3 := (ho1.trans ho2).trans ho3
  obtain ⟨g, hg⟩ : ∃ g, Hid (w2.heap.size = g) := ⟨_, Lib.hid rfl⟩
  rw [hg.out] at hm3 ng ⊢
  have HE : Hid (TWd w w3 g n (bootS n)) := Lib.hid ⟨hm3, boot_tp hn7, ho3, ng⟩
  clear hr2 ho1 ho2 hg hm3 ho3 ng hpB
  clear w1 w2
  go_wp2_with fail
  go_loopw [9] (fun jv wr => ∃ (m : Nat) (S : RSt), m ≤ LL.length ∧ jv = .int .i64 m ∧ TWd w wr g n S) (fun jv _ => LL.length - (intOf jv).toNat)
  case atStart => exact ⟨0, _, by omega, rfl, HE.out⟩
  case round =>
    clear HE
    clear w3
    obtain ⟨m, S, hm, rfl, hE⟩ := hrel
    by_cases hml : m < LL.length
    · obtain ⟨d, hd⟩ : ∃ d, LL[m]? = some d := ⟨_, List.getElem?_eq_getElem hml⟩
      obtain ⟨b0, off, rfl, hb, hc⟩ := hL.at_ m d hd
      have hok := hL.ok m d hd
      have hCw := Lib.hid fun (W : World) (o : Only [] w W) => And.intro ((o.cell (p := ⟨b0, off + m * 9, none⟩) hb (by simp)).trans (hc 0 _ rfl)) (And.intro ((o.cell (p := ⟨b0, off + m * 9 + 1, none⟩) hb (by simp)).trans (hc 1 _ rfl)) (And.intro ((o.cell (p := ⟨b0, off + m * 9 + 2, none⟩) hb (by simp)).trans (hc 2 _ rfl)) (Nat.lt_of_lt_of_le hb o.size)))
      obtain ⟨-, c1, -, hbz⟩ := hCw.out wr hE.only
      have HLT := Lib.hid hml
      have hlt' : (m : Int) < (LL.length : Int) := by omega
      obtain ⟨t, ht⟩ : ∃ t, pickN d.t n = t := ⟨_, rfl⟩
      have htr := pickN_rng d.t (n := (n : Int)) (by omega)
      have cT := pickN_any d.t n hok.t (by omega) (by omega) wr
      obtain ⟨p, hp⟩ : ∃ p, pickN d.what 4 = p := ⟨_, rfl⟩
      have hpr := pickN_rng d.what (n := 4) (by decide)
      have cP := Lib.hid fun W => pickN_any d.what 4 hok.what (by decide) (by decide) W
      obtain ⟨q, hq⟩ : ∃ q, pickN d.n 2 = q := ⟨_, rfl⟩
      have cQ := Lib.hid fun W => pickN_any d.n 2 hok.n (by decide) (by decide) W
      rw [ht] at cT htr
      rw [hp] at cP hpr
      rw [hq] at cQ
      have hth := hE.tp.thr.2 htr
      obtain ⟨st, hst⟩ : ∃ st, (S.ob t).state = st := ⟨_, rfl⟩
      have cS := estate_is hE.mem hE.tp.ok hth
      rw [hst] at cS
      have HH := Lib.hid (And.intro hE (And.intro hth hst))
      clear hd hc hok hE hth hst ht hp hq
      go_wp2_with fail
      (with_reducible refine cT.mono ?_)
      clear cT
      rintro e w' ⟨rfl, hw⟩
      replace hw := hw.symm
      subst hw
      go_wp2_with fail
      (with_reducible refine cS.mono ?_)
      clear cS
      rintro e w4 ⟨rfl, hm4, ho4⟩
      have hE4 := HH.out.1.step hm4 ho4 HH.out.1.tp
      by_cases hs1 : st = 1
      · have hq1 : (st != 1) = false := by simpa using hs1
        have hst1 : (S.ob t).state = 1 := HH.out.2.2.trans hs1
        obtain ⟨d0, -, d2, hbz4⟩ := hCw.out w4 hE4.only
        have HE4 := Lib.hid (And.intro hE4 (And.intro HH.out.2.1 hst1))
        clear hm4 ho4 hE4 hst1 HH c1 hbz hs1 hb
        go_wp2_with fail
        (with_reducible refine (cP.out _).mono ?_)
        clear cP
        rintro e w' ⟨rfl, hw⟩
        replace hw := hw.symm
        subst hw
        have hpc : p = 0 ∨ p = 1 ∨ p = 2 ∨ p = 3 := by omega
        clear hpr
        rcases hpc with rfl | rfl | rfl | rfl
        · skip
          --<A>
          have cE := esend_is (n := 2) (b := 1) HE4.out.1.mem HE4.out.1.tp.ok HE4.out.1.tp.ep HE4.out.2.1 HE4.out.2.2 ⟨by decide, by decide⟩ ⟨by decide, by decide⟩ (q == 1)
          have hk := HE4.out.1.tp.send HE4.out.2.1 HE4.out.2.2 (w := 2) (b := 1) ⟨by decide, by decide⟩ ⟨by decide, by decide⟩ (q == 1)
          have HK := Lib.hid hk
          obtain ⟨qb, hqb⟩ : ∃ x, (q == 1) = x := ⟨_, rfl⟩
          rw [hqb] at cE HK
          clear hk d0
          go_wp2_with fail
          (with_reducible refine (cQ.out _).mono ?_)
          clear cQ
          rintro e w' ⟨rfl, hw⟩
          replace hw := hw.symm
          subst hw
          go_wp2_with fail
          (with_reducible refine cE.mono ?_)
          clear cE
          rintro e w5 ⟨rfl, hm5, ho5⟩
          have HZ := Lib.hid (HE4.out.1.step hm5 ho5 HK.out)
          clear hm5 ho5 HK HE4 d2 hqb
          go_wp2_with fail
          exact ⟨⟨m + 1, _, by have := HLT.out; omega, by go_num, HZ.out⟩, by have := HLT.out; simp [intOf]; omega⟩
          --</A>
        · skip
          --<B>
          have cE := erecv_any HE4.out.1.mem HE4.out.1.tp HE4.out.2.1 HE4.out.2.2
          have HK := Lib.hid (HE4.out.1.tp.recv HE4.out.2.1 HE4.out.2.2)
          clear d0 d2 cQ
          go_wp2_with fail
          (with_reducible refine cE.mono ?_)
          clear cE
          rintro e w5 ⟨⟨v5, rfl⟩, hm5, ho5⟩
          have HZ := Lib.hid (HE4.out.1.step hm5 ho5 HK.out)
          clear hm5 ho5 HK HE4
          go_wp2_with fail
          exact ⟨⟨m + 1, _, by have := HLT.out; omega, by go_num, HZ.out⟩, by have := HLT.out; simp [intOf]; omega⟩
          --</B>
        · skip
          --<C>
          have cE := nwait_blocks HE4.out.1.mem HE4.out.1.tp.ok HE4.out.1.tp.nt HE4.out.2.1 HE4.out.2.2 HE4.out.1.tp.wd
          have HK := Lib.hid (HE4.out.1.tp.ntw HE4.out.2.1 HE4.out.2.2)
          clear d0 d2 cQ
          go_wp2_with fail
          (with_reducible refine cE.mono ?_)
          clear cE
          rintro e w5 ⟨rfl, hm5, ho5⟩
          have HZ := Lib.hid (HE4.out.1.step hm5 ho5 HK.out)
          clear hm5 ho5 HK HE4
          go_wp2_with fail
          exact ⟨⟨m + 1, _, by have := HLT.out; omega, by go_num, HZ.out⟩, by have := HLT.out; simp [intOf]; omega⟩
          --</C>
        · skip
          --<D>
          have cE := eans_is (n := 5) HE4.out.1.mem HE4.out.1.tp.ok HE4.out.2.1 ⟨by decide, by decide⟩
          have HK := Lib.hid (HE4.out.1.tp.ans HE4.out.2.1 (w := 5) ⟨by decide, by decide⟩)
          obtain ⟨ev, hev⟩ : ∃ ev, errV (if (S.ob t).owes < 0 then 10 else 0) = ev := ⟨_, rfl⟩
          rw [hev] at cE
          clear d0 d2 cQ hev
          go_wp2_with fail
          (with_reducible refine cE.mono ?_)
          clear cE
          rintro e w5 ⟨rfl, hm5, ho5⟩
          have HZ := Lib.hid (HE4.out.1.step hm5 ho5 HK.out)
          clear hm5 ho5 HK HE4
          go_wp2_with fail
          exact ⟨⟨m + 1, _, by have := HLT.out; omega, by go_num, HZ.out⟩, by have := HLT.out; simp [intOf]; omega⟩
          --</D>
      · have hq1 : (st != 1) = true := by simpa using hs1
        have HZ := Lib.hid hE4
        clear hm4 ho4 hE4 c1 hs1
        go_wp2_with fail
        exact ⟨⟨m + 1, _, by have := HLT.out; omega, by go_num, HZ.out⟩, by have := HLT.out; simp [intOf]; omega⟩
    · skip
      --<E>
      obtain rfl : m = LL.length := by omega
      have hlt' : ¬ (LL.length : Int) < (LL.length : Int) := by omega
      obtain ⟨t, ht⟩ : ∃ t, pickN who n = t := ⟨_, rfl⟩
      have htr := pickN_rng who (n := (n : Int)) (by omega)
      have cT := Lib.hid fun W => pickN_any who n hwho (by omega) (by omega) W
      rw [ht] at cT htr
      have hth := hE.tp.thr.2 htr
      obtain ⟨st, hst⟩ : ∃ st, (S.ob t).state = st := ⟨_, rfl⟩
      have cS := Lib.hid fun (W : World) (hm : MemP g 738 UT W (wordsG S)) => estate_is hm hE.tp.ok hth
      rw [hst] at cS
      have cU := Lib.hid fun (W : World) (hm : MemP g 738 UT W (wordsG S)) => tsus_is hm hE.tp.ok t
      have hN : susN S t = if st = 0 then 10 else 0 := by unfold susN; rw [isO_of hth, if_pos rfl, hst]
      rw [hN] at cU
      have hT1 := hE.tp.sus t
      have hs1 := sus_state hth
      have hth1 : (susS S t).Thr t := ⟨hth.1, by rw [sus_kind]; exact hth.2⟩
      obtain ⟨S1, hS1⟩ : ∃ S1, susS S t = S1 := ⟨_, rfl⟩
      rw [hS1] at cU hT1 hs1 hth1
      have HH := Lib.hid (And.intro hE (And.intro hT1 (And.intro hs1 hth1)))
      clear hE hml hm hth hst hN hT1 hs1 hth1 hS1 ht
      go_wp2_with fail
      (with_reducible refine (cT.out _).mono ?_)
      clear cT
      rintro e w' ⟨rfl, hw⟩
      replace hw := hw.symm
      subst hw
      have c := cS.out _ HH.out.1.mem
      go_wp2_with fail
      (with_reducible refine c.mono ?_)
      clear c
      rintro e w4 ⟨rfl, hm4, ho4⟩
      have HE4 := Lib.hid (HH.out.1.step hm4 ho4 HH.out.1.tp)
      have c := cU.out _ hm4
      clear hm4 ho4 cS cU
      go_wp2_with fail
      (with_reducible refine c.mono ?_)
      clear c
      rintro e w5 ⟨rfl, hm5, ho5⟩
      have HE5 := Lib.hid (HE4.out.step hm5 ho5 HH.out.2.1)
      have cS := estate_is hm5 HH.out.2.1.ok HH.out.2.2.2
      rw [HH.out.2.2.1] at cS
      clear hm5 ho5 HE4
      have hev : (st = 0 ∧ errV (if st = 0 then 10 else 0) = .iface 70 (.int .i64 10) ∧ (st != 0) = false) ∨ (st ≠ 0 ∧ errV (if st = 0 then 10 else 0) = .nilIface ∧ (st != 0) = true) := by
        by_cases e : st = 0
        · exact .inl ⟨e, by rw [if_pos e]; rfl, by simp [e]⟩
        · exact .inr ⟨e, by rw [if_neg e]; rfl, by simpa using e⟩
      obtain ⟨ev, hv⟩ : ∃ ev, errV (if st = 0 then 10 else 0) = ev := ⟨_, rfl⟩
      rw [hv] at hev ⊢
      clear hv
      obtain ⟨w6, hw6⟩ : ∃ x, x = w5 := ⟨_, rfl⟩
      rw [← hw6]
      rw [← hw6] at HE5 cS
      clear hw6
      clear w5
      go_upto_region 21 with fail
      go_cut [117] (fun b W => b = .bool false ∧ TWd w W g n S1)
      case first =>
        rcases hev with ⟨-, rfl, hq1⟩ | ⟨-, rfl, hq1⟩
        · go_wp2_with ((with_reducible refine cS.mono ?_); clear cS; rintro e w7 ⟨rfl, hm7, ho7⟩)
          go_meet
          exact ⟨rfl, HE5.out.step hm7 ho7 HH.out.2.1⟩
        · go_wp2_with ((with_reducible refine cS.mono ?_); clear cS; rintro e w7 ⟨rfl, hm7, ho7⟩)
          go_meet
          exact ⟨rfl, HE5.out.step hm7 ho7 HH.out.2.1⟩
      case rest =>
        obtain ⟨rfl, hE6⟩ := hcut
        have HE6 := Lib.hid hE6
        clear hE6 HE5 cS hev
        go_wp2_with fail
        go_loopw [14] (fun kv wr => ∃ j : Nat, j ≤ 2 ∧ kv = .int .i64 ((n : Int) + 3 + j) ∧ TWd w wr g n S1) (fun kv _ => (n + 5) - (intOf kv).toNat)
        case atStart => exact ⟨0, by omega, by simp, HE6.out⟩
        case round =>
          clear HE6
          clear wc
          obtain ⟨j, hj, rfl, hE⟩ := hrel
          by_cases hj2 : j < 2
          · have hz : S1.zs ((n : Int) + 3 + j) := by
              have hj' : j = 0 ∨ j = 1 := by omega
              rcases hj' with rfl | rfl
              · have := hE.tp.ep.zs
                rw [show ((n : Int) + 3 + ((0 : Nat) : Int)) = (n : Int) + 3 by omega]
                exact this
              · have := hE.tp.nt.zs
                rw [show ((n : Int) + 3 + ((1 : Nat) : Int)) = (n : Int) + 4 by omega]
                exact this
            have hno : t ∉ (S1.ob ((n : Int) + 3 + j)).queue := (hE.tp.ok.ei.none HH.out.2.2.2 (by rw [HH.out.2.2.1]; decide)).2 _
            obtain ⟨k, hk⟩ : ∃ k, (n : Int) + 3 + j = k := ⟨_, rfl⟩
            have cL := elist_is hE.mem hE.tp.ok hz
            have hfew := (hE.tp.ok.wok).few ((n : Int) + 3 + j)
            replace hfew : (S1.ob ((n : Int) + 3 + j)).queue.length ≤ 32 := hfew
            rw [hk] at cL hno hfew
            obtain ⟨q, hq⟩ : ∃ q, (S1.ob k).queue = q := ⟨_, rfl⟩
            rw [hq] at cL hno hfew
            have hk4 : (n : Int) + 3 + j ≤ (n : Int) + 4 := by omega
            have hk0 : 0 ≤ k := by omega
            have hk9 : k ≤ 20 := by omega
            have HQ := Lib.hid hno
            have HE := Lib.hid hE
            have HJ := Lib.hid hj2
            have HKK := Lib.hid hk
            clear hE hno hq hz hj2 hj hk
            go_upto_region 26 with fail
            rw [HKK.out]
            go_wp2_with fail
            (with_reducible refine cL.mono ?_)
            clear cL
            rintro e w7 ⟨u, rfl, ⟨AQ, cq, rfl, hqc⟩, hm7, ho7⟩
            have HE7 := Lib.hid (HE.out.step hm7 ho7 HE.out.tp)
            have HC := Lib.hid hqc
            clear hm7 ho7 hqc HE hk4
            go_wp2_with fail
            go_loopw [16] (fun iv wr => ∃ i : Nat, i ≤ q.length ∧ iv = .int .i64 i ∧ Only [] w7 wr) (fun iv _ => q.length - (intOf iv).toNat)
            case atStart => exact ⟨0, by omega, rfl, Only.refl _ _⟩
            case round =>
              obtain ⟨i, hi, rfl, ho⟩ := hrel
              by_cases hil : i < q.length
              · obtain ⟨x, hx⟩ : ∃ x, q[i]? = some x := ⟨_, List.getElem?_eq_getElem hil⟩
                obtain ⟨gq, oq, rfl, -, hgq, hcq⟩ := HC.out i x hx
                have cx : wr.cell? ⟨gq, oq + i, none⟩ = some (.int .i64 x) := (ho.cell (p := ⟨gq, oq + i, none⟩) hgq (by simp)).trans hcq
                have hgz := Nat.lt_of_lt_of_le hgq ho.size
                have hxt : (x == t) = false := by
                  simp only [beq_eq_false_iff_ne, ne_eq]
                  exact fun e => HQ.out (e ▸ List.mem_of_getElem? hx)
                have hil' : (i : Int) < (q.length : Int) := by omega
                have hi0 : (0 : Int) ≤ (i : Int) := by omega
                have HI := Lib.hid (And.intro hil ho)
                clear hx hcq hgq hil ho hi
                go_wp2_with fail
                go_roundw
                case rel => exact ⟨i + 1, by have := HI.out.1; omega, by go_num, HI.out.2⟩
                case measure => have := HI.out.1; simp [intOf]; omega
              · obtain rfl : i = q.length := by omega
                have hil' : ¬ (q.length : Int) < (q.length : Int) := by omega
                have HZ := Lib.hid (HE7.out.only0 ho)
                clear ho hi hil
                go_wp2_with fail
                have e1 := HKK.out
                have e2 := HJ.out
                exact ⟨⟨j + 1, by omega, by congr 1; omega, HZ.out⟩, by simp [intOf]; omega⟩
          · obtain rfl : j = 2 := by omega
            have HE := Lib.hid hE
            have hk4 : ¬ (n : Int) + 3 + ((2 : Nat) : Int) ≤ (n : Int) + 4 := by omega
            clear hE hj hj2
            have hO := HE.out.tp.ok
            have hR : resN S1 t = 0 := by unfold resN; rw [isO_of HH.out.2.2.2, if_pos rfl, HH.out.2.2.1]; rfl
            have hX : resS S1 t = wakeS S1 t 0 0 := by unfold resS; rw [if_pos ⟨isO_of HH.out.2.2.2, HH.out.2.2.1⟩]
            have cR := tres_is HE.out.mem hO t
            have k2 := HE.out.tp.res t
            rw [hR] at cR
            rw [hX] at cR k2
            have hth2 : (wakeS S1 t 0 0).Thr t := ⟨HH.out.2.2.2.1, by rw [wakeS_kind]; exact HH.out.2.2.2.2⟩
            have hs2 : ((wakeS S1 t 0 0).ob t).state = 1 := by rw [wakeS_state, if_pos rfl]
            have hon : ((wakeS S1 t 0 0).ob t).on = -1 := by rw [wakeS_on, if_pos rfl]
            have hR2 : resN (wakeS S1 t 0 0) t = 10 := by unfold resN; rw [isO_of hth2, if_pos rfl, hs2]; rfl
            have hX2 : resS (wakeS S1 t 0 0) t = wakeS S1 t 0 0 := by unfold resS; rw [if_neg (fun z => by rw [hs2] at z; exact absurd z.2 (by decide))]
            obtain ⟨S2, hS2⟩ : ∃ S2, wakeS S1 t 0 0 = S2 := ⟨_, rfl⟩
            rw [hS2] at cR k2 hth2 hs2 hon hR2 hX2
            rw [errV_nil] at cR
            have cO := Lib.hid fun (W : World) (hm : MemP g 738 UT W (wordsG S2)) => eon_is hm k2.ok hth2
            have cS := Lib.hid fun (W : World) (hm : MemP g 738 UT W (wordsG S2)) => estate_is hm k2.ok hth2
            have cR2 := Lib.hid fun (W : World) (hm : MemP g 738 UT W (wordsG S2)) => tres_is hm k2.ok t
            rw [hon, if_neg (by decide), decide_eq_false (by decide)] at cO
            rw [hs2] at cS
            rw [hR2, hX2, show errV 10 = .iface 70 (.int .i64 10) from rfl] at cR2
            have HK := Lib.hid k2
            clear hO hR hX k2 hth2 hs2 hon hR2 hX2 hS2
            go_wp2_with fail
            (with_reducible refine cR.mono ?_)
            clear cR
            rintro e w7 ⟨rfl, hm7, ho7⟩
            have HE7 := Lib.hid (HE.out.step hm7 ho7 HK.out)
            have c := cO.out _ hm7
            clear hm7 ho7 cO HE
            go_wp2_with fail
            (with_reducible refine c.mono ?_)
            clear c
            rintro e w8 ⟨rfl, hm8, ho8⟩
            have HE8 := Lib.hid (HE7.out.step hm8 ho8 HK.out)
            have c := cS.out _ hm8
            have hq := fun (a : Int) (W : World) => Lib.run_eql_iface_int (P := Try.prog) W (t := 35) (tx := 70) (k := .i64) 10 a Try.underlying35 (by kernel_rfl) Try.underlying70
            clear hm8 ho8 cS HE7
            go_wp2_with fail
            (with_reducible refine c.mono ?_)
            clear c
            rintro e w9 ⟨rfl, hm9, ho9⟩
            have HE9 := Lib.hid (HE8.out.step hm9 ho9 HK.out)
            have c := cR2.out _ hm9
            clear hm9 ho9 cR2 HE8
            go_wp2_with fail
            (with_reducible refine c.mono ?_)
            clear c
            rintro e w10 ⟨rfl, hm10, ho10⟩
            have HE10 := Lib.hid (HE9.out.step hm10 ho10 HK.out)
            clear hm10 ho10 HE9
            go_wp2_with fail
            go_ret
            exact ⟨rfl, HE10.out.only⟩
      --</E>
end Go.Proofs.Ytdkjfalhalepgaa
