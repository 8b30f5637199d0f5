/- UntypedPlays' walk: for all numbers of threads, all sizes, all slices of deeds. -/
import Derived.Test.YtffoajakkghlbaaJ11
import Derived.Test.YtffoajakkghlbaaUntUp
import Derived.Test.YtffoajakkghlbaaUntDeeds
import Derived.Test.YtffoajakkghlbaaRefRet
import Derived.Test.YtffoajakkghlbaaJ20
import Derived.Deep.CutBlock
import Derived.Deep.DeepCutAuto
namespace Go.Proofs.Ytffoajakkghlbaa
open Go.RowKit
abbrev UdT : TypeId := 44
theorem u5_cells {w : World} {g : Nat} {d : U5} (h : Blk w g UdT d.arr) : w.cell? ⟨g, 0, none⟩ = some (.bool d.del) ∧ w.cell? ⟨g, 1, none⟩ = some (.int .i64 d.a) ∧ w.cell? ⟨g, 2, none⟩ = some (.int .i64 d.b) ∧ w.cell? ⟨g, 3, none⟩ = some (.int .i64 d.k) ∧ w.cell? ⟨g, 4, none⟩ = some (.int .i64 d.n) := ⟨h.cell 0, h.cell 1, h.cell 2, h.cell 3, h.cell 4⟩
set_option maxRecDepth 100000 in
set_option maxHeartbeats 4000000 in
theorem uplays_any (t z : Int) (A : Option Addr) (LL : List U5) (cp : Nat) (w : World) (hL : DeedsU w A LL) (hl : LL.length ≤ 9223372036854775807) :
    Calls Try.prog 4 #[.int .i64 t, .int .i64 z, .slice A LL.length cp] w fun e w' => e = .returned (.bool true) ∧ Only [] w w' := by
  go_enter Try.func4, Try.ntmps4
  go_wp2_with fail
  (with_reducible refine (up_any _).mono ?_)
  rintro e w1 ⟨rfl, ho1⟩
  by_cases ht0 : t < 0
  · go_wp2_with fail
    go_ret
    exact ⟨rfl, ho1⟩
  by_cases ht7 : 7 < t
  · go_wp2_with fail
    go_ret
    exact ⟨rfl, ho1⟩
  by_cases hz0 : z < 0
  · go_wp2_with fail
    go_ret
    exact ⟨rfl, ho1⟩
  by_cases hz9 : 1000 < z
  · go_wp2_with fail
    go_ret
    exact ⟨rfl, ho1⟩
  by_cases hlen : 60 < LL.length
  · go_wp2_with fail
    go_ret
    exact ⟨rfl, ho1⟩
  have hlen' : ¬ (60 : Int) < (LL.length : Int) := by omega
  obtain ⟨tn, rfl⟩ : ∃ tn : Nat, t = tn := ⟨t.toNat, by omega⟩
  have htn : tn ≤ 7 := by omega
  have hzr : 0 ≤ z ∧ z ≤ 1000 := by omega
  have HT := Lib.hid (And.intro htn hzr)
  clear hl htn hzr
  go_wp2_with fail
  (with_reducible refine (boot_any tn HT.out.1 _).mono ?_)
  rintro e w2 ⟨gs, go, rfl, hr2, hgs, hgo, ho2⟩
  obtain ⟨p, hp⟩ : ∃ p, Hid (p = w1.heap.size) := ⟨_, Lib.hid rfl⟩
  rw [← hp.out] at hr2 hgs hgo ⊢
  have hpw : w.heap.size ≤ p := by rw [hp.out]; exact ho1.size
  replace ho2 := ho1.trans ho2
  have htn : tn ≤ 7 := HT.out.1
  have hwr2 : IntKind.i64.wrap ((tn : Int) + 2) = (tn : Int) + 2 := IntWalk.i64_in _ (by omega)
  have hx2 : ((tn : Int) + 2).toNat = tn + 2 := by omega
  have hi2 : (0 : Int) ≤ (tn : Int) + 2 := by omega
  have hj2 : (tn : Int) + 2 < 32 := by omega
  obtain ⟨co, c1⟩ := hr2.cObjs
  obtain ⟨v, e, f⟩ := hr2.fld (i := tn + 2) (j := 1) (by omega) (by omega)
  obtain ⟨hr3, ho3⟩ := hr2.setField (by decide) (by decide) (by decide) (i := tn + 2) (j := 1) (by omega) (by omega) (.int .i64 z) { (bootS tn).ob ((tn + 2 : Nat) : Int) with size := z } (fun _ => rfl) rfl
  replace hr3 : RefM (w2.setCell ⟨go, (tn + 2) * 32 + 1, none⟩ (.int .i64 z)) p gs go (bootU tn z) := hr3
  have H3 := Lib.hid (And.intro hr3 (ho2.then ho3 (fun y hy => .inr (by simp at hy; rw [hy]; omega))))
  clear hr3 ho3 hr2 ho1 hp ht0 ht7 hz0 hz9 hlen ho2 htn
  go_upto_region 6 with fail
  obtain ⟨w3, hw3⟩ : ∃ X3, X3 = w2.setCell ⟨go, (tn + 2) * 32 + 1, none⟩ (.int .i64 z) := ⟨_, rfl⟩
  rw [← hw3] at H3 ⊢
  clear hw3 c1 e f hwr2 hx2 hi2 hj2
  have hgs' : w.heap.size ≤ gs := by omega
  have hgo' : w.heap.size ≤ go := by omega
  clear hgs hgo
  clear w2
  have hU := bootU_uok HT.out.1 HT.out.2
  have cW := rwordsG_any H3.out.1 hU.sok.fitG
  go_wp2_with fail
  (with_reducible refine cW.mono ?_)
  clear cW
  rintro e w4 ⟨rfl, hm4, ho4⟩
  have hD : Duet w w4 p gs go w3.heap.size (bootU tn z) := ⟨hm4, H3.out.1.only0 ho4, hU.sok, H3.out.2.trans ho4, H3.out.2.size, hpw, hgs', hgo'⟩
  have HD := Lib.hid (And.intro hD hU)
  clear hD hm4 ho4 H3 hgs' hgo' hpw hU
  obtain ⟨g0, hg0⟩ : ∃ g0, Hid (w3.heap.size = g0) := ⟨_, Lib.hid rfl⟩
  rw [hg0.out] at HD ⊢
  clear hg0
  go_wp2_with fail
  go_loopw [9, 10] (fun sv i wr => ∃ (k g : Nat) (S : RSt), k ≤ LL.length ∧ sv = .slice (some ⟨g, 0, none⟩) 738 738 ∧ i = .int .i64 k ∧ Duet w wr p gs go g S ∧ Uok S) (fun _ i _ => LL.length - (intOf i).toNat)
  case atStart => exact ⟨0, g0, _, by omega, rfl, rfl, HD.out.1, HD.out.2⟩
  case round =>
    clear HD HT
    clear w3 w4
    obtain ⟨k, g, S, hk, rfl, rfl, hD, hS⟩ := hrel
    by_cases hlt : k < LL.length
    · obtain ⟨d, hd⟩ : ∃ d, LL[k]? = some d := ⟨_, List.getElem?_eq_getElem hlt⟩
      obtain ⟨b, off, rfl, hb, hc⟩ := hL.at_ k d hd
      have c0 : wr.cell? ⟨b, off + k * 5, none⟩ = some (.bool d.del) := (hD.only.cell (p := ⟨b, off + k * 5, none⟩) hb (by simp)).trans (hc 0 _ rfl)
      have c1 : wr.cell? ⟨b, off + k * 5 + 1, none⟩ = some (.int .i64 d.a) := (hD.only.cell (p := ⟨b, off + k * 5 + 1, none⟩) hb (by simp)).trans (hc 1 _ rfl)
      have c2 : wr.cell? ⟨b, off + k * 5 + 2, none⟩ = some (.int .i64 d.b) := (hD.only.cell (p := ⟨b, off + k * 5 + 2, none⟩) hb (by simp)).trans (hc 2 _ rfl)
      have c3 : wr.cell? ⟨b, off + k * 5 + 3, none⟩ = some (.int .i64 d.k) := (hD.only.cell (p := ⟨b, off + k * 5 + 3, none⟩) hb (by simp)).trans (hc 3 _ rfl)
      have c4 : wr.cell? ⟨b, off + k * 5 + 4, none⟩ = some (.int .i64 d.n) := (hD.only.cell (p := ⟨b, off + k * 5 + 4, none⟩) hb (by simp)).trans (hc 4 _ rfl)
      have hbz := hD.only.size
      have hn := Blk.new wr UdT d.arr
      have hD1 := hD.only0 ((Only.refl [] wr).alloc (.cells d.arr UdT))
      have HH := Lib.hid (And.intro hn (And.intro hD1 hS))
      have HLT := Lib.hid hlt
      clear hd hc hD hn hD1 hS
      go_upto_region 11 with fail
      obtain ⟨n0, hn0⟩ : ∃ n0, Hid (n0 = wr.heap.size) := ⟨_, Lib.hid rfl⟩
      obtain ⟨w4, hw4⟩ : ∃ w4, Hid (w4 = wr.alloc (.cells d.arr UdT)) := ⟨_, Lib.hid rfl⟩
      rw [← hw4.out, ← hn0.out] at HH
      rw [← hw4.out, ← hn0.out]
      clear c0 c1 c2 c3 c4 hbz hn0 hw4
      clear wr
      obtain ⟨hn, hD, hS⟩ := HH.out
      obtain ⟨e0, e1, e2, e3, e4⟩ := u5_cells hn
      cases hdel : d.del with
      | true =>
        rw [hdel] at e0
        have cX := rdelete_any hD.ref hS.sok.short hS.sok.pars d.a
        have hSD := hS.del d.a
        clear hn hD hS
        go_wp2_with fail
        (with_reducible refine cX.mono ?_)
        clear cX
        rintro e w5 ⟨rfl, hr5, ho5⟩
        have cW := rwordsG_any hr5 hSD.sok.fitG
        have hoo : Only [] w w5 := HH.out.2.1.only.then ho5 (fun y hy => .inr (by simp at hy; rw [hy]; exact HH.out.2.1.ns))
        clear e0 e1 e2 e3 e4
        go_wp2_with fail
        (with_reducible refine cW.mono ?_)
        clear cW
        rintro e w6 ⟨rfl, hm6, ho6⟩
        have hD6 : Duet w w6 p gs go w5.heap.size (rdelS S d.a) := ⟨hm6, hr5.only0 ho6, hSD.sok, hoo.trans ho6, hoo.size, HH.out.2.1.np, HH.out.2.1.ns, HH.out.2.1.no⟩
        have HD6 := Lib.hid (And.intro hD6 hSD)
        clear hm6 ho6 hr5 ho5 hoo hD6 hSD
        obtain ⟨g6, hg6⟩ : ∃ g6, Hid (w5.heap.size = g6) := ⟨_, Lib.hid rfl⟩
        rw [hg6.out] at HD6 ⊢
        go_wp2_with fail
        exact ⟨⟨k + 1, g6, rdelS S d.a, by have := HLT.out; omega, rfl, by go_num, HD6.out.1, HD6.out.2⟩, by have := HLT.out; simp [intOf]; omega⟩
      | false =>
        rw [hdel] at e0
        obtain ⟨n, hA1⟩ : ∃ n, (retA S d.a d.b d.k d.n).1 = n := ⟨_, rfl⟩
        obtain ⟨bad, hA2⟩ : ∃ bad, (retA S d.a d.b d.k d.n).2 = bad := ⟨_, rfl⟩
        have hbr : bad = 0 ∨ (1 ≤ bad ∧ bad ≤ 14) := by rw [← hA2]; exact retN_rng S d.a d.b d.k d.n
        have cR := uret_is hD.mem hS d.a d.b d.k d.n
        rw [hA1, hA2] at cR
        have HA := Lib.hid (And.intro hA1 hA2)
        have HS1 := Lib.hid (hS.ret d.a d.b d.k d.n)
        clear hn hD hS hA1 hA2
        go_wp2_with fail
        (with_reducible refine cR.mono ?_)
        clear cR e0 e1 e2 e3 e4
        rintro e w5 ⟨rfl, hm5, ho5⟩
        obtain ⟨hn, hD, hS⟩ := HH.out
        have hn5 := hD.keep (by decide) hn ho5
        have hr5 := apartG hD.ref hD.mem ho5
        have cX := rretype_any hr5 hS.sok.short hS.sok.may hS.sok.obs hS.ns hS.no d.a d.b d.k d.n
        obtain ⟨e0, e1, e2, e3, e4⟩ := u5_cells hn5
        have hnl := hn5.lt
        unfold RetPost at cX
        rw [HA.out.1, HA.out.2] at cX
        have H5 := Lib.hid (And.intro hm5 ho5)
        clear hn hD hS hn5 hr5 hm5 ho5
        go_wp2_with fail
        (with_reducible refine cX.mono ?_)
        clear cX e0 e1 e2 e3 e4 hnl
        rintro e w6 ⟨rfl, hr6, ho6⟩
        have hD6 := HH.out.2.1.both H5.out.1 H5.out.2 hr6 ho6 (fun x hx => hx) HS1.out.sok
        have cC := code_any hbr w6
        have cW := rwordsG_any hD6.ref HS1.out.sok.fitG
        have q1 : (bad != bad) = false := by simp
        have q2 : (n != n) = false := by simp
        have HD6 := Lib.hid hD6
        clear hD6 hr6 ho6 H5
        go_wp2_with fail
        (with_reducible refine cC.mono ?_)
        clear cC
        rintro e w7 ⟨rfl, hw⟩
        subst hw
        go_wp2_with fail
        (with_reducible refine cW.mono ?_)
        clear cW
        rintro e w7 ⟨rfl, hm7, ho7⟩
        have hD7 := HD6.out.only0 ho7
        have cE := sameG_yes (w := w7) 738 738 (wordsG_len _) hD7.mem.row.wds hm7.row.wds
        have HD7 := Lib.hid hD7
        clear hm7 ho7 hD7
        go_wp2_with fail
        (with_reducible refine cE.mono ?_)
        clear cE
        rintro e w8 ⟨rfl, ho8⟩
        have HD8 := Lib.hid (HD7.out.only0 ho8)
        clear ho8 HD7
        go_wp2_with fail
        exact ⟨⟨k + 1, g, _, by have := HLT.out; omega, rfl, by go_num, HD8.out, HS1.out⟩, by have := HLT.out; simp [intOf]; omega⟩
    · obtain rfl : k = LL.length := by omega
      have HD := Lib.hid (And.intro hD hS)
      clear hlt hD hS
      obtain ⟨wo, hwo⟩ : ∃ x, x = wr := ⟨_, rfl⟩
      rw [← hwo] at HD ⊢
      clear hwo
      go_wp2_with fail
      clear wr
      go_loopw [16] (fun i wr => ∃ (q : Int), -1 ≤ q ∧ q ≤ 33 ∧ i = .int .i64 q ∧ Duet w wr p gs go g S) (fun i _ => (33 - intOf i).toNat)
      case atStart => exact ⟨-1, by omega, by omega, rfl, HD.out.1⟩
      case round =>
        obtain ⟨q, hq1, hq2, rfl, hD⟩ := hrel
        by_cases hle : q ≤ 32
        · have HQ := Lib.hid (And.intro hq1 (And.intro hq2 hle))
          have hwq : IntKind.i64.wrap (q + 1) = q + 1 := IntWalk.i64_in _ (by omega)
          by_cases h0 : 0 ≤ q
          · by_cases h9 : q < 32
            · obtain ⟨m, rfl⟩ : ∃ m : Nat, q = m := ⟨q.toNat, by omega⟩
              have hm : m < 32 := by omega
              obtain ⟨co, c1⟩ := hD.ref.cObjs
              obtain ⟨A', cp', hrow, -⟩ := hD.ref.cObj hm
              obtain ⟨kd, hkd⟩ : ∃ kd, (S.ob m).kind = kd := ⟨_, rfl⟩
              obtain ⟨sz, hsz⟩ : ∃ sz, (S.ob m).size = sz := ⟨_, rfl⟩
              obtain ⟨us, hus⟩ : ∃ us, (S.ob m).used = us := ⟨_, rfl⟩
              have r0 : wr.cell? ⟨go, m * 32, none⟩ = some (.int .i64 kd) := by rw [← hkd]; exact hrow 0 _ rfl
              have r1 : wr.cell? ⟨go, m * 32 + 1, none⟩ = some (.int .i64 sz) := by rw [← hsz]; exact hrow 1 _ rfl
              have r2 : wr.cell? ⟨go, m * 32 + 2, none⟩ = some (.int .i64 us) := by rw [← hus]; exact hrow 2 _ rfl
              have hfit := HD.out.2.sok.obs m hm
              have hf1 := hfit.size
              have hf2 := hfit.used
              rw [hsz] at hf1
              rw [hus] at hf2
              by_cases hk : kd = 1
              · have hZ : leftZ S m = sz - us := by
                  unfold leftZ isO
                  rw [if_pos (decide_eq_true ⟨by omega, by omega, by rw [hkd, hk]⟩), hsz, hus]
                have HZ := Lib.hid hZ
                have hkb : (kd == 1) = true := by simp [hk]
                have hws : IntKind.i64.wrap (sz - us) = sz - us := IntWalk.i64_in _ (by omega)
                have q3 : ((sz - us) != (sz - us)) = false := by simp
                have HDq := Lib.hid hD
                clear hk hZ hkd hsz hus hrow hfit hf1 hf2 hD
                go_upto_region 24 with fail
                go_quiet (fail)
                have hD2 := HDq.out.only0 ((Only.refl [] wr).drewN nq)
                have cL := uleft_is hD2.mem HD.out.2 m
                rw [HZ.out] at cL
                have HD2 := Lib.hid hD2
                clear hD2
                go_wp2_with fail
                (with_reducible refine cL.mono ?_)
                clear cL
                rintro e w5 ⟨rfl, hm5, ho5⟩
                have HD5 := Lib.hid (HD2.out.read hm5 ho5)
                clear hm5 ho5 HD2
                go_wp2_with fail
                exact ⟨⟨(m : Int) + 1, by have := HQ.out; omega, by have := HQ.out; omega, by go_num, HD5.out⟩, by have := HQ.out; simp [intOf]; omega⟩
              · have hZ : leftZ S m = 0 := by
                  unfold leftZ isO
                  rw [if_neg (by simp [hkd, hk])]
                have hkb : (kd == 1) = false := by simp [hk]
                have cL := uleft_is hD.mem HD.out.2 m
                rw [hZ] at cL
                have HD2 := Lib.hid hD
                clear hk hZ hkd hsz hus hrow hfit hf1 hf2 hD
                go_wp2_with fail
                (with_reducible refine cL.mono ?_)
                clear cL
                rintro e w5 ⟨rfl, hm5, ho5⟩
                have HD5 := Lib.hid (HD2.out.read hm5 ho5)
                clear hm5 ho5 HD2
                go_wp2_with fail
                exact ⟨⟨(m : Int) + 1, by have := HQ.out; omega, by have := HQ.out; omega, by go_num, HD5.out⟩, by have := HQ.out; simp [intOf]; omega⟩
            · have hZ : leftZ S q = 0 := by
                unfold leftZ isO
                rw [if_neg (by simp; omega)]
              have cL := uleft_is hD.mem HD.out.2 q
              rw [hZ] at cL
              have HD2 := Lib.hid hD
              clear hZ hD
              go_wp2_with fail
              (with_reducible refine cL.mono ?_)
              clear cL
              rintro e w5 ⟨rfl, hm5, ho5⟩
              have HD5 := Lib.hid (HD2.out.read hm5 ho5)
              clear hm5 ho5 HD2
              go_wp2_with fail
              exact ⟨⟨q + 1, by have := HQ.out; omega, by have := HQ.out; omega, by go_num, HD5.out⟩, by have := HQ.out; simp [intOf]; omega⟩
          · have hZ : leftZ S q = 0 := by
              unfold leftZ isO
              rw [if_neg (by simp; omega)]
            have cL := uleft_is hD.mem HD.out.2 q
            rw [hZ] at cL
            have HD2 := Lib.hid hD
            clear hZ hD
            go_wp2_with fail
            (with_reducible refine cL.mono ?_)
            clear cL
            rintro e w5 ⟨rfl, hm5, ho5⟩
            have HD5 := Lib.hid (HD2.out.read hm5 ho5)
            clear hm5 ho5 HD2
            go_wp2_with fail
            exact ⟨⟨q + 1, by have := HQ.out; omega, by have := HQ.out; omega, by go_num, HD5.out⟩, by have := HQ.out; simp [intOf]; omega⟩
        · have HO := Lib.hid hD.only
          clear hD
          go_wp2_with fail
          go_ret
          exact ⟨rfl, HO.out⟩
end Go.Proofs.Ytffoajakkghlbaa
