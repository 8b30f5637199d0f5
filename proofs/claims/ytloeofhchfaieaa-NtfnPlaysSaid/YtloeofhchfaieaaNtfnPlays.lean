/- NtfnPlays' walk: for all numbers of threads, all slices of deeds. -/
import Derived.Test.YtloeofhchfaieaaJ1
import Derived.Test.YtloeofhchfaieaaNtUp
import Derived.Test.YtloeofhchfaieaaJ16
import Derived.Test.YtloeofhchfaieaaJ18
import Derived.Test.YtloeofhchfaieaaJ19
import Derived.Deep.RegionHeld3
import Derived.Deep.CutBlock
import Derived.Deep.DeepCutAuto
namespace Go.Proofs.Ytloeofhchfaieaa
open Go.RowKit
section
variable {w w' w0 : World} {p gs go g n : Nat} {S : RSt} {i o b t : Int}
theorem KP.qlen (h : KP n S i o) (x : Int) : (S.ob x).queue.length ≤ 900 := by
  have := (Wok.of h.ok.sok h.ok.ei.qf).few x
  have e : S.qs x = (S.ob x).queue := rfl
  rw [e] at this
  omega
theorem KP.sigE (h : KP n S i o) (hb : 0 ≤ b ∧ b < 65536) : ∃ i' o', KP n (sigS S ((n : Int) + 4) b) i' o' := by
  cases hq : (S.ob ((n : Int) + 4)).queue with
  | nil => exact ⟨_, _, h.sig hb hq⟩
  | cons t l => exact ⟨_, _, (h.told hb hq).1⟩
theorem KP.ntwE (h : KP n S i o) (ht : S.Thr t) (h1 : (S.ob t).state = 1) : ∃ i' o', KP n (ntwS S ((n : Int) + 4) t) i' o' := by
  by_cases hw : (S.ob ((n : Int) + 4)).word = 0
  · exact ⟨_, _, h.wait ht h1 hw⟩
  · have e : ntwS S ((n : Int) + 4) t = wordS S ((n : Int) + 4) 0 := by unfold ntwS; rw [if_neg hw]
    rw [e]
    exact ⟨_, _, h.poll⟩
theorem keepO {t : TypeId} {k : Nat} {cs : Array Value} (h : RefM w p gs go S) (ht : t ≠ ObT) (hb : Blk w k t cs) (ho : Only [go] w w') : Blk w' k t cs := by
  obtain ⟨-, cur, hg⟩ := h.blkG
  exact ho.blk hb (fun e => by simp at e; exact hb.ne_ hg ht e)
/-- the document's Signal, whoever waits -/
theorem rsignal_any (h : RefM w p gs go S) (k : KP n S i o) (hb : 0 ≤ b ∧ b < 65536) :
    Calls Try.prog 10 #[.pointer (some ⟨p, 0, none⟩), .int .i64 ((n : Int) + 4), .int .i64 b] w fun e w' => e = .returned (.tuple #[]) ∧ RefM w' p gs go (sigS S ((n : Int) + 4) b) ∧ Only [go] w w' := by
  have hn := k.n7
  have e : ((n + 4 : Nat) : Int) = (n : Int) + 4 := by omega
  rw [← e]
  cases hq : (S.ob ((n : Int) + 4)).queue with
  | nil => exact rsignal_none h (by omega) (by rw [e]; exact hq) hb (by rw [e]; exact k.hw)
  | cons t l =>
    have ht := (k.told hb hq).2.1
    obtain ⟨a, rfl⟩ : ∃ a : Nat, t = a := ⟨t.toNat, by have := ht.1; omega⟩
    exact rsignal_told h (by omega) (t := a) (tl := l) (by have := ht.1; omega) (by rw [e]; exact hq) (by have := k.qlen ((n : Int) + 4); rw [hq] at this; simp at this; omega) b
/-- Wait, of a thread that is Ready -/
theorem nwait_any (hm : MemP g 738 UT w (wordsG S)) (k : KP n S i o) (ht : S.Thr t) (h1 : (S.ob t).state = 1) :
    Calls Try.prog 12 #[pvw g, .int .i64 ((n : Int) + 4), .int .i64 t] w fun e w' =>
      e = .returned (.tuple #[replyV (S.ob ((n : Int) + 4)).word 0, .bool (decide ((S.ob ((n : Int) + 4)).word ≠ 0)), .nilIface]) ∧ MemP g 738 UT w' (wordsG (ntwS S ((n : Int) + 4) t)) ∧ Only [g] w w' := by
  by_cases hw : (S.ob ((n : Int) + 4)).word = 0
  · have c := nwait_blocks hm k.ok k.nt ht h1 hw
    rw [hw]
    exact c
  · have c := nwait_told hm k.ok k.nt ht hw
    rw [decide_eq_true (p := (S.ob ((n : Int) + 4)).word ≠ 0) hw]
    exact c
end
set_option maxRecDepth 100000 in
set_option maxHeartbeats 4000000 in
theorem nplays_any (z : Int) (A : Option Addr) (LL : List N3) (cp : Nat) (w : World) (hL : DeedsN3 w A LL) (hl : LL.length ≤ 9223372036854775807) :
    Calls Try.prog 3 #[.int .i64 z, .slice A LL.length cp] w fun e w' => e = .returned (.bool true) ∧ Only [] w w' := by
  have cU := nup_any w
  by_cases h1 : z < 0
  · skip
    --<X>
    go_enter Try.func3, Try.ntmps3
    go_wp2_with ((with_reducible refine cU.mono ?_); clear cU; rintro e w1 ⟨rfl, ho1⟩)
    go_ret
    exact ⟨rfl, ho1⟩
    --</X>
  by_cases h2 : 7 < z
  · skip
    --<X>
    go_enter Try.func3, Try.ntmps3
    go_wp2_with ((with_reducible refine cU.mono ?_); clear cU; rintro e w1 ⟨rfl, ho1⟩)
    go_ret
    exact ⟨rfl, ho1⟩
    --</X>
  by_cases h3 : 120 < LL.length
  · skip
    --<X>
    have h3' : (120 : Int) < (LL.length : Int) := by omega
    go_enter Try.func3, Try.ntmps3
    go_wp2_with ((with_reducible refine cU.mono ?_); clear cU; rintro e w1 ⟨rfl, ho1⟩)
    go_ret
    exact ⟨rfl, ho1⟩
    --</X>
  have h3' : ¬ (120 : Int) < (LL.length : Int) := by omega
  obtain ⟨n, rfl⟩ : ∃ n : Nat, z = n := ⟨z.toNat, by omega⟩
  have hn7 : n ≤ 7 := by omega
  have hr : ∀ W : World, _ := fun W => boot_any n hn7 W
  have HB := Lib.hid hr
  clear hr
  go_enter Try.func3, Try.ntmps3
  go_wp2_with fail
  (with_reducible refine cU.mono ?_)
  clear cU
  rintro e w1 ⟨rfl, ho1⟩
  go_wp2_with fail
  (with_reducible refine (HB.out _).mono ?_)
  rintro e w2 ⟨gs, go, rfl, hr2, hgs, hgo, ho2⟩
  have hpw := ho1.size
  obtain ⟨pB, hpB⟩ : ∃ pB, Hid (w1.heap.size = pB) := ⟨_, Lib.hid rfl⟩
  rw [hpB.out] at hr2 hgs hgo hpw ⊢
  have cW := rwordsG_any hr2 (boot_eok hn7).sok.fitG
  go_wp2_with fail
  (with_reducible refine cW.mono ?_)
  clear cW HB
  rintro e w3 ⟨rfl, hm3, ho3⟩
  have ng := (ho1.trans ho2).size
  have hr3 := hr2.only0 ho3
  replace ho3 := (ho1.trans ho2).trans ho3
  obtain ⟨g, hg⟩ : ∃ g, Hid (w2.heap.size = g) := ⟨_, Lib.hid rfl⟩
  rw [hg.out] at hm3 ng ⊢
  have HE : Hid (Duet w w3 pB gs go g (bootS n)) := Lib.hid ⟨hm3, hr3, (boot_eok hn7).sok, ho3, ng, hpw, by omega, by omega⟩
  clear hr2 ho1 ho2 hg hpB hm3 hr3 ho3 ng hpw hgs hgo
  clear w1 w2
  go_wp2_with fail
  go_loopw [9] (fun jv wr => ∃ (m : Nat) (S : RSt) (i o : Int), m ≤ LL.length ∧ jv = .int .i64 m ∧ Duet w wr pB gs go g S ∧ KP n S i o) (fun jv _ => LL.length - (intOf jv).toNat)
  case atStart => exact ⟨0, _, 0, 0, by omega, rfl, HE.out, boot_kp hn7⟩
  case round =>
    clear HE
    clear w3
    obtain ⟨m, S, i, o, hm, rfl, hE, hO⟩ := hrel
    by_cases hml : m < LL.length
    · obtain ⟨d, hd⟩ : ∃ d, LL[m]? = some d := ⟨_, List.getElem?_eq_getElem hml⟩
      obtain ⟨b0, off, rfl, hb, hc⟩ := hL.at_ m d hd
      have hok := hL.ok m d hd
      have c0 : wr.cell? ⟨b0, off + m * 3, none⟩ = some (.int .i64 d.what) := (hE.only.cell (p := ⟨b0, off + m * 3, none⟩) hb (by simp)).trans (hc 0 _ rfl)
      have c1 : wr.cell? ⟨b0, off + m * 3 + 1, none⟩ = some (.int .i64 d.t) := (hE.only.cell (p := ⟨b0, off + m * 3 + 1, none⟩) hb (by simp)).trans (hc 1 _ rfl)
      have c2 : wr.cell? ⟨b0, off + m * 3 + 2, none⟩ = some (.int .i64 d.b) := (hE.only.cell (p := ⟨b0, off + m * 3 + 2, none⟩) hb (by simp)).trans (hc 2 _ rfl)
      have hbz := hE.only.size
      have hn := Blk.new wr N3T d.arr
      have hE1 := hE.only0 ((Only.refl [] wr).alloc (.cells d.arr N3T))
      have HH := Lib.hid (And.intro hE1 (And.intro hok hO))
      have HN := Lib.hid hn
      have HLT := Lib.hid hml
      have hlt' : (m : Int) < (LL.length : Int) := by omega
      obtain ⟨b, hbb⟩ : ∃ b, pickN d.b 65536 = b := ⟨_, rfl⟩
      obtain ⟨p, hp⟩ : ∃ p, pickN d.what 4 = p := ⟨_, rfl⟩
      have hbr := pickN_rng d.b (n := 65536) (by decide)
      have hpr := pickN_rng d.what (n := 4) (by decide)
      have cB := Lib.hid fun W => pickN_any d.b 65536 hok.b (by decide) (by decide) W
      have cP := Lib.hid fun W => pickN_any d.what 4 hok.what (by decide) (by decide) W
      rw [hbb] at cB hbr
      rw [hp] at cP hpr
      clear hd hc hE hn hE1 hok hO hbb hp
      go_upto_if 63 with (first | ((with_reducible refine (cB.out _).mono ?_); rintro e w' ⟨rfl, hw⟩; replace hw := hw.symm; subst hw) | ((with_reducible refine (cP.out _).mono ?_); rintro e w' ⟨rfl, hw⟩; replace hw := hw.symm; subst hw) | fail)
      clear cB cP c0 c1 c2 hb hbz
      obtain ⟨n0, hn0⟩ : ∃ n0, Hid (n0 = wr.heap.size) := ⟨_, Lib.hid rfl⟩
      obtain ⟨w4, hw4⟩ : ∃ w4, Hid (w4 = wr.alloc (.cells d.arr N3T)) := ⟨_, Lib.hid rfl⟩
      rw [← hw4.out, ← hn0.out] at HN
      rw [← hw4.out] at HH
      rw [← hw4.out, ← hn0.out]
      clear hw4 hn0
      clear wr
      by_cases hp2 : p < 2
      · skip
        --<A>
        as_aux_lemma =>
        have cS := nsignal_is HH.out.1.mem HH.out.2.2.ok HH.out.2.2.nt HH.out.2.2.hw.2 hbr
        obtain ⟨i1, o1, hK⟩ := HH.out.2.2.sigE hbr
        have HK := Lib.hid hK
        have cR := Lib.hid fun (W : World) (h : RefM W pB gs go S) => rsignal_any h HH.out.2.2 hbr
        obtain ⟨S1, hS1⟩ : ∃ S1, sigS S ((n : Int) + 4) b = S1 := ⟨_, rfl⟩
        rw [hS1] at cS HK cR
        clear hK hS1
        go_wp2_with fail
        (with_reducible refine cS.mono ?_)
        clear cS
        rintro e w5 ⟨rfl, hm5, ho5⟩
        have hr5 := apartG HH.out.1.ref HH.out.1.mem ho5
        have H5 := Lib.hid (And.intro hm5 ho5)
        have cX := cR.out w5 hr5
        clear hm5 ho5 hr5 cR
        go_wp2_with fail
        (with_reducible refine cX.mono ?_)
        clear cX
        rintro e w6 ⟨rfl, hr6, ho6⟩
        have hD6 := HH.out.1.both H5.out.1 H5.out.2 hr6 ho6 (by simp) HK.out.ok.sok
        have HD6 := Lib.hid hD6
        have cW := rwordsG_any hr6 HK.out.ok.sok.fitG
        clear hD6 hr6 ho6 H5
        go_wp2_with fail
        (with_reducible refine cW.mono ?_)
        clear cW
        rintro e w7 ⟨rfl, hm7, ho7⟩
        have hD7 := HD6.out.only0 ho7
        have cE := sameG_yes (w := w7) 738 738 (wordsG_len _) hD7.mem.row.wds hm7.row.wds
        have HD7 := Lib.hid hD7
        clear hm7 ho7 hD7
        go_wp2_with fail
        (with_reducible refine cE.mono ?_)
        clear cE
        rintro e w8 ⟨rfl, ho8⟩
        have HD8 := Lib.hid (HD7.out.only0 ho8)
        clear ho8 HD7
        go_wp2_with fail
        exact ⟨⟨m + 1, S1, i1, o1, by have := HLT.out; omega, by go_num, HD8.out, HK.out⟩, by have := HLT.out; simp [intOf]; omega⟩
        --</A>
      by_cases hpn : p = 2 ∧ 0 < n
      · skip
        --<B>
        as_aux_lemma =>
        obtain ⟨rfl, hn0⟩ := hpn
        have hn0' : (0 : Int) < (n : Int) := by omega
        obtain ⟨-, e1, -⟩ := N3.cells HN.out
        have hnl := HN.out.lt
        obtain ⟨t, ht⟩ : ∃ t, pickN d.t n = t := ⟨_, rfl⟩
        have htr := pickN_rng d.t (n := (n : Int)) (by omega)
        have cT := pickN_any d.t n HH.out.2.1.t (by omega) (by omega) w4
        rw [ht] at cT htr
        obtain ⟨a, rfl⟩ : ∃ a : Nat, t = a := ⟨t.toNat, by omega⟩
        have hth := HH.out.2.2.thr a (by omega) (by omega)
        have hiO : isO S (a : Int) 5 = true := by unfold isO; exact decide_eq_true ⟨by omega, by have := hth.1; omega, hth.2⟩
        have cR := rready_any HH.out.1.ref (a : Int)
        rw [hiO, Bool.true_and] at cR
        obtain ⟨st, hst⟩ : ∃ st, (S.ob (a : Int)).state = st := ⟨_, rfl⟩
        rw [hst] at cR
        have HT := Lib.hid (And.intro hth hst)
        clear hth hst ht hiO
        go_wp2_with fail
        (with_reducible refine cT.mono ?_)
        clear cT e1 hnl
        rintro e w' ⟨rfl, hw⟩
        replace hw := hw.symm
        subst hw
        go_wp2_with fail
        (with_reducible refine cR.mono ?_)
        clear cR
        rintro e w' ⟨rfl, hw⟩
        subst hw
        by_cases hs1 : st = 1
        · skip
          --<B1>
          subst hs1
          have cS := nwait_any HH.out.1.mem HH.out.2.2 HT.out.1 HT.out.2
          obtain ⟨i1, o1, hK⟩ := HH.out.2.2.ntwE HT.out.1 HT.out.2
          have HK := Lib.hid hK
          have hn7 := HH.out.2.2.n7
          have cR := Lib.hid fun (W : World) (h : RefM W pB gs go S) => rwait_any h (o := n + 4) (t := a) (by omega) (by have := HT.out.1.1; omega) (HH.out.2.2.qlen _)
          rw [show ((n + 4 : Nat) : Int) = (n : Int) + 4 by omega] at cR
          obtain ⟨S1, hS1⟩ : ∃ S1, ntwS S ((n : Int) + 4) (a : Int) = S1 := ⟨_, rfl⟩
          rw [hS1] at cS HK cR
          obtain ⟨x, hx⟩ : ∃ x, (S.ob ((n : Int) + 4)).word = x := ⟨_, rfl⟩
          rw [hx] at cS cR
          obtain ⟨q, hq⟩ : ∃ q, decide (x ≠ 0) = q := ⟨_, rfl⟩
          rw [hq] at cS cR
          clear hK hS1 hx hq hn7
          go_wp2_with fail
          (with_reducible refine cS.mono ?_)
          clear cS
          rintro e w5 ⟨rfl, hm5, ho5⟩
          obtain ⟨n5, hn5⟩ : ∃ n5, Hid (n5 = w5.heap.size) := ⟨_, Lib.hid rfl⟩
          have oA := (Only.refl [] w5).alloc (.cells #[.int .i64 0, .int .i64 x, .int .i64 0] 38)
          have hb5 := Blk.new w5 38 #[.int .i64 0, .int .i64 x, .int .i64 0]
          have hr5 := (apartG HH.out.1.ref HH.out.1.mem ho5).only0 oA
          have H5 := Lib.hid (And.intro (hm5.only oA (by simp)) (And.intro (ho5.then oA (fun y hy => by simp at hy)) (And.intro hb5 hr5)))
          have cX := cR.out _ hr5
          clear hm5 ho5 hr5 cR oA hb5
          go_upto_region 22 with fail
          obtain ⟨w6, hw6⟩ : ∃ w6, Hid (w6 = w5.alloc (.cells #[.int .i64 0, .int .i64 x, .int .i64 0] 38)) := ⟨_, Lib.hid rfl⟩
          rw [← hw6.out] at H5 cX
          rw [← hn5.out] at H5
          rw [← hw6.out, ← hn5.out]
          clear hw6 hn5
          clear w5
          go_wp2_with fail
          (with_reducible refine cX.mono ?_)
          clear cX
          rintro e w7 ⟨rfl, hr7, ho7⟩
          have hb7 := keepO H5.out.2.2.2 (by decide) H5.out.2.2.1 ho7
          have f0 := hb7.cell 0
          have f1 := hb7.cell 1
          have f2 := hb7.cell 2
          simp at f0 f1 f2
          have fl := hb7.lt
          have hD7 := HH.out.1.both H5.out.1 H5.out.2.1 hr7 ho7 (by simp) HK.out.ok.sok
          have HD7 := Lib.hid hD7
          have cW := rwordsG_any hr7 HK.out.ok.sok.fitG
          have q1 : (q != q) = false := by simp
          have q2 : (x != x) = false := by simp
          have q3 : (x == x) = true := by simp
          clear hD7 hr7 ho7 H5 hb7
          go_wp2_with fail
          (with_reducible refine cW.mono ?_)
          clear cW
          rintro e w8 ⟨rfl, hm8, ho8⟩
          have hD8 := HD7.out.only0 ho8
          have cE := sameG_yes (w := w8) 738 738 (wordsG_len _) hD8.mem.row.wds hm8.row.wds
          have HD8 := Lib.hid hD8
          clear hm8 ho8 hD8
          go_wp2_with fail
          (with_reducible refine cE.mono ?_)
          clear cE
          rintro e w9 ⟨rfl, ho9⟩
          have HD9 := Lib.hid (HD8.out.only0 ho9)
          clear ho9 HD8
          go_wp2_with fail
          exact ⟨⟨m + 1, S1, i1, o1, by have := HLT.out; omega, by go_num, HD9.out, HK.out⟩, by have := HLT.out; simp [intOf]; omega⟩
          --</B1>
        · skip
          --<B2>
          rw [decide_eq_false hs1]
          go_wp2_with fail
          exact ⟨⟨m + 1, S, i, o, by have := HLT.out; omega, by go_num, HH.out.1, HH.out.2.2⟩, by have := HLT.out; simp [intOf]; omega⟩
          --</B2>
        --</B>
      · skip
        --<C>
        have hcs : (p = 2 ∧ n = 0) ∨ p ≠ 2 := by omega
        have cS := npoll_is HH.out.1.mem HH.out.2.2.ok HH.out.2.2.nt
        have hK := HH.out.2.2.poll
        have HK := Lib.hid hK
        have hn7 := HH.out.2.2.n7
        have cR := Lib.hid fun (W : World) (h : RefM W pB gs go S) => rpoll_any h (o := n + 4) (by omega)
        rw [show ((n + 4 : Nat) : Int) = (n : Int) + 4 by omega] at cR
        obtain ⟨S1, hS1⟩ : ∃ S1, wordS S ((n : Int) + 4) 0 = S1 := ⟨_, rfl⟩
        rw [hS1] at cS HK cR
        obtain ⟨x, hx⟩ : ∃ x, (S.ob ((n : Int) + 4)).word = x := ⟨_, rfl⟩
        rw [hx] at cS cR HK
        clear hK hS1 hx hpn
        have hkk : (p == 2) = true ∧ ¬ (0 : Int) < (n : Int) ∨ (p == 2) = false := by
          rcases hcs with ⟨rfl, hn0⟩ | hp'
          · exact .inl ⟨rfl, by omega⟩
          · exact .inr (by simpa using hp')
        clear hcs
        rcases hkk with ⟨hp2', hn0'⟩ | hp2'
        all_goals
          go_wp2_with fail
          (with_reducible refine cS.mono ?_)
          clear cS
          rintro e w5 ⟨rfl, hm5, ho5⟩
          obtain ⟨n5, hn5⟩ : ∃ n5, Hid (n5 = w5.heap.size) := ⟨_, Lib.hid rfl⟩
          have oA := (Only.refl [] w5).alloc (.cells #[.int .i64 0, .int .i64 x, .int .i64 0] 38)
          have hb5 := Blk.new w5 38 #[.int .i64 0, .int .i64 x, .int .i64 0]
          have hr5 := (apartG HH.out.1.ref HH.out.1.mem ho5).only0 oA
          have H5 := Lib.hid (And.intro (hm5.only oA (by simp)) (And.intro (ho5.then oA (fun y hy => by simp at hy)) (And.intro hb5 hr5)))
          clear hm5 ho5 hr5 oA hb5
          go_upto_region 26 with fail
          obtain ⟨w6, hw6⟩ : ∃ w6, Hid (w6 = w5.alloc (.cells #[.int .i64 0, .int .i64 x, .int .i64 0] 38)) := ⟨_, Lib.hid rfl⟩
          rw [← hw6.out] at H5
          rw [← hn5.out] at H5
          rw [← hw6.out, ← hn5.out]
          clear hw6 hn5
          clear w5
          have oy : Only [] w6 w6.drew := (Only.refl _ _).drewN 1
          have cX := cR.out w6.drew (H5.out.2.2.2.only0 oy)
          have HF := Lib.hid fun (W : World) (hb : Blk W n5 38 #[.int .i64 0, .int .i64 x, .int .i64 0]) => (And.intro (hb.cell 0) (And.intro (hb.cell 1) (And.intro (hb.cell 2) hb.lt)) : W.cell? ⟨n5, 0, none⟩ = some (.int .i64 0) ∧ W.cell? ⟨n5, 1, none⟩ = some (.int .i64 x) ∧ W.cell? ⟨n5, 2, none⟩ = some (.int .i64 0) ∧ n5 < W.heap.size)
          have q2 : (x != x) = false := by simp
          have q3 : (x == x) = true := by simp
          go_region_held3 (fun W => W.cell? ⟨n5, 0, none⟩ = some (.int .i64 0) ∧ W.cell? ⟨n5, 1, none⟩ = some (.int .i64 x) ∧ W.cell? ⟨n5, 2, none⟩ = some (.int .i64 0) ∧ n5 < W.heap.size)
            (first | exact HF.out _ (oy.blk H5.out.2.2.1 (by simp)) | exact HF.out _ hb7 | fail)
            (first | ((with_reducible refine cX.mono ?_); rintro e w7 ⟨rfl, hr7, ho7⟩; have hb7 := keepO (H5.out.2.2.2.only0 oy) (by decide) (oy.blk H5.out.2.2.1 (by simp)) ho7) | fail)
        all_goals
          have hD7 := HH.out.1.both (H5.out.1.only oy (by simp)) (H5.out.2.1.then oy (fun y hy => by simp at hy)) hr7 ho7 (by simp) HK.out.ok.sok
          have HD7 := Lib.hid hD7
          have cW := rwordsG_any hr7 HK.out.ok.sok.fitG
          clear hD7 hr7 ho7 H5 hb7
          go_wp2_with fail
          (with_reducible refine cW.mono ?_)
          clear cW
          rintro e w8 ⟨rfl, hm8, ho8⟩
          have hD8 := HD7.out.only0 ho8
          have cE := sameG_yes (w := w8) 738 738 (wordsG_len _) hD8.mem.row.wds hm8.row.wds
          have HD8 := Lib.hid hD8
          clear hm8 ho8 hD8
          go_wp2_with fail
          (with_reducible refine cE.mono ?_)
          clear cE
          rintro e w9 ⟨rfl, ho9⟩
          have HD9 := Lib.hid (HD8.out.only0 ho9)
          clear ho9 HD8
          go_wp2_with fail
          exact ⟨⟨m + 1, S1, _, _, by have := HLT.out; omega, by go_num, HD9.out, HK.out⟩, by have := HLT.out; simp [intOf]; omega⟩
        --</C>
    · skip
      --<D>
      as_aux_lemma =>
      obtain rfl : m = LL.length := by omega
      have hlt' : ¬ (LL.length : Int) < (LL.length : Int) := by omega
      have cA := npoll_bad hE.mem (o := -1) (by omega)
      rw [show errV 2 = .iface 47 (.int .i64 2) from rfl] at cA
      have HE := Lib.hid hE
      clear hE hO hml hm
      go_wp2_with fail
      (with_reducible refine cA.mono ?_)
      clear cA
      rintro e w5 ⟨rfl, hm5, ho5⟩
      have oA := (Only.refl [] w5).alloc (.cells #[.int .i64 0, .int .i64 0, .int .i64 0] 38)
      have H5 := Lib.hid ((HE.out.read hm5 ho5).only0 oA)
      have cB := nwait_bad H5.out.mem (o := (n : Int) + 4) (t := 32) (.inr (by omega))
      rw [show errV 2 = .iface 47 (.int .i64 2) from rfl] at cB
      clear hm5 ho5 oA HE
      go_wp2_with fail
      (with_reducible refine cB.mono ?_)
      clear cB
      rintro e w6 ⟨rfl, hm6, ho6⟩
      have oA := (Only.refl [] w6).alloc (.cells #[.int .i64 0, .int .i64 0, .int .i64 0] 38)
      have H6 := Lib.hid ((H5.out.read hm6 ho6).only0 oA)
      have hq := fun (a : Int) (W : World) => Lib.run_eql_iface_int (P := Try.prog) W (t := 33) (tx := 47) (k := .i64) 2 a Try.underlying33 (by kernel_rfl) Try.underlying47
      clear hm6 ho6 oA H5
      go_wp2_with fail
      go_ret
      exact ⟨rfl, H6.out.only⟩
      --</D>
end Go.Proofs.Ytloeofhchfaieaa
