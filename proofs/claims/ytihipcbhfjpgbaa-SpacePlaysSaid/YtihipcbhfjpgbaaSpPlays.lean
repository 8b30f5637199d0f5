/- SpacePlays' walk: for all slices of deeds. -/
import Derived.Test.YtihipcbhfjpgbaaSpEx
import Derived.Test.YtihipcbhfjpgbaaSpDeeds
import Derived.Test.YtihipcbhfjpgbaaDuet
import Derived.Test.YtihipcbhfjpgbaaJ12
import Derived.Deep.CutBlock
import Derived.Deep.DeepCutAuto
import Derived.Deep.RegionHeld3
namespace Go.Proofs.Ytihipcbhfjpgbaa
open Go.RowKit
section
variable {w w' w0 w1 w2 : World} {p gs go g n0 : Nat} {S S' : RSt} {d : S5}
theorem S5.all {w : World} {g : Nat} {d : S5} (h : Blk w g S5T d.arr) : w.cell? ⟨g, 0, none⟩ = some (.bool d.un) ∧ w.cell? ⟨g, 1, none⟩ = some (.int .i64 d.a) ∧ w.cell? ⟨g, 2, none⟩ = some (.int .i64 d.b) ∧ w.cell? ⟨g, 3, none⟩ = some (.int .i64 d.page) ∧ w.cell? ⟨g, 4, none⟩ = some (.int .i64 d.rights) :=
  ⟨h.cell 0, h.cell 1, h.cell 2, h.cell 3, h.cell 4⟩
theorem mapN_ok (S : RSt) (f s p r : Int) : mapN S f s p r = 0 ∨ (1 ≤ mapN S f s p r ∧ mapN S f s p r ≤ 14) := by
  unfold mapN
  split
  · split
    · simp
    · split
      · simp
      · split <;> simp
  · simp
theorem unmN_ok (S : RSt) (f : Int) : unmN S f = 0 ∨ (1 ≤ unmN S f ∧ unmN S f ≤ 14) := by unfold unmN; split <;> (try split) <;> simp
theorem keepSp {t : TypeId} {k : Nat} {cs : Array Value} (h : RefM w p gs go S) (ht : t ≠ ObT) (hb : Blk w k t cs) (ho : Only [go] w w') : Blk w' k t cs := by
  obtain ⟨-, cur, hg⟩ := h.blkG
  exact ho.blk hb (fun e => by simp at e; exact hb.ne_ hg ht e)
/-- words and state, one and the same, of frames in spaces; and the deed -/
structure SDu (w W : World) (p gs go g n0 : Nat) (d : S5) (S : RSt) : Prop where
  du : Duet w W p gs go g S
  sp : SP S
  dd : Blk W n0 S5T d.arr
theorem SDu.two (h : SDu w0 w p gs go g n0 d S) (hm : MemP g 738 UT w1 (wordsG S')) (ho : Only [g] w w1) (hr : RefM w2 p gs go S') (ho2 : Only [go] w1 w2) (k : SP S') : SDu w0 w2 p gs go g n0 d S' :=
  ⟨h.du.both hm ho hr ho2 (by simp) k.sok, k, keepSp (apartG h.du.ref h.du.mem ho) (by decide) (h.du.keep (by decide) h.dd ho) ho2⟩
theorem SDu.read (h : SDu w0 w p gs go g n0 d S) (hm : MemP g 738 UT w1 (wordsG S)) (ho : Only [g] w w1) : SDu w0 w1 p gs go g n0 d S :=
  ⟨h.du.read hm ho, h.sp, h.du.keep (by decide) h.dd ho⟩
theorem SDu.only0 (h : SDu w0 w p gs go g n0 d S) (ho : Only [] w w1) : SDu w0 w1 p gs go g n0 d S := ⟨h.du.only0 ho, h.sp, ho.blk h.dd (by simp)⟩
end
set_option maxRecDepth 100000 in
set_option maxHeartbeats 8000000 in
theorem splays_any (A : Option Addr) (LL : List S5) (cp : Nat) (w : World) (hL : DeedsS5 w A LL) (hl : LL.length ≤ 9223372036854775807) :
    Calls Try.prog 3 #[.slice A LL.length cp] w fun e w' => e = .returned (.bool true) ∧ Only [] w w' := by
  have cU := sup_any w
  by_cases h3 : 120 < LL.length
  · skip
    --<X>
    have h3' : (120 : Int) < (LL.length : Int) := by omega
    go_enter Try.func3, Try.ntmps3
    go_wp2_with ((with_reducible refine cU.mono ?_); clear cU; rintro e w1 ⟨rfl, ho1⟩)
    go_ret
    exact ⟨rfl, ho1⟩
    --</X>
  have h3' : ¬ (120 : Int) < (LL.length : Int) := by omega
  have HB := Lib.hid fun W : World => begun_any W
  go_enter Try.func3, Try.ntmps3
  go_wp2_with fail
  (with_reducible refine cU.mono ?_)
  clear cU
  rintro e w1 ⟨rfl, ho1⟩
  go_wp2_with fail
  (with_reducible refine (HB.out _).mono ?_)
  rintro e w2 ⟨gs, go, rfl, hr2, hgs, hgo, ho2⟩
  have hpw := ho1.size
  obtain ⟨pB, hpB⟩ : ∃ pB, Hid (w1.heap.size = pB) := ⟨_, Lib.hid rfl⟩
  rw [hpB.out] at hr2 hgs hgo hpw ⊢
  have cW := rwordsG_any hr2 begS_sp.sok.fitG
  go_wp2_with fail
  (with_reducible refine cW.mono ?_)
  clear cW HB
  rintro e w3 ⟨rfl, hm3, ho3⟩
  have ng := (ho1.trans ho2).size
  have hr3 := hr2.only0 ho3
  replace ho3 := (ho1.trans ho2).trans ho3
  obtain ⟨g, hg⟩ : ∃ g, Hid (w2.heap.size = g) := ⟨_, Lib.hid rfl⟩
  rw [hg.out] at hm3 ng ⊢
  have HE : Hid (Duet w w3 pB gs go g (begS 6)) := Lib.hid ⟨hm3, hr3, begS_sp.sok, ho3, ng, hpw, by omega, by omega⟩
  clear hr2 ho1 ho2 hg hpB hm3 hr3 ho3 ng hpw hgs hgo
  clear w1 w2
  go_wp2_with fail
  go_loopw [6] (fun jv wr => ∃ (m : Nat) (S : RSt), m ≤ LL.length ∧ jv = .int .i64 m ∧ Duet w wr pB gs go g S ∧ SP S) (fun jv _ => LL.length - (intOf jv).toNat)
  case atStart => exact ⟨0, _, by omega, rfl, HE.out, begS_sp⟩
  case round =>
    clear HE
    clear w3
    obtain ⟨m, S, hm, rfl, hE, hT⟩ := hrel
    by_cases hml : m < LL.length
    · obtain ⟨d, hd⟩ : ∃ d, LL[m]? = some d := ⟨_, List.getElem?_eq_getElem hml⟩
      obtain ⟨b0, off, rfl, hb, hc⟩ := hL.at_ m d hd
      have c0 : wr.cell? ⟨b0, off + m * 5, none⟩ = some (.bool d.un) := (hE.only.cell (p := ⟨b0, off + m * 5, none⟩) hb (by simp)).trans (hc 0 _ rfl)
      have c1 : wr.cell? ⟨b0, off + m * 5 + 1, none⟩ = some (.int .i64 d.a) := (hE.only.cell (p := ⟨b0, off + m * 5 + 1, none⟩) hb (by simp)).trans (hc 1 _ rfl)
      have c2 : wr.cell? ⟨b0, off + m * 5 + 2, none⟩ = some (.int .i64 d.b) := (hE.only.cell (p := ⟨b0, off + m * 5 + 2, none⟩) hb (by simp)).trans (hc 2 _ rfl)
      have c3 : wr.cell? ⟨b0, off + m * 5 + 3, none⟩ = some (.int .i64 d.page) := (hE.only.cell (p := ⟨b0, off + m * 5 + 3, none⟩) hb (by simp)).trans (hc 3 _ rfl)
      have c4 : wr.cell? ⟨b0, off + m * 5 + 4, none⟩ = some (.int .i64 d.rights) := (hE.only.cell (p := ⟨b0, off + m * 5 + 4, none⟩) hb (by simp)).trans (hc 4 _ rfl)
      have hbz := hE.only.size
      have hn := Blk.new wr S5T d.arr
      have hE1 : SDu w (wr.alloc (.cells d.arr S5T)) pB gs go g wr.heap.size d S := ⟨hE.only0 ((Only.refl [] wr).alloc (.cells d.arr S5T)), hT, hn⟩
      have HH := Lib.hid hE1
      have HLT := Lib.hid hml
      have hlt' : (m : Int) < (LL.length : Int) := by omega
      clear hd hc hE hn hE1 hT
      go_upto_region 10 with fail
      clear c0 c1 c2 c3 c4 hb hbz
      obtain ⟨n0, hn0⟩ : ∃ n0, Hid (n0 = wr.heap.size) := ⟨_, Lib.hid rfl⟩
      obtain ⟨w4, hw4⟩ : ∃ w4, Hid (w4 = wr.alloc (.cells d.arr S5T)) := ⟨_, Lib.hid rfl⟩
      rw [← hw4.out, ← hn0.out] at HH
      rw [← hw4.out, ← hn0.out]
      clear hw4 hn0
      clear wr
      obtain ⟨e0, e1, e2, e3, e4⟩ := S5.all HH.out.dd
      have hnl := HH.out.dd.lt
      obtain ⟨un, hun⟩ : ∃ u, d.un = u := ⟨_, rfl⟩
      rw [hun] at e0
      go_upto_if 34 with fail
      go_cut [8, 9] (fun a b W => ∃ (k : Int) (S1 : RSt), a = .int .i64 k ∧ b = errV k ∧ (k = 0 ∨ (1 ≤ k ∧ k ≤ 14)) ∧ SDu w W pB gs go g n0 d S1)
      case first =>
        cases un with
        | true =>
          --<U>
          as_aux_lemma =>
          have cE := sunm_is HH.out.du.mem HH.out.sp d.a
          have HK := Lib.hid (HH.out.sp.unm (f := d.a))
          have cR := Lib.hid fun (W : World) (h : RefM W pB gs go S) => runm_any h HH.out.sp d.a
          have hN := unmN_ok S d.a
          obtain ⟨k, hk⟩ : ∃ k, unmN S d.a = k := ⟨_, rfl⟩
          obtain ⟨S1, hS1⟩ : ∃ S1, unmS S d.a = S1 := ⟨_, rfl⟩
          rw [hk] at cE cR hN
          rw [hS1] at cE cR HK
          have HN := Lib.hid hN
          clear hk hS1 hN hun
          go_wp2_with fail
          (with_reducible refine cE.mono ?_)
          clear cE e0 e1 e2 e3 e4
          rintro e w5 ⟨rfl, hm5, ho5⟩
          have hd5 := HH.out.du.keep (by decide) HH.out.dd ho5
          have cX := cR.out w5 (apartG HH.out.du.ref HH.out.du.mem ho5)
          have H5 := Lib.hid (And.intro hm5 ho5)
          obtain ⟨-, e1, e2, e3, e4⟩ := S5.all hd5
          have hnl5 := hd5.lt
          clear hm5 ho5 cR hd5 hnl
          go_wp2_with fail
          (with_reducible refine cX.mono ?_)
          clear cX e1 e2 e3 e4
          rintro e w6 ⟨rfl, hr6, ho6⟩
          have hD6 := HH.out.two H5.out.1 H5.out.2 hr6 ho6 HK.out
          clear hr6 ho6 H5
          go_wp2_with fail
          go_meet
          exact ⟨k, S1, rfl, rfl, HN.out, hD6⟩
          --</U>
        | false =>
          --<M>
          as_aux_lemma =>
          have cE := smap_is HH.out.du.mem HH.out.sp d.a d.b d.page d.rights
          have HK := Lib.hid (HH.out.sp.map (f := d.a) (s := d.b) (p := d.page) (r := d.rights))
          have cR := Lib.hid fun (W : World) (h : RefM W pB gs go S) => rmap_any h HH.out.sp d.a d.b d.page d.rights
          have hN := mapN_ok S d.a d.b d.page d.rights
          obtain ⟨k, hk⟩ : ∃ k, mapN S d.a d.b d.page d.rights = k := ⟨_, rfl⟩
          obtain ⟨S1, hS1⟩ : ∃ S1, mapS S d.a d.b d.page d.rights = S1 := ⟨_, rfl⟩
          rw [hk] at cE cR hN
          rw [hS1] at cE cR HK
          have HN := Lib.hid hN
          clear hk hS1 hN hun
          go_wp2_with fail
          (with_reducible refine cE.mono ?_)
          clear cE e0 e1 e2 e3 e4
          rintro e w5 ⟨rfl, hm5, ho5⟩
          have hd5 := HH.out.du.keep (by decide) HH.out.dd ho5
          have cX := cR.out w5 (apartG HH.out.du.ref HH.out.du.mem ho5)
          have H5 := Lib.hid (And.intro hm5 ho5)
          obtain ⟨-, e1, e2, e3, e4⟩ := S5.all hd5
          have hnl5 := hd5.lt
          clear hm5 ho5 cR hd5 hnl
          go_wp2_with fail
          (with_reducible refine cX.mono ?_)
          clear cX e1 e2 e3 e4
          rintro e w6 ⟨rfl, hr6, ho6⟩
          have hD6 := HH.out.two H5.out.1 H5.out.2 hr6 ho6 HK.out
          clear hr6 ho6 H5
          go_wp2_with fail
          go_meet
          exact ⟨k, S1, rfl, rfl, HN.out, hD6⟩
          --</M>
      case rest =>
        --<R>
        obtain ⟨k, S1, rfl, rfl, hk, hD⟩ := hcut
        have cC := code_any hk wc
        have cW := rwordsG_any hD.du.ref hD.sp.sok.fitG
        have HD := Lib.hid hD
        clear hD hk e0 e1 e2 e3 e4 hnl hun HH
        go_wp2_with fail
        (with_reducible refine cC.mono ?_)
        clear cC
        rintro e w5 ⟨rfl, rfl⟩
        have hkk : (k != k) = false := by simp
        go_wp2_with fail
        (with_reducible refine cW.mono ?_)
        clear cW
        rintro e w6 ⟨rfl, hm6, ho6⟩
        have hD6 := HD.out.only0 ho6
        have cE := sameG_yes (w := w6) 738 738 (wordsG_len _) hD6.du.mem.row.wds hm6.row.wds
        have HD6 := Lib.hid hD6
        clear hm6 ho6 hD6 HD hkk
        go_wp2_with fail
        (with_reducible refine cE.mono ?_)
        clear cE
        rintro e w7 ⟨rfl, ho7⟩
        have HD7 := Lib.hid (HD6.out.only0 ho7)
        obtain ⟨-, -, e2, e3, -⟩ := S5.all HD7.out.dd
        have hnl := HD7.out.dd.lt
        clear ho7 HD6
        obtain ⟨sb, hsb⟩ : ∃ x, d.b = x := ⟨_, rfl⟩
        obtain ⟨sp, hsp⟩ : ∃ x, d.page = x := ⟨_, rfl⟩
        by_cases hv : (4 ≤ d.b ∧ d.b < 6) ∧ (0 ≤ d.page ∧ d.page < 4)
        · have hsP := HD7.out.sp.sp d.b d.page hv.1 hv.2
          obtain ⟨b, hbn⟩ : ∃ b : Nat, d.b = b := ⟨d.b.toNat, by omega⟩
          obtain ⟨q, hqn⟩ : ∃ q : Nat, d.page = q := ⟨d.page.toNat, by omega⟩
          obtain ⟨x, hx⟩ : ∃ x, (S1.ob (b : Int)).at q = x := ⟨_, rfl⟩
          obtain ⟨r, hr⟩ : ∃ x, (S1.ob (b : Int)).with q = x := ⟨_, rfl⟩
          have hbb : b < 32 := by omega
          have hq : q < 4 := by omega
          have x0 : (4 : Int) ≤ (b : Int) := by omega
          have x1 : (b : Int) < 6 := by omega
          have x2 : (0 : Int) ≤ (q : Int) := by omega
          have x3 : (q : Int) < 4 := by omega
          have x4 : (b : Int) < 32 := by omega
          have x5 : (0 : Int) ≤ (b : Int) := by omega
          have hI : isO S1 d.b 7 = true := by rw [HD7.out.sp.isS]; exact decide_eq_true hv.1
          rw [hbn] at hI hsP e2
          rw [hqn] at hsP e3
          rw [hx, hr] at hsP
          by_cases h0 : 0 ≤ x
          · have hA : pageA S1 (b : Int) q = (x, r, true) := by unfold pageA; rw [if_pos ⟨hI, ⟨x2, x3⟩, by rw [hx]; exact h0⟩, hx, hr]
            have cG := spage_is HD7.out.du.mem HD7.out.sp hA
            have q1 : (x != x) = false := by simp
            have q2 : (r != r) = false := by simp
            have q3 : decide (0 ≤ x) = true := by simpa using h0
            clear hv hsP hI hA hsb hsp
            --<V1>
            as_aux_lemma =>
            go_wp2_with fail
            (with_reducible refine cG.mono ?_)
            clear cG
            rintro e w8 ⟨rfl, hm8, ho8⟩
            have hD8 := HD7.out.read hm8 ho8
            obtain ⟨co, c1⟩ := hD8.du.ref.cObjs
            have kP := hD8.du.ref.cPg hbb hq
            have kR := hD8.du.ref.cRt hbb hq
            rw [hx] at kP
            rw [hr] at kR
            obtain ⟨-, -, e2, e3, -⟩ := S5.all hD8.dd
            rw [hbn] at e2
            rw [hqn] at e3
            have hnl := hD8.dd.lt
            have HD8 := Lib.hid hD8
            clear hm8 ho8 hD8 HD7
            go_upto_region 23 with fail
            have hS0 : w8.drew.cell? ⟨pB, 1, none⟩ = some (.slice (some ⟨go, 0, none⟩) 32 co) ∧ w8.drew.cell? ⟨n0, 2, none⟩ = some (.int .i64 (b : Int)) ∧ w8.drew.cell? ⟨n0, 3, none⟩ = some (.int .i64 (q : Int)) ∧ w8.drew.cell? ⟨go, b * 32 + 20 + q, none⟩ = some (.int .i64 x) := ⟨c1, e2, e3, kP⟩
            go_region_held3 (fun W => W.cell? ⟨pB, 1, none⟩ = some (.slice (some ⟨go, 0, none⟩) 32 co) ∧ W.cell? ⟨n0, 2, none⟩ = some (.int .i64 (b : Int)) ∧ W.cell? ⟨n0, 3, none⟩ = some (.int .i64 (q : Int)) ∧ W.cell? ⟨go, b * 32 + 20 + q, none⟩ = some (.int .i64 x))
              (first | exact hS0 | fail)
              (first | fail)
            go_upto_region 24 with fail
            have hS1 : (w8.drewN 2).cell? ⟨pB, 1, none⟩ = some (.slice (some ⟨go, 0, none⟩) 32 co) ∧ (w8.drewN 2).cell? ⟨n0, 2, none⟩ = some (.int .i64 (b : Int)) ∧ (w8.drewN 2).cell? ⟨n0, 3, none⟩ = some (.int .i64 (q : Int)) ∧ (w8.drewN 2).cell? ⟨go, b * 32 + 24 + q, none⟩ = some (.int .i64 r) := ⟨c1, e2, e3, kR⟩
            go_region_held3 (fun W => W.cell? ⟨pB, 1, none⟩ = some (.slice (some ⟨go, 0, none⟩) 32 co) ∧ W.cell? ⟨n0, 2, none⟩ = some (.int .i64 (b : Int)) ∧ W.cell? ⟨n0, 3, none⟩ = some (.int .i64 (q : Int)) ∧ W.cell? ⟨go, b * 32 + 24 + q, none⟩ = some (.int .i64 r))
              (first | exact hS1 | fail)
              (first | fail)
            have HZ := Lib.hid (HD8.out.only0 ((Only.refl [] w8).drewN 2))
            clear hS0 hS1 c1 e2 e3 kP kR HD8
            go_wp2_with fail
            exact ⟨⟨m + 1, S1, by have := HLT.out; omega, by go_num, HZ.out.du, HZ.out.sp⟩, by have := HLT.out; simp [intOf]; omega⟩
            --</V1>
          · have hA : pageA S1 (b : Int) q = (0, 0, false) := by unfold pageA; rw [if_neg (fun z => h0 (by rw [← hx]; exact z.2.2))]
            have cG := spage_is HD7.out.du.mem HD7.out.sp hA
            obtain ⟨hx1, hr1⟩ := hsP.resolve_right (fun z => h0 z.1.1)
            have q3 : decide (0 ≤ x) = false := by simpa using h0
            clear hv hsP hI hA hsb hsp hr1
            subst hx1
            --<V2>
            as_aux_lemma =>
            go_wp2_with fail
            (with_reducible refine cG.mono ?_)
            clear cG
            rintro e w8 ⟨rfl, hm8, ho8⟩
            have hD8 := HD7.out.read hm8 ho8
            obtain ⟨co, c1⟩ := hD8.du.ref.cObjs
            have kP := hD8.du.ref.cPg hbb hq
            have kR := hD8.du.ref.cRt hbb hq
            rw [hx] at kP
            rw [hr] at kR
            obtain ⟨-, -, e2, e3, -⟩ := S5.all hD8.dd
            rw [hbn] at e2
            rw [hqn] at e3
            have hnl := hD8.dd.lt
            have HD8 := Lib.hid hD8
            clear hm8 ho8 hD8 HD7
            go_upto_region 23 with fail
            have hS0 : w8.drew.cell? ⟨pB, 1, none⟩ = some (.slice (some ⟨go, 0, none⟩) 32 co) ∧ w8.drew.cell? ⟨n0, 2, none⟩ = some (.int .i64 (b : Int)) ∧ w8.drew.cell? ⟨n0, 3, none⟩ = some (.int .i64 (q : Int)) ∧ w8.drew.cell? ⟨go, b * 32 + 20 + q, none⟩ = some (.int .i64 (-1)) := ⟨c1, e2, e3, kP⟩
            go_region_held3 (fun W => W.cell? ⟨pB, 1, none⟩ = some (.slice (some ⟨go, 0, none⟩) 32 co) ∧ W.cell? ⟨n0, 2, none⟩ = some (.int .i64 (b : Int)) ∧ W.cell? ⟨n0, 3, none⟩ = some (.int .i64 (q : Int)) ∧ W.cell? ⟨go, b * 32 + 20 + q, none⟩ = some (.int .i64 (-1)))
              (first | exact hS0 | fail)
              (first | fail)
            go_upto_region 24 with fail
            have hS1 : (w8.drewN 2).cell? ⟨pB, 1, none⟩ = some (.slice (some ⟨go, 0, none⟩) 32 co) ∧ (w8.drewN 2).cell? ⟨n0, 2, none⟩ = some (.int .i64 (b : Int)) ∧ (w8.drewN 2).cell? ⟨n0, 3, none⟩ = some (.int .i64 (q : Int)) ∧ (w8.drewN 2).cell? ⟨go, b * 32 + 24 + q, none⟩ = some (.int .i64 r) := ⟨c1, e2, e3, kR⟩
            go_region_held3 (fun W => W.cell? ⟨pB, 1, none⟩ = some (.slice (some ⟨go, 0, none⟩) 32 co) ∧ W.cell? ⟨n0, 2, none⟩ = some (.int .i64 (b : Int)) ∧ W.cell? ⟨n0, 3, none⟩ = some (.int .i64 (q : Int)) ∧ W.cell? ⟨go, b * 32 + 24 + q, none⟩ = some (.int .i64 r))
              (first | exact hS1 | fail)
              (first | fail)
            have HZ := Lib.hid (HD8.out.only0 ((Only.refl [] w8).drewN 2))
            clear hS0 hS1 c1 e2 e3 kP kR HD8
            go_wp2_with fail
            exact ⟨⟨m + 1, S1, by have := HLT.out; omega, by go_num, HZ.out.du, HZ.out.sp⟩, by have := HLT.out; simp [intOf]; omega⟩
            --</V2>
        · have hI : ¬ (isO S1 d.b 7 = true ∧ (0 ≤ d.page ∧ d.page < 4) ∧ 0 ≤ (S1.ob d.b).at d.page) := fun z => hv ⟨by have := z.1; rw [HD7.out.sp.isS] at this; exact of_decide_eq_true this, z.2.1⟩
          have hA : pageA S1 d.b d.page = (0, 0, false) := by unfold pageA; rw [if_neg hI]
          have cG := spage_is HD7.out.du.mem HD7.out.sp hA
          have hcs : d.b < 4 ∨ (¬ d.b < 4 ∧ 6 ≤ d.b) ∨ ((¬ d.b < 4 ∧ d.b < 6) ∧ d.page < 0) ∨ ((¬ d.b < 4 ∧ d.b < 6) ∧ ¬ d.page < 0 ∧ 4 ≤ d.page) := by omega
          clear hI hA hv
          rw [hsb] at hcs cG e2
          rw [hsp] at hcs cG e3
          have HSB := Lib.hid (And.intro hsb hsp)
          clear hsb hsp
          --<V3>
          rcases hcs with y1 | ⟨y1, y2⟩ | ⟨⟨y1, y2⟩, y3⟩ | ⟨⟨y1, y2⟩, y3, y4⟩
          all_goals
            go_wp2_with fail
            (with_reducible refine cG.mono ?_)
            clear cG
            rintro e w8 ⟨rfl, hm8, ho8⟩
            have hD8 := HD7.out.read hm8 ho8
            obtain ⟨-, -, f2, f3, -⟩ := S5.all hD8.dd
            have hnl8 := hD8.dd.lt
            rw [HSB.out.1] at f2
            rw [HSB.out.2] at f3
            have HD8 := Lib.hid hD8
            clear hm8 ho8 hD8 HD7 e2 e3 hnl
            go_wp2_with fail
            exact ⟨⟨m + 1, S1, by have := HLT.out; omega, by go_num, HD8.out.du, HD8.out.sp⟩, by have := HLT.out; simp [intOf]; omega⟩
          --</V3>
        --</R>
    · skip
      --<E>
      obtain rfl : m = LL.length := by omega
      have hlt' : ¬ (LL.length : Int) < (LL.length : Int) := by omega
      have HE := Lib.hid hE
      clear hE hT hml hm
      go_wp2_with fail
      go_ret
      exact ⟨rfl, HE.out.only⟩
      --</E>
end Go.Proofs.Ytihipcbhfjpgbaa
