/- CdtSound's walk: for all words, all slices of deeds, all numbers. -/
import Derived.Test.YtopbbpjjiamdcaaCdtTrio
import Derived.Test.YtopbbpjjiamdcaaCdtDeeds
import Derived.Deep.RegionHeld3
import Derived.Deep.CutBlock
import Derived.Deep.DeepCutAuto
namespace Go.Proofs.Ytopbbpjjiamdcaa
open Go.RowKit
def inT (a b : Int) : Bool := decide (0 ≤ a ∧ a < 96 ∧ 0 ≤ b ∧ b < 96)
theorem inT_yes {a b : Int} : inT a b = true ↔ 0 ≤ a ∧ a < 96 ∧ 0 ≤ b ∧ b < 96 := by simp [inT]
theorem inT_no {a b : Int} : inT a b = false ↔ a < 0 ∨ 96 ≤ a ∨ b < 0 ∨ 96 ≤ b := by simp [inT]; omega
set_option maxRecDepth 100000 in
set_option maxHeartbeats 4000000 in
theorem sound_any (B : Option Addr) (WL : List Int) (cw : Nat) (A : Option Addr) (LL : List D3) (cp : Nat) (x y : Int) (w : World) (hW : Wds w B WL) (hU : Us WL) (hWl : WL.length ≤ 9223372036854775807) (hL : Deeds3 w A LL) (hl : LL.length ≤ 9223372036854775807) :
    Calls Try.prog 4 #[.slice B WL.length cw, .slice A LL.length cp, .int .i64 x, .int .i64 y] w fun e w' => e = .returned (.bool true) ∧ Only [] w w' := by
  go_enter Try.func4, Try.ntmps4
  go_wp2_with fail
  (with_reducible refine (up_any _).mono ?_)
  rintro e w1 ⟨rfl, ho1⟩
  by_cases hw7 : 738 < WL.length
  · go_wp2_with fail
    go_ret
    exact ⟨rfl, ho1⟩
  by_cases hlen : 60 < LL.length
  · go_wp2_with fail
    go_ret
    exact ⟨rfl, ho1⟩
  have hw7' : WL.length ≤ 738 := by omega
  have hlen' : LL.length ≤ 60 := by omega
  clear hlen hl hw7 hWl
  go_wp2_with fail
  rw [made_words]
  obtain ⟨g1, hg1⟩ : ∃ g1, Hid (g1 = w1.heap.size) := ⟨_, Lib.hid rfl⟩
  obtain ⟨w2, hw2⟩ : ∃ w2, Hid (w2 = w1.alloc (.cells zerosA UT)) := ⟨_, Lib.hid rfl⟩
  rw [← hw2.out, ← hg1.out]
  have hz1 := ho1.size
  have hB2 : Blk w2 g1 UT zerosA := by rw [hw2.out, hg1.out]; exact Blk.new w1 UT zerosA
  have ho2 : Only [] w w2 := by rw [hw2.out]; exact ho1.alloc _
  have hW2 := hW.only0 ho2
  have hgw : w.heap.size ≤ g1 := by rw [hg1.out]; exact hz1
  have HB := Lib.hid (And.intro hB2 (And.intro ho2 (And.intro hW2 hgw)))
  clear hz1 hB2 ho2 hW2 hgw ho1 hw2 hg1 hW
  clear w1
  have hu := Try.underlying27
  have hsz : (Try.prog.info? UT).map (·.size) = some 1 := by kernel_rfl
  have HU := Lib.hid (And.intro hu hsz)
  clear hu hsz
  go_wp2_with (with_reducible refine wpList_copy_words rfl (.tmp 34) (.tmp 35) 27 26 UT rfl HU.out.1 HU.out.2 g1 B WL cw rfl rfl HB.out.1 HB.out.2.2.1 hU hw7' ?_; intro w3 hm3 ho3)
  rw [made_words]
  obtain ⟨g2, hg2⟩ : ∃ g2, Hid (g2 = w3.heap.size) := ⟨_, Lib.hid rfl⟩
  obtain ⟨w4, hw4⟩ : ∃ w4, Hid (w4 = w3.alloc (.cells zerosA UT)) := ⟨_, Lib.hid rfl⟩
  rw [← hw4.out, ← hg2.out]
  go_wp2_with fail
  have hg12 : g1 < g2 := by
    have h1 := HB.out.1.lt
    have h2 := ho3.size
    rw [hg2.out]
    omega
  have ho3' : Only [] w w3 := HB.out.2.1.then ho3 (fun z hz => .inr (by have := HB.out.2.2.2; simp at hz; omega))
  have ho4 : Only [] w w4 := by rw [hw4.out]; exact ho3'.alloc _
  have hmo4 : MemP g1 738 UT w4 (overZ WL) := by rw [hw4.out]; exact hm3.only ((Only.refl [] _).alloc _) (by simp)
  have hmv4 : MemP g2 738 UT w4 zeros := by rw [hw4.out, hg2.out]; exact memP_new w3
  (with_reducible refine (new_any _).mono ?_)
  rintro e w5 ⟨gs, go, rfl, hr5, hgs, hgo, ho5⟩
  have hz4 := ho4.size
  have hg1w := HB.out.2.2.2
  have hT : Trio w w5 w4.heap.size gs go g1 g2 (overZ WL) zeros RSt.new :=
    ⟨hmo4.only ho5 (by simp), ⟨hmv4.only ho5 (by simp), hr5, Cur.new, ho4.trans ho5, by omega, by omega⟩, by omega, hg1w⟩
  obtain ⟨p, hp⟩ : ∃ p, Hid (p = w4.heap.size) := ⟨_, Lib.hid rfl⟩
  rw [← hp.out] at hT
  rw [← hp.out]
  have HT := Lib.hid hT
  clear hT hr5 hgs hgo ho5 hz4 hg1w hmo4 hmv4 ho4 ho3' hg12 hw4 hg2 HB HU hm3 ho3 hp hU
  clear w2 w3 w4
  go_wp2_with fail
  go_loopw [13] (fun i wr => ∃ (k : Nat) (O L : List Int) (S : RSt), k ≤ LL.length ∧ i = .int .i64 k ∧ Trio w wr p gs go g1 g2 O L S) (fun i _ => LL.length - (intOf i).toNat)
  case atStart => exact ⟨0, _, _, _, by omega, rfl, HT.out⟩
  case round =>
    clear HT
    obtain ⟨k, O, L, S, hk, rfl, hT⟩ := hrel
    by_cases hlt : k < LL.length
    · obtain ⟨d, hd⟩ : ∃ d, LL[k]? = some d := ⟨_, List.getElem?_eq_getElem hlt⟩
      obtain ⟨b, off, rfl, hb, hc⟩ := hL.at_ k d hd
      have hok := hL.ok k d hd
      obtain ⟨dw, da, db⟩ := d
      have c0 : wr.cell? ⟨b, off + k * 3, none⟩ = some (.int .i64 dw) := (hT.duo.only.cell (p := ⟨b, off + k * 3, none⟩) hb (by simp)).trans (hc 0 _ rfl)
      have c1 : wr.cell? ⟨b, off + k * 3 + 1, none⟩ = some (.int .i64 da) := (hT.duo.only.cell (p := ⟨b, off + k * 3 + 1, none⟩) hb (by simp)).trans (hc 1 _ rfl)
      have c2 : wr.cell? ⟨b, off + k * 3 + 2, none⟩ = some (.int .i64 db) := (hT.duo.only.cell (p := ⟨b, off + k * 3 + 2, none⟩) hb (by simp)).trans (hc 2 _ rfl)
      have hbz := hT.duo.only.size
      have hn := Blk.new wr DT (d3 dw da db)
      have hT1 := hT.only0 ((Only.refl [] wr).alloc (.cells (d3 dw da db) DT))
      have hw0 : -9223372036854775808 ≤ dw ∧ dw ≤ 9223372036854775807 := by simpa [Lit.wf, IntKind.min, IntKind.max, IntKind.signed, IntKind.bits] using hok.what
      have HH := Lib.hid (And.intro hn (And.intro hT1 hw0))
      have HLT := Lib.hid hlt
      clear hok hd hc hT hn hT1 hw0
      go_upto_region 12 with fail
      obtain ⟨n0, hn0⟩ : ∃ n0, Hid (n0 = wr.heap.size) := ⟨_, Lib.hid rfl⟩
      obtain ⟨w4, hw4⟩ : ∃ w4, Hid (w4 = wr.alloc (.cells (d3 dw da db) DT)) := ⟨_, Lib.hid rfl⟩
      rw [← hw4.out, ← hn0.out] at HH
      rw [← hw4.out, ← hn0.out]
      clear c0 c1 c2 hbz hn0 hw4
      as_aux_lemma =>
        obtain ⟨hn, hT, hw0⟩ := HH.out
        obtain ⟨e0, e1, e2⟩ := d3_cells hn
        have hn0 := hn.lt
        have cK := pkids_is (l := kidsL O db) hT.odd rfl
        have h96 := kids_len (kidsP_plain (i := db) (L := O))
        have h95 := leafL_rng hT.odd.us da
        obtain ⟨KO, hKO⟩ : ∃ KO, kidsL O db = KO := ⟨_, rfl⟩
        rw [hKO] at cK h96
        obtain ⟨lf, hlf⟩ : ∃ lf, leafL O da = lf := ⟨_, rfl⟩
        rw [hlf] at h95
        have HLF := Lib.hid hlf
        clear hKO hlf
        obtain ⟨m, hm⟩ : ∃ m, Hid (KO.length = m) := ⟨_, Lib.hid rfl⟩
        rw [hm.out] at h96
        have HW0 := Lib.hid hw0
        have HT := Lib.hid (And.intro hT hn)
        clear HH hn hT hw0
        go_wp2_with ((with_reducible refine cK.mono ?_); clear cK; rintro e w5 ⟨u, rfl, hu, hm5, ho5⟩; have hT5 := HT.out.1.odds hm5 ho5; have hn5 := HT.out.1.deed1 HT.out.2 ho5; clear e0 e1 e2 hn0; obtain ⟨e0, e1, e2⟩ := d3_cells hn5; have hn0 := hn5.lt; obtain ⟨AK, cpK, rfl, -⟩ : ∃ A cp, u = .slice A KO.length cp ∧ True := (by obtain ⟨A, cp, e, -⟩ := hu; exact ⟨A, cp, e, trivial⟩); rw [hm.out]; clear hu)
        (with_reducible refine (pleaf_is hT5.odd HLF.out).mono ?_)
        rintro e w6 ⟨rfl, hm6, ho6⟩
        have hT6 := hT5.odds hm6 ho6
        have hn6 := hT5.deed1 hn5 ho6
        clear hm6 ho6 hm5 ho5 hT5 hn5 e0 e1 e2 hn0 HT HLF hm
        clear w4 w5
        obtain ⟨e0, e1, e2⟩ := d3_cells hn6
        have hn0 := hn6.lt
        go_wp2_with fail
        (with_reducible refine (pick4_any _ HW0.out.1 HW0.out.2 _).mono ?_)
        rintro e w' ⟨r, rfl, hr0, hr3, hw⟩
        replace hw := hw.symm
        subst hw
        go_upto_region 15 with fail
        obtain ⟨q, hq⟩ : ∃ q, Hid (inT da db = q) := ⟨_, Lib.hid rfl⟩
        go_cut [16] (fun v W => v = .bool q ∧ W = w6)
        case first =>
          as_aux_lemma =>
            by_cases h1 : 0 ≤ da
            · by_cases h2 : da < 96
              · by_cases h3 : 0 ≤ db
                · by_cases h4 : db < 96
                  · have HB := Lib.hid (inT_yes.2 ⟨h1, h2, h3, h4⟩)
                    go_wp2_with fail
                    go_meet
                    exact ⟨by rw [← hq.out, HB.out], rfl⟩
                  · have HB := Lib.hid (inT_no.2 (.inr (.inr (.inr (by omega : 96 ≤ db)))) : inT da db = false)
                    go_wp2_with fail
                    go_meet
                    exact ⟨by rw [← hq.out, HB.out], rfl⟩
                · have HB := Lib.hid (inT_no.2 (.inr (.inr (.inl (by omega : db < 0)))) : inT da db = false)
                  go_wp2_with fail
                  go_meet
                  exact ⟨by rw [← hq.out, HB.out], rfl⟩
              · have HB := Lib.hid (inT_no.2 (.inr (.inl (by omega : 96 ≤ da))) : inT da db = false)
                go_wp2_with fail
                go_meet
                exact ⟨by rw [← hq.out, HB.out], rfl⟩
            · have HB := Lib.hid (inT_no.2 (.inl (by omega : da < 0)) : inT da db = false)
              go_wp2_with fail
              go_meet
              exact ⟨by rw [← hq.out, HB.out], rfl⟩
        case rest =>
          obtain ⟨rfl, hw⟩ := hcut
          replace hw := hw.symm
          subst hw
          obtain hr | rfl | rfl : r < 2 ∨ r = 2 ∨ r = 3 := by omega
          · as_aux_lemma =>
              go_wp2_with fail
              (with_reducible refine (plink_is (n := linkA O da db) hT6.odd rfl rfl).mono ?_)
              rintro e wa ⟨rfl, hma, hoa⟩
              have hTa := hT6.odds hma hoa
              have hna := hT6.deed1 hn6 hoa
              clear hma hoa e0 e1 e2 hn0
              obtain ⟨e0, e1, e2⟩ := d3_cells hna
              have hn0 := hna.lt
              cases q with
              | false =>
                go_wp2_with fail
                exact ⟨⟨k + 1, _, _, _, HLT.out, by go_num, hTa⟩, by have := HLT.out; simp [intOf]; omega⟩
              | true =>
                go_wp2_with fail
                (with_reducible refine (above_any hTa.duo.ref hTa.duo.cur.pars da db (inT_yes.1 hq.out).2.2.2).mono ?_)
                rintro e w' ⟨ab, rfl, hw⟩
                replace hw := hw.symm
                subst hw
                cases ab with
                | true =>
                  go_wp2_with fail
                  exact ⟨⟨k + 1, _, _, _, HLT.out, by go_num, hTa⟩, by have := HLT.out; simp [intOf]; omega⟩
                | false =>
                  go_wp2_with fail
                  -- the plain words, then the state
                  (with_reducible refine (plink_is (n := linkA L da db) hTa.duo.mem rfl rfl).mono ?_)
                  rintro e wb ⟨rfl, hmb, hob⟩
                  have hnb := hTa.duo.deed hna hob
                  have hrb := apart_ref hTa.duo.ref hTa.duo.mem hob
                  obtain ⟨e0, e1, e2⟩ := d3_cells hnb
                  have hn0 := hnb.lt
                  go_wp2_with fail
                  (with_reducible refine (rlink_any hrb hTa.duo.cur.short da db).mono ?_)
                  rintro e wd ⟨rfl, hrd, hod⟩
                  have hTd := hTa.both hob hrb hod (hTa.duo.link da db hmb hob hrd hod)
                  clear hmb hob hnb hrb hod hrd
                  go_wp2_with fail
                  exact ⟨⟨k + 1, _, _, _, HLT.out, by go_num, hTd⟩, by have := HLT.out; simp [intOf]; omega⟩
          · as_aux_lemma =>
              go_wp2_with fail
              (with_reducible refine (punlink_is (n := unlinkA da) hT6.odd rfl rfl).mono ?_)
              rintro e wa ⟨rfl, hma, hoa⟩
              have hTa := hT6.odds hma hoa
              have hna := hT6.deed1 hn6 hoa
              clear hma hoa e0 e1 e2 hn0
              obtain ⟨e0, e1, e2⟩ := d3_cells hna
              have hn0 := hna.lt
              go_wp2_with fail
              -- the plain words, then the state
              (with_reducible refine (punlink_is (n := unlinkA da) hTa.duo.mem rfl rfl).mono ?_)
              rintro e wb ⟨rfl, hmb, hob⟩
              have hnb := hTa.duo.deed hna hob
              have hrb := apart_ref hTa.duo.ref hTa.duo.mem hob
              obtain ⟨e0, e1, e2⟩ := d3_cells hnb
              have hn0 := hnb.lt
              go_wp2_with fail
              (with_reducible refine (runlink_any hrb hTa.duo.cur.short hTa.duo.cur.pars da).mono ?_)
              rintro e wd ⟨rfl, hrd, hod⟩
              have hTd := hTa.both hob hrb hod (hTa.duo.unlink da hmb hob hrd hod)
              clear hmb hob hnb hrb hod hrd
              go_wp2_with fail
              exact ⟨⟨k + 1, _, _, _, HLT.out, by go_num, hTd⟩, by have := HLT.out; simp [intOf]; omega⟩
          · as_aux_lemma =>
              go_wp2_with fail
              (with_reducible refine (preplace_is (n := replaceA O da db) hT6.odd rfl rfl).mono ?_)
              rintro e wa ⟨rfl, hma, hoa⟩
              have hTa := hT6.odds hma hoa
              have hna := hT6.deed1 hn6 hoa
              clear hma hoa e0 e1 e2 hn0
              obtain ⟨e0, e1, e2⟩ := d3_cells hna
              have hn0 := hna.lt
              go_wp2_with fail
              -- the plain words, then the state
              (with_reducible refine (preplace_is (n := replaceA L da db) hTa.duo.mem rfl rfl).mono ?_)
              rintro e wb ⟨rfl, hmb, hob⟩
              have hnb := hTa.duo.deed hna hob
              have hrb := apart_ref hTa.duo.ref hTa.duo.mem hob
              obtain ⟨e0, e1, e2⟩ := d3_cells hnb
              have hn0 := hnb.lt
              go_wp2_with fail
              (with_reducible refine (rreplace_any hrb hTa.duo.cur.short hTa.duo.cur.pars hTa.duo.cur.kidsIn hTa.duo.cur.hne da db).mono ?_)
              rintro e wd ⟨rfl, hrd, hod⟩
              have hTd := hTa.both hob hrb hod (hTa.duo.replace da db hmb hob hrd hod)
              clear hmb hob hnb hrb hod hrd
              go_wp2_with fail
              exact ⟨⟨k + 1, _, _, _, HLT.out, by go_num, hTd⟩, by have := HLT.out; simp [intOf]; omega⟩
    · obtain rfl : k = LL.length := by omega
      clear hlt hk
      go_wp2_with fail
      go_loopw [17] (fun i wq => ∃ j : Nat, j ≤ 96 ∧ i = .int .i64 j ∧ Trio w wq p gs go g1 g2 O L S) (fun i _ => 96 - (intOf i).toNat)
      case atStart => exact ⟨0, by omega, rfl, hT⟩
      case round =>
        clear hT
        obtain ⟨wo, rfl⟩ : ∃ z, z = wr := ⟨_, rfl⟩
        obtain ⟨j, hj, rfl, hT⟩ := hrel
        by_cases hlt : j < 96
        · as_aux_lemma =>
            have cK := pkids_is hT.duo.mem (hT.duo.cur.kids j)
            have h96 := hT.duo.cur.short j
            have hpar := fun z (hz : z ∈ S.kids j) => ((hT.duo.cur.tree.kid j z ⟨by omega, by omega⟩).1 hz).2
            obtain ⟨KK, hKK⟩ : ∃ KK, S.kids j = KK := ⟨_, rfl⟩
            rw [hKK] at cK h96 hpar
            obtain ⟨m, hm⟩ : ∃ m, Hid (KK.length = m) := ⟨_, Lib.hid rfl⟩
            rw [hm.out] at h96
            have HP := Lib.hid hpar
            have HT := Lib.hid hT
            have HLT := Lib.hid hlt
            clear hT hpar hKK
            go_wp2_with ((with_reducible refine cK.mono ?_); clear cK; rintro e w5 ⟨u, rfl, hu, hm5, ho5⟩; obtain ⟨AK, cpK, rfl, -⟩ : ∃ A cp, u = .slice A KK.length cp ∧ True := (by obtain ⟨A, cp, e, -⟩ := hu; exact ⟨A, cp, e, trivial⟩))
            have hT5 := HT.out.read hm5 ho5
            have hg2 : g2 < wo.heap.size := HT.out.duo.mem.row.lt
            have HG := Lib.hid hg2
            have HU := Lib.hid hu
            rw [hm.out]
            clear HT hm5 ho5 hu hg2
            go_loopw [19] (fun i wq => ∃ n : Nat, n ≤ m ∧ i = .int .i64 n ∧ Trio w wq p gs go g1 g2 O L S ∧ MadeV wq wo.heap.size (.slice AK KK.length cpK) KK) (fun i _ => m - (intOf i).toNat)
            case atStart => exact ⟨0, by omega, rfl, hT5, HU.out⟩
            case round =>
              clear hT5 HU
              obtain ⟨wz, rfl⟩ : ∃ z, z = wr := ⟨_, rfl⟩
              obtain ⟨n, hn, rfl, hT, hu⟩ := hrel
              by_cases hnm : n < m
              · obtain ⟨z, hz⟩ : ∃ z, KK[n]? = some z := ⟨_, List.getElem?_eq_getElem (by rw [hm.out]; exact hnm)⟩
                obtain ⟨gA, rfl, hgA, d0⟩ := hu.cell rfl hz
                have cP := pparent_is hT.duo.mem ((hT.duo.cur.par z).trans (HP.out z (List.mem_of_getElem? hz)))
                have hjj : ((j : Int) != (j : Int)) = false := by simp
                have HH := Lib.hid (And.intro hT hu)
                have HN := Lib.hid hnm
                clear hz hT hu
                go_wp2_with ((with_reducible refine cP.mono ?_); clear cP; rintro e w6 ⟨rfl, hm6, ho6⟩)
                go_roundw
                case rel => exact ⟨n + 1, HN.out, by go_num, HH.out.1.read hm6 ho6, HH.out.2.only ho6 (fun y hy => by have := HG.out; simp at hy; omega)⟩
                case measure => have := HN.out; simp [intOf]; omega
              · obtain rfl : n = m := by omega
                clear hnm
                go_wp2_with fail
                exact ⟨⟨j + 1, HLT.out, by go_num, hT⟩, by have := HLT.out; simp [intOf]; omega⟩
        · obtain rfl : j = 96 := by omega
          clear hlt hj
          rw [show ((96 : Nat) : Int) = 96 from rfl]
          have HT := Lib.hid hT
          clear hT
          by_cases h1 : x < 0
          · go_wp2_with fail
            go_ret
            exact ⟨rfl, HT.out.duo.only⟩
          by_cases h2 : 95 < x
          · go_wp2_with fail
            go_ret
            exact ⟨rfl, HT.out.duo.only⟩
          by_cases h3 : y < 0
          · go_wp2_with fail
            go_ret
            exact ⟨rfl, HT.out.duo.only⟩
          by_cases h4 : 95 < y
          · go_wp2_with fail
            go_ret
            exact ⟨rfl, HT.out.duo.only⟩
          obtain ⟨pr, hpr⟩ : ∃ pr, S.par x = pr := ⟨_, rfl⟩
          have cP := pparent_is HT.out.duo.mem ((HT.out.duo.cur.par x).trans hpr)
          by_cases h5 : 0 ≤ pr
          · clear hpr
            go_wp2_with ((with_reducible refine cP.mono ?_); clear cP; rintro e w6 ⟨rfl, hm6, ho6⟩)
            go_ret
            exact ⟨rfl, (HT.out.read hm6 ho6).duo.only⟩
          have hx : InS x := ⟨by omega, by omega⟩
          have hy : InS y := ⟨by omega, by omega⟩
          have hp1 : S.par x = -1 := by have := HT.out.duo.cur.tree.par_rng hx; omega
          have HX := Lib.hid (And.intro hx (And.intro hy hp1))
          have h5' : pr < 0 := by omega
          clear hx hy hp1 hpr
          obtain ⟨iI, hi0, hi1, hi2, hi3⟩ := info_parts infoU64
          have hut := Try.underlying26
          have hutx := Try.underlying27
          have HI := Lib.hid (And.intro hi0 (And.intro hi1 (And.intro hi2 (And.intro hi3 (And.intro hut hutx)))))
          clear hi0 hi1 hi2 hi3 hut hutx
          go_wp2_with (first | ((with_reducible refine cP.mono ?_); clear cP; rintro e w6 ⟨rfl, hm6, ho6⟩; have hT6 := (HT.out.read hm6 ho6).only0 ((Only.refl [] w6).alloc (.cells #[] UT))) | (with_reducible refine wpList_append_words rfl (.tmp 196) (.tmp 197) 26 27 UT UT rfl iI (.int .u64 0) HI.out.2.2.2.2.1 HI.out.2.2.2.2.2 HI.out.1 HI.out.2.1 HI.out.2.2.1 HI.out.2.2.2.1 w6.heap.size g2 L 738 rfl rfl hT6.duo.mem.row.wds hT6.duo.mem.len ?_; intro ch w7 hd7 ho7))
          have hd8 : Wds w7 (some ⟨w6.heap.size + 1, 0, none⟩) L := by simpa using hd7
          have hT7 := hT6.only0 ho7
          have hgl : g2 < w6.heap.size + 1 := by have := hm6.row.lt; omega
          obtain ⟨hx, hy, hp1⟩ := HX.out
          obtain ⟨bh, hbh⟩ : ∃ bh, Hid (bh = w6.heap.size + 1) := ⟨_, Lib.hid rfl⟩
          rw [← hbh.out] at hd8 hgl
          rw [← hbh.out]
          have HT7 := Lib.hid (And.intro hT7 (And.intro hd8 hgl))
          clear hT6 hT7 hd7 hd8 hgl ho7 hbh hm6 ho6 HT HI HX h1 h2 h3 h4 h5 h5'
          by_cases hxy : x = y
          · subst hxy
            obtain ⟨q1, q2⟩ := HT7.out.1.duo.cur.same_ hx
            have cL := plink_is HT7.out.1.duo.mem q1 q2
            rw [show errV 10 = .iface 53 (.int .i64 10) from rfl] at cL
            have h738 := HT7.out.1.duo.mem.len
            have HL := Lib.hid h738
            clear q1 q2 hx hy hp1 h738
            go_wp2_with (first | ((with_reducible refine cL.mono ?_); clear cL; rintro e w8 ⟨rfl, hm8, ho8⟩; have hd9 := wds_only1 HT7.out.2.1 ho8 (by have := HT7.out.2.2; omega)) | ((with_reducible refine (same_yes ch 738 HL.out hd9 hm8.row.wds).mono ?_); rintro e w9 ⟨rfl, ho9⟩))
            go_ret
            exact ⟨rfl, ((HT7.out.1.read hm8 ho8).only0 ho9).duo.only⟩
          · obtain ⟨q1, q2, q3⟩ := HT7.out.1.duo.cur.back hx hy hxy hp1
            have cL := plink_is HT7.out.1.duo.mem q1 rfl
            have h738 := HT7.out.1.duo.mem.len
            rw [errV_nil] at cL
            have HL := Lib.hid h738
            have HQ := Lib.hid (And.intro q2 q3)
            clear q1 q2 q3 hx hy hp1 h738 hxy
            go_wp2_with (first | ((with_reducible refine cL.mono ?_); clear cL; rintro e w8 ⟨rfl, hm8, ho8⟩) | ((with_reducible refine (punlink_nil hm8 HQ.out.1 HQ.out.2).mono ?_); rintro e w9 ⟨rfl, hm9, ho9⟩; have hd9 := wds_only1 HT7.out.2.1 (ho8.trans ho9) (by have := HT7.out.2.2; omega)) | ((with_reducible refine (same_yes ch 738 HL.out hd9 hm9.row.wds).mono ?_); rintro e w10 ⟨rfl, ho10⟩))
            go_ret
            exact ⟨rfl, ((HT7.out.1.read hm9 (ho8.trans ho9)).only0 ho10).duo.only⟩
end Go.Proofs.Ytopbbpjjiamdcaa
