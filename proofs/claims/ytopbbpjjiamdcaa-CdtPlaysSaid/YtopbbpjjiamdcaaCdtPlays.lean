/- CdtPlays' walk: for all slices of deeds. -/
import Derived.Test.YtopbbpjjiamdcaaCdtAt
import Derived.Test.YtopbbpjjiamdcaaCdtDeeds
import Derived.Deep.RegionHeld3
import Derived.Deep.CutBlock
import Derived.Deep.DeepCutAuto
namespace Go.Proofs.Ytopbbpjjiamdcaa
open Go.RowKit
def inB (a b : Int) : Bool := decide (0 ≤ a ∧ a < 96 ∧ 0 ≤ b ∧ b < 96)
theorem inB_yes {a b : Int} : inB a b = true ↔ 0 ≤ a ∧ a < 96 ∧ 0 ≤ b ∧ b < 96 := by simp [inB]
theorem inB_no {a b : Int} : inB a b = false ↔ a < 0 ∨ 96 ≤ a ∨ b < 0 ∨ 96 ≤ b := by simp [inB]; omega
set_option maxRecDepth 100000 in
set_option maxHeartbeats 4000000 in
theorem plays_any (A : Option Addr) (LL : List D3) (cp : Nat) (w : World) (hL : Deeds3 w A LL) (hl : LL.length ≤ 9223372036854775807) :
    Calls Try.prog 3 #[.slice A LL.length cp] w fun e w' => e = .returned (.bool true) ∧ Only [] w w' := by
  go_enter Try.func3, Try.ntmps3
  go_wp2_with fail
  (with_reducible refine (up_any _).mono ?_)
  rintro e w1 ⟨rfl, ho1⟩
  by_cases hlen : 120 < LL.length
  · go_wp2_with fail
    go_ret
    exact ⟨rfl, ho1⟩
  have hlen' : LL.length ≤ 120 := by omega
  clear hlen hl
  go_wp2_with fail
  (with_reducible refine (new_any _).mono ?_)
  rintro e w2 ⟨gs, go, rfl, hr2, hgs, hgo, ho2⟩
  have hz1 := ho1.size
  have hz2 := ho2.size
  have hD : Duo w (w2.alloc (.cells zerosA UT)) w1.heap.size gs go w2.heap.size zeros RSt.new :=
    ⟨memP_new w2, hr2.only0 ((Only.refl [] _).alloc _), Cur.new, (ho1.trans ho2).alloc _, by omega, by omega⟩
  obtain ⟨p, hp⟩ : ∃ p, Hid (p = w1.heap.size) := ⟨_, Lib.hid rfl⟩
  obtain ⟨g, hg⟩ : ∃ g, Hid (g = w2.heap.size) := ⟨_, Lib.hid rfl⟩
  rw [← hp.out, ← hg.out] at hD
  rw [← hp.out]
  have HD := Lib.hid hD
  clear hD hr2 ho1 ho2 hz1 hz2 hgs hgo
  go_wp2
  rw [made_words]
  go_wp2_with fail
  rw [← hg.out]
  obtain ⟨w3, hw3⟩ : ∃ w3, w3 = w2.alloc (.cells zerosA UT) := ⟨_, rfl⟩
  rw [← hw3] at HD ⊢
  clear hw3 hp hg
  clear w1 w2
  go_loopw [6] (fun i wr => ∃ (k : Nat) (L : List Int) (S : RSt), k ≤ LL.length ∧ i = .int .i64 k ∧ Duo w wr p gs go g L S) (fun i _ => LL.length - (intOf i).toNat)
  case atStart => exact ⟨0, _, _, by omega, rfl, HD.out⟩
  case round =>
    clear HD
    obtain ⟨k, L, S, hk, rfl, hD⟩ := hrel
    by_cases hlt : k < LL.length
    · obtain ⟨d, hd⟩ : ∃ d, LL[k]? = some d := ⟨_, List.getElem?_eq_getElem hlt⟩
      obtain ⟨b, off, rfl, hb, hc⟩ := hL.at_ k d hd
      have hok := hL.ok k d hd
      obtain ⟨dw, da, db⟩ := d
      have c0 : wr.cell? ⟨b, off + k * 3, none⟩ = some (.int .i64 dw) := (hD.only.cell (p := ⟨b, off + k * 3, none⟩) hb (by simp)).trans (hc 0 _ rfl)
      have c1 : wr.cell? ⟨b, off + k * 3 + 1, none⟩ = some (.int .i64 da) := (hD.only.cell (p := ⟨b, off + k * 3 + 1, none⟩) hb (by simp)).trans (hc 1 _ rfl)
      have c2 : wr.cell? ⟨b, off + k * 3 + 2, none⟩ = some (.int .i64 db) := (hD.only.cell (p := ⟨b, off + k * 3 + 2, none⟩) hb (by simp)).trans (hc 2 _ rfl)
      have hbz := hD.only.size
      have hn := Blk.new wr DT (d3 dw da db)
      have hD1 := hD.only0 ((Only.refl [] wr).alloc (.cells (d3 dw da db) DT))
      have hw0 : -9223372036854775808 ≤ dw ∧ dw ≤ 9223372036854775807 := by simpa [Lit.wf, IntKind.min, IntKind.max, IntKind.signed, IntKind.bits] using hok.what
      have HH := Lib.hid (And.intro hn (And.intro hD1 hw0))
      have HLT := Lib.hid hlt
      clear hok hd hc hD hn hD1 hw0
      go_upto_region 10 with fail
      obtain ⟨n0, hn0⟩ : ∃ n0, Hid (n0 = wr.heap.size) := ⟨_, Lib.hid rfl⟩
      obtain ⟨w4, hw4⟩ : ∃ w4, Hid (w4 = wr.alloc (.cells (d3 dw da db) DT)) := ⟨_, Lib.hid rfl⟩
      rw [← hw4.out, ← hn0.out] at HH
      rw [← hw4.out, ← hn0.out]
      clear c0 c1 c2 hbz hn0 hw4
      obtain ⟨e0, e1, e2⟩ := d3_cells HH.out.1
      have hn0 := HH.out.1.lt
      go_cut [8] (fun v W => v = .bool (inB da db) ∧ W = w4)
      case first =>
        as_aux_lemma =>
          by_cases h1 : 0 ≤ da
          · by_cases h2 : da < 96
            · by_cases h3 : 0 ≤ db
              · by_cases h4 : db < 96
                · have HB := Lib.hid (inB_yes.2 ⟨h1, h2, h3, h4⟩)
                  go_wp2_with fail
                  go_meet
                  exact ⟨by rw [HB.out], rfl⟩
                · have HB := Lib.hid (inB_no.2 (.inr (.inr (.inr (by omega : 96 ≤ db)))) : inB da db = false)
                  go_wp2_with fail
                  go_meet
                  exact ⟨by rw [HB.out], rfl⟩
              · have HB := Lib.hid (inB_no.2 (.inr (.inr (.inl (by omega : db < 0)))) : inB da db = false)
                go_wp2_with fail
                go_meet
                exact ⟨by rw [HB.out], rfl⟩
            · have HB := Lib.hid (inB_no.2 (.inr (.inl (by omega : 96 ≤ da))) : inB da db = false)
              go_wp2_with fail
              go_meet
              exact ⟨by rw [HB.out], rfl⟩
          · have HB := Lib.hid (inB_no.2 (.inl (by omega : da < 0)) : inB da db = false)
            go_wp2_with fail
            go_meet
            exact ⟨by rw [HB.out], rfl⟩
      case rest =>
        obtain ⟨rfl, hw⟩ := hcut
        replace hw := hw.symm
        subst hw
        have HWB := Lib.hid HH.out.2.2
        go_upto_block 2 with ((with_reducible refine (pick4_any _ HWB.out.1 HWB.out.2 _).mono ?_); rintro e w' ⟨r, rfl, hr0, hr3, hw⟩; replace hw := hw.symm; subst hw)
        have hD := HH.out.2.1
        have hn := HH.out.1
        obtain ⟨q, hq⟩ : ∃ q, inB da db = q := ⟨_, rfl⟩
        rw [hq]
        have HQ := Lib.hid hq
        clear hq
        go_cut [9, 10] (fun v9 v10 W => ∃ (n : Int) (L' : List Int) (S' : RSt), v9 = .int .i64 n ∧ v10 = errV n ∧ (n = 0 ∨ (1 ≤ n ∧ n ≤ 14)) ∧ Duo w W p gs go g L' S' ∧ Blk W n0 DT (d3 dw da db))
        case first =>
          go_upto_if 64 with fail
          obtain ⟨t, ht⟩ : ∃ t, Hid (decide (r ≤ 1) = t) := ⟨_, Lib.hid rfl⟩
          go_cut [64] (fun v W => v = .bool t ∧ W = w4)
          case first =>
            as_aux_lemma =>
              obtain rfl | rfl | ⟨h0, h1⟩ : r = 0 ∨ r = 1 ∨ (r ≠ 0 ∧ r ≠ 1) := by omega
              · go_wp2_with fail
                go_meet
                exact ⟨by rw [← ht.out]; rfl, rfl⟩
              · go_wp2_with fail
                go_meet
                exact ⟨by rw [← ht.out]; rfl, rfl⟩
              · have e0 : (r == 0) = false := by simp [h0]
                have e1 : (r == 1) = false := by simp [h1]
                have HT : Hid (t = false) := Lib.hid (by rw [← ht.out]; exact decide_eq_false (by omega))
                clear h0 h1
                go_wp2_with fail
                go_meet
                exact ⟨by rw [HT.out], rfl⟩
          case rest =>
            obtain ⟨rfl, hw⟩ := hcut
            replace hw := hw.symm
            subst hw
            cases t with
            | true =>
              clear hr0 hr3
              go_upto_if 67 with fail
              go_cut [] (fun W => W = w4)
              case first =>
                as_aux_lemma =>
                  have hway : q = false ∨ (q = true ∧ (da != db) = false) ∨ (q = true ∧ (da != db) = true) := by
                    cases q with
                    | false => exact .inl rfl
                    | true => by_cases h : da = db <;> simp [h]
                  rcases hway with rfl | ⟨rfl, hab⟩ | ⟨rfl, hab⟩
                  · go_wp2_with fail
                    go_meet
                    rfl
                  · go_wp2_with fail
                    go_meet
                    rfl
                  · go_wp2_with fail
                    (with_reducible refine (above_any hD.ref hD.cur.pars da db (inB_yes.1 HQ.out).2.2.2).mono ?_)
                    rintro e w' ⟨ab, rfl, hw⟩
                    replace hw := hw.symm
                    subst hw
                    cases ab with
                    | true =>
                      go_wp2_with fail
                      exact ⟨⟨k + 1, L, S, by omega, by go_num, hD⟩, by simp [intOf]; omega⟩
                    | false =>
                      go_wp2_with fail
                      go_meet
                      rfl
              case rest =>
                replace hcut := hcut.symm
                subst hcut
                obtain ⟨n, HN⟩ : ∃ n, Hid (linkN S da db = n) := ⟨_, Lib.hid rfl⟩
                go_wp2_with fail
                clear e0 e1 e2 hn0
                (with_reducible refine (plink_is hD.mem ((hD.cur.link da db).1.trans HN.out) rfl).mono ?_)
                rintro e w5 ⟨rfl, hm5, ho5⟩
                have hn5 := hD.deed hn ho5
                have hr5 := apart_ref hD.ref hD.mem ho5
                obtain ⟨e0, e1, e2⟩ := d3_cells hn5
                have hn0 := hn5.lt
                go_wp2_with fail
                (with_reducible refine (rlink_any hr5 hD.cur.short da db).mono ?_)
                rintro e w6 ⟨rfl, hr6, ho6⟩
                have hn6 := Duo.deedS hr5 hn5 ho6
                have hD6 := hD.link da db hm5 ho5 hr6 ho6
                clear hm5 ho5 hn5 hr5 ho6 hr6
                go_wp2_with fail
                go_meet
                exact ⟨_, _, _, by rw [HN.out], rfl, HN.out ▸ linkN_rng, hD6, hn6⟩
            | false =>
              obtain rfl | rfl : r = 2 ∨ r = 3 := by
                have := of_decide_eq_false ht.out
                omega
              · obtain ⟨n, HN⟩ : ∃ n, Hid (unlinkN da = n) := ⟨_, Lib.hid rfl⟩
                clear hr0 hr3
                go_wp2_with fail
                clear e0 e1 e2 hn0
                (with_reducible refine (punlink_is hD.mem ((hD.cur.unlink da).1.trans HN.out) rfl).mono ?_)
                rintro e w5 ⟨rfl, hm5, ho5⟩
                have hn5 := hD.deed hn ho5
                have hr5 := apart_ref hD.ref hD.mem ho5
                obtain ⟨e0, e1, e2⟩ := d3_cells hn5
                have hn0 := hn5.lt
                go_wp2_with fail
                (with_reducible refine (runlink_any hr5 hD.cur.short hD.cur.pars da).mono ?_)
                rintro e w6 ⟨rfl, hr6, ho6⟩
                have hn6 := Duo.deedS hr5 hn5 ho6
                have hD6 := hD.unlink da hm5 ho5 hr6 ho6
                clear hm5 ho5 hn5 hr5 ho6 hr6
                go_wp2_with fail
                go_meet
                exact ⟨_, _, _, by rw [HN.out], rfl, HN.out ▸ unlinkN_rng, hD6, hn6⟩
              · obtain ⟨n, HN⟩ : ∃ n, Hid (replaceN S da db = n) := ⟨_, Lib.hid rfl⟩
                clear hr0 hr3
                go_wp2_with fail
                clear e0 e1 e2 hn0
                (with_reducible refine (preplace_is hD.mem ((hD.cur.replace da db).1.trans HN.out) rfl).mono ?_)
                rintro e w5 ⟨rfl, hm5, ho5⟩
                have hn5 := hD.deed hn ho5
                have hr5 := apart_ref hD.ref hD.mem ho5
                obtain ⟨e0, e1, e2⟩ := d3_cells hn5
                have hn0 := hn5.lt
                go_wp2_with fail
                (with_reducible refine (rreplace_any hr5 hD.cur.short hD.cur.pars hD.cur.kidsIn hD.cur.hne da db).mono ?_)
                rintro e w6 ⟨rfl, hr6, ho6⟩
                have hn6 := Duo.deedS hr5 hn5 ho6
                have hD6 := hD.replace da db hm5 ho5 hr6 ho6
                clear hm5 ho5 hn5 hr5 ho6 hr6
                go_wp2_with fail
                go_meet
                exact ⟨_, _, _, by rw [HN.out], rfl, HN.out ▸ replaceN_rng, hD6, hn6⟩
        case rest =>
          obtain ⟨n, L', S', rfl, rfl, h14, hD2, hn2⟩ := hcut
          have h0 : Held w p gs go g L' S' n0 dw da db wc := ⟨hD2, hn2⟩
          clear hD2 hn2 HH e0 e1 e2 hn0 hD hn hr0 hr3
          clear L S
          as_aux_lemma =>
            obtain ⟨lf, hlf⟩ : ∃ lf, Hid (leafS S' da = lf) := ⟨_, Lib.hid rfl⟩
            have hnn : (n != n) = false := by simp
            have hll : (lf != lf) = false := by simp
            have e1 := h0.deed.cell 1
            have hn0 := h0.deed.lt
            have hQ0 := h0.drew
            have h738 := hQ0.duo.mem.len
            have HL := Lib.hid h738
            clear h738
            obtain ⟨g2, hg2⟩ : ∃ g2, Hid (g2 = wc.drew.heap.size) := ⟨_, Lib.hid rfl⟩
            go_upto_region 25 with fail
            go_region_held3 (fun W => Held w p gs go g L' S' n0 dw da db W ∧ W.cell? ⟨n0, 1, none⟩ = some (.int .i64 da))
              (first | exact hQ3.one | exact hQ2.one | exact hQ1.one | exact hQ0.one)
              (first | (go_at_call 15; (with_reducible refine (code_any h14 _).mono ?_); rintro e w5 ⟨rfl, rfl⟩) | (go_at_call 17; (with_reducible refine (words_is hQ0.duo.ref hQ0.duo.cur).mono ?_); rintro e w6 ⟨he, hm6, ho6⟩; rw [← hg2.out] at he hm6; subst he; have hQ1 := hQ0.only0 ho6) | (go_at_call 16; (with_reducible refine (same_yes 738 738 HL.out hQ1.duo.mem.row.wds hm6.row.wds).mono ?_); rintro e w7 ⟨rfl, ho7⟩; have hQ2 := hQ1.only0 ho7) | (go_at_call 18; (with_reducible refine (pleaf_is hQ2.duo.mem ((hQ2.duo.cur.leaf da).trans hlf.out)).mono ?_); rintro e w8 ⟨rfl, hm8, ho8⟩; have hQ3 := hQ2.read hm8 ho8) | (go_at_call 19; (with_reducible refine (rleaf_any hQ3.duo.ref hQ3.duo.cur.kidsIn da).mono ?_); rw [hlf.out]; rintro e w9 ⟨rfl, rfl⟩))
            clear ho6 hm6 hQ1 ho7 hQ2 hm8 ho8 hQ0 h0 hnn hll e1 hn0 hg2 hlf HL
            clear w6 w7
            cases q with
            | false =>
              go_wp2_with fail
              exact ⟨⟨k + 1, L', S', by omega, by go_num, hQ3.duo⟩, by simp [intOf]; omega⟩
            | true =>
              have hin := inB_yes.1 HQ.out
              clear HQ
              obtain ⟨a, rfl⟩ : ∃ a : Nat, da = a := ⟨da.toNat, by omega⟩
              obtain ⟨b', rfl⟩ : ∃ b : Nat, db = b := ⟨db.toNat, by omega⟩
              have ha : a < 96 := by omega
              have hb' : b' < 96 := by omega
              clear hin
              obtain ⟨e0, e1, e2⟩ := d3_cells hQ3.deed
              have hn0 := hQ3.deed.lt
              have cK := pkids_is hQ3.duo.mem (hQ3.duo.cur.kids b')
              go_wp2_with ((with_reducible refine cK.mono ?_); clear cK; rintro e wk ⟨u, rfl, hu, hmk, hok⟩)
              have hQ4 := hQ3.read hmk hok
              have hgz : ∀ y, y ∈ [g] → y < w9.heap.size := fun y hy => by
                have := hQ3.duo.mem.row.lt
                simp at hy
                omega
              have HGZ := Lib.hid hgz
              clear hQ3 e0 e1 e2 hn0 hmk hok hgz
              obtain ⟨cs, AS, cpS, hC, hRS⟩ := hQ4.cells2 ha hb'
              obtain ⟨pr, hpr⟩ : ∃ pr, S'.par a = pr := ⟨_, rfl⟩
              obtain ⟨KK, hKK⟩ : ∃ KK, S'.kids b' = KK := ⟨_, rfl⟩
              have h96 := hQ4.duo.cur.short b'
              rw [hKK] at hu hC hRS h96
              rw [hpr] at hC
              have cP := pparent_is hQ4.drew.duo.mem ((hQ4.duo.cur.par a).trans hpr)
              obtain ⟨AK, cpK, rfl, -⟩ : ∃ A cp, u = .slice A KK.length cp ∧ True := by obtain ⟨A, cp, e, -⟩ := hu; exact ⟨A, cp, e, trivial⟩
              obtain ⟨m, hm⟩ : ∃ m, Hid (KK.length = m) := ⟨_, Lib.hid rfl⟩
              rw [hm.out] at hC h96 ⊢
              have HU := Lib.hid (And.intro hu hRS)
              have hpp : (pr != pr) = false := by simp
              have hmm : ((m : Int) != (m : Int)) = false := by simp
              have hC0 := hC.only0 hQ4 ((Only.refl [] wk).drewN 1)
              have hQ5 := hQ4.drew
              have haI : (a : Int) < 96 := by omega
              have hbI : (b' : Int) < 96 := by omega
              clear hKK hpr hu hRS
              obtain ⟨-, e0, e1, e2, e3, e4⟩ := hC.all hQ4
              go_region_held3 (fun W => (Held w p gs go g L' S' n0 dw a b' W ∧ Cells2 p gs n0 a b' cs AS m cpS pr W) ∧ W.cell? ⟨p, 0, none⟩ = some (.slice (some ⟨gs, 0, none⟩) 96 cs) ∧ W.cell? ⟨gs, a * 8 + 6, none⟩ = some (.int .i64 pr) ∧ W.cell? ⟨gs, b' * 8 + 7, none⟩ = some (.slice AS m cpS) ∧ W.cell? ⟨n0, 1, none⟩ = some (.int .i64 a) ∧ W.cell? ⟨n0, 2, none⟩ = some (.int .i64 b'))
                (first | exact hC1.all hQ6 | exact hC0.all hQ5)
                (first | (go_at_call 21; (with_reducible refine cP.mono ?_); rintro e w5 ⟨rfl, hm5, ho5⟩; have hQ6 := hQ5.read hm5 ho5; have hC1 := hC0.only hQ5 ho5))
              have hok5 := ((Only.refl [g] wk).drewN 1).trans ho5
              have hU5 := HU.out.1.only hok5 HGZ.out
              have hR5 : RowN w5 AS ItT irow' 1 KK := HU.out.2.only hok5 (fun j cur hj he => by
                obtain ⟨cur', hg⟩ := hQ4.duo.mem.blk
                simp at he
                subst he
                exact absurd (hj.uniq hg).1 (by decide))
              have HR := Lib.hid (And.intro hU5 hR5)
              rename_i hheld
              clear hheld
              clear hC hC0 cP HU HGZ e0 e1 e2 e3 e4 ho5 hok5 hU5 hR5 hQ4 hQ5 hm5 hpp hmm
              go_wp2_with fail
              go_loopw [12] (fun i wq => ∃ j : Nat, j ≤ m ∧ i = .int .i64 j ∧ Only [] w5 wq) (fun i _ => m - (intOf i).toNat)
              case atStart => exact ⟨0, by omega, rfl, Only.refl _ _⟩
              case round =>
                obtain ⟨wq, rfl⟩ : ∃ x, x = wr := ⟨_, rfl⟩
                obtain ⟨j, hj, rfl, ho⟩ := hrel
                by_cases hjm : j < m
                · obtain ⟨x, hx⟩ : ∃ x, KK[j]? = some x := ⟨_, List.getElem?_eq_getElem (by rw [hm.out]; exact hjm)⟩
                  obtain ⟨gA, rfl, hgA, d0⟩ := HR.out.1.cell rfl hx
                  obtain ⟨gS, rfl, hgS, d1⟩ := rowN_cell HR.out.2 hx
                  have f0 : wq.cell? ⟨gA, j, none⟩ = some (.int .i64 x) := (ho.cell (p := ⟨gA, j, none⟩) hgA (by simp)).trans d0
                  have f1 : wq.cell? ⟨gS, j, none⟩ = some (.int .i64 x) := (ho.cell (p := ⟨gS, j, none⟩) hgS (by simp)).trans d1
                  obtain ⟨-, e0, -, e2, -, e4⟩ := (hC1.only0 hQ6 ho).all (hQ6.only0 ho)
                  have hxx : (x != x) = false := by simp
                  have hj0 : (0 : Int) ≤ (j : Int) := Int.natCast_nonneg _
                  have hjI : (j : Int) < (m : Int) := by omega
                  have HJ := Lib.hid hjm
                  have HO := Lib.hid ho
                  clear hx d0 d1 hgA hgS hjm ho
                  go_wp2_with fail
                  go_quiet (fail)
                  have HO2 := Lib.hid (HO.out.drewN nq)
                  clear e0 e2 e4 f0 f1
                  go_wp2_with fail
                  go_roundw
                  case rel => exact ⟨j + 1, HJ.out, by go_num, HO2.out⟩
                  case measure => have := HJ.out; simp [intOf]; omega
                · obtain rfl : j = m := by omega
                  clear hjm
                  go_wp2_with fail
                  exact ⟨⟨k + 1, L', S', HLT.out, by go_num, (hQ6.only0 ho).duo⟩, by have := HLT.out; simp [intOf]; omega⟩
    · obtain rfl : k = LL.length := by omega
      clear hlt
      go_wp2_with fail
      go_ret
      exact ⟨rfl, hD.only⟩
end Go.Proofs.Ytopbbpjjiamdcaa
