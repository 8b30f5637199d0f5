/- UntypedOnce's walk: for all sizes, all slices of deeds. -/
import Derived.Test.YtffoajakkghlbaaOnceM
import Derived.Test.YtffoajakkghlbaaUntUp
import Derived.Test.YtffoajakkghlbaaUntDeeds
import Derived.Deep.RegionHeld3
import Derived.Deep.DeepCutAuto
namespace Go.Proofs.Ytffoajakkghlbaa
open Go.RowKit
theorem pick80_any (c : Int) (h0 : -9223372036854775808 ≤ c) (h1 : c ≤ 9223372036854775807) (w : World) : Calls Try.prog 17 #[.int .i64 c, .int .i64 80] w fun e w' => e = .returned (.int .i64 (pk80 c)) ∧ w' = w := by
  by_cases h : c < 0
  · have e1 : pk80 c = -((c + 1).tmod 80) := by unfold pk80; rw [if_pos h, ← Int.neg_tmod, Int.tmod_eq_emod_of_nonneg (by omega)]
    rw [e1]
    clear e1
    go_enter Try.func17, Try.ntmps17
    go_wp2
    go_ret
    exact ⟨rfl, rfl⟩
  · have e1 : pk80 c = c % 80 := by unfold pk80; rw [if_neg h]
    rw [e1]
    clear e1
    go_enter Try.func17, Try.ntmps17
    go_wp2
    go_ret
    exact ⟨rfl, rfl⟩
abbrev UoT : TypeId := 44
/-- words of a state of layer 13 of one's own -/
structure SoloU (w0 w : World) (g : Nat) (S : RSt) : Prop where
  mem : MemP g 738 UT w (wordsG S)
  only : Only [] w0 w
  ng : w0.heap.size ≤ g
section
variable {w0 w w' : World} {g : Nat} {S S' : RSt}
theorem SoloU.only0 (h : SoloU w0 w g S) (ho : Only [] w w') : SoloU w0 w' g S := ⟨h.mem.only ho (by simp), h.only.trans ho, h.ng⟩
theorem SoloU.to (h : SoloU w0 w g S) (hm : MemP g 738 UT w' (wordsG S')) (ho : Only [g] w w') : SoloU w0 w' g S' :=
  ⟨hm, h.only.then ho (fun x hx => .inr (by have := h.ng; simp at hx; omega)), h.ng⟩
theorem SoloU.keep {t : TypeId} {k : Nat} {cs : Array Value} (h : SoloU w0 w g S) (ht : t ≠ UT) (hb : Blk w k t cs) (ho : Only [g] w w') : Blk w' k t cs := by
  obtain ⟨cur, hg⟩ := h.mem.blkG
  exact ho.blk hb (fun e => by simp at e; exact hb.ne_ hg ht e)
end
set_option maxRecDepth 100000 in
set_option maxHeartbeats 4000000 in
theorem uonce_any (z : Int) (A : Option Addr) (LL : List U5) (cp : Nat) (w : World) (hL : DeedsU w A LL) (hl : LL.length ≤ 9223372036854775807) :
    Calls Try.prog 5 #[.int .i64 z, .slice A LL.length cp] w fun e w' => e = .returned (.bool true) ∧ Only [] w w' := by
  have cB : ∀ W : World, Calls Try.prog 9 #[.int .i64 1] W fun e w' => ∃ gs go, e = .returned (.pointer (some ⟨W.heap.size, 0, none⟩)) ∧ RefM w' W.heap.size gs go (bootS 1) ∧ W.heap.size ≤ gs ∧ W.heap.size ≤ go ∧ Only [] W w' := fun W => boot_any 1 (by decide) W
  have HCB := Lib.hid cB
  clear cB
  go_enter Try.func5, Try.ntmps5
  go_wp2_with fail
  (with_reducible refine (up_any _).mono ?_)
  rintro e w1 ⟨rfl, ho1⟩
  by_cases hz0 : z < 0
  · go_wp2_with fail
    go_ret
    exact ⟨rfl, ho1⟩
  by_cases hz9 : 1000 < z
  · go_wp2_with fail
    go_ret
    exact ⟨rfl, ho1⟩
  by_cases hlen : 60 < LL.length
  · go_wp2_with fail
    go_ret
    exact ⟨rfl, ho1⟩
  have hlen' : ¬ (60 : Int) < (LL.length : Int) := by omega
  have hzr : 0 ≤ z ∧ z ≤ 1000 := by omega
  have HZ := Lib.hid hzr
  clear hl hzr
  go_wp2_with fail
  (with_reducible refine (HCB.out _).mono ?_)
  rintro e w2 ⟨gs, go, rfl, hr2, -, hgo, ho2⟩
  obtain ⟨p, hp⟩ : ∃ p, Hid (w1.heap.size = p) := ⟨_, Lib.hid rfl⟩
  rw [hp.out] at hr2 hgo ⊢
  have hgw : w.heap.size ≤ go := by have := ho1.size; have := hp.out; omega
  replace ho2 := ho1.trans ho2
  obtain ⟨co, c1⟩ := hr2.cObjs
  obtain ⟨v, e, f⟩ : ∃ v, w2.cell? ⟨go, 97, none⟩ = some v ∧ w2.frozen? ⟨go, 97, none⟩ = false := hr2.fld (i := 3) (j := 1) (by omega) (by omega)
  obtain ⟨hr3, ho3⟩ := hr2.setField (by decide) (by decide) (by decide) (i := 3) (j := 1) (by omega) (by omega) (.int .i64 z) { (bootS 1).ob ((3 : Nat) : Int) with size := z } (fun _ => rfl) rfl
  replace hr3 : RefM (w2.setCell ⟨go, 97, none⟩ (.int .i64 z)) p gs go (bootU 1 z) := hr3
  have H3 := Lib.hid (And.intro hr3 (ho2.then ho3 (fun y hy => .inr (by simp at hy; rw [hy]; exact hgw))))
  clear hr3 ho3 hr2 ho1 hp hz0 hz9 hlen ho2 hgo hgw
  go_upto_region 6 with fail
  obtain ⟨w3, hw3⟩ : ∃ X3, X3 = w2.setCell ⟨go, 97, none⟩ (.int .i64 z) := ⟨_, rfl⟩
  rw [show (3 * 32 + 1) = 97 from rfl] at H3
  rw [← hw3] at H3 ⊢
  clear hw3 c1 e f
  clear w2
  have hO := boot_once HZ.out
  have cW := rwordsG_any H3.out.1 hO.uok.sok.fitG
  go_wp2_with fail
  (with_reducible refine cW.mono ?_)
  clear cW
  rintro e w4 ⟨rfl, hm4, ho4⟩
  have hD : SoloU w w4 w3.heap.size (bootU 1 z) := ⟨hm4, H3.out.2.trans ho4, H3.out.2.size⟩
  have HD := Lib.hid (And.intro hD hO)
  clear hD hm4 ho4 H3 hO
  obtain ⟨g, hg0⟩ : ∃ g, Hid (w3.heap.size = g) := ⟨_, Lib.hid rfl⟩
  rw [hg0.out] at HD ⊢
  clear hg0
  go_wp2_with fail
  go_loopw [8, 9, 10] (fun nv sv i wr => ∃ (k : Nat) (S : RSt) (next spent : Int), k ≤ LL.length ∧ nv = .int .i64 next ∧ sv = .int .i64 spent ∧ i = .int .i64 k ∧ SoloU w wr g S ∧ Once S next spent z) (fun _ _ i _ => LL.length - (intOf i).toNat)
  case atStart => exact ⟨0, _, 9, 0, by omega, rfl, rfl, rfl, HD.out.1, HD.out.2⟩
  case round =>
    clear HD
    clear w3 w4
    obtain ⟨k, S, next, spent, hk, rfl, rfl, rfl, hD, hO⟩ := hrel
    by_cases hlt : k < LL.length
    · obtain ⟨d, hd⟩ : ∃ d, LL[k]? = some d := ⟨_, List.getElem?_eq_getElem hlt⟩
      obtain ⟨b, off, rfl, hb, hc⟩ := hL.at_ k d hd
      have hok := hL.ok k d hd
      have c0 : wr.cell? ⟨b, off + k * 5, none⟩ = some (.bool d.del) := (hD.only.cell (p := ⟨b, off + k * 5, none⟩) hb (by simp)).trans (hc 0 _ rfl)
      have c1 : wr.cell? ⟨b, off + k * 5 + 1, none⟩ = some (.int .i64 d.a) := (hD.only.cell (p := ⟨b, off + k * 5 + 1, none⟩) hb (by simp)).trans (hc 1 _ rfl)
      have c2 : wr.cell? ⟨b, off + k * 5 + 2, none⟩ = some (.int .i64 d.b) := (hD.only.cell (p := ⟨b, off + k * 5 + 2, none⟩) hb (by simp)).trans (hc 2 _ rfl)
      have c3 : wr.cell? ⟨b, off + k * 5 + 3, none⟩ = some (.int .i64 d.k) := (hD.only.cell (p := ⟨b, off + k * 5 + 3, none⟩) hb (by simp)).trans (hc 3 _ rfl)
      have c4 : wr.cell? ⟨b, off + k * 5 + 4, none⟩ = some (.int .i64 d.n) := (hD.only.cell (p := ⟨b, off + k * 5 + 4, none⟩) hb (by simp)).trans (hc 4 _ rfl)
      have hbz := hD.only.size
      have hn := Blk.new wr UoT d.arr
      have hD1 := hD.only0 ((Only.refl [] wr).alloc (.cells d.arr UoT))
      have hwb : -9223372036854775808 ≤ d.b ∧ d.b ≤ 9223372036854775807 := by simpa [Lit.wf, IntKind.min, IntKind.max, IntKind.signed, IntKind.bits] using hok.b
      have HH := Lib.hid (And.intro hn (And.intro hD1 (And.intro hO hwb)))
      have HLT := Lib.hid hlt
      clear hd hc hD hn hD1 hO hok hwb
      go_upto_region 13 with fail
      obtain ⟨n0, hn0⟩ : ∃ n0, Hid (n0 = wr.heap.size) := ⟨_, Lib.hid rfl⟩
      obtain ⟨w4, hw4⟩ : ∃ w4, Hid (w4 = wr.alloc (.cells d.arr UoT)) := ⟨_, Lib.hid rfl⟩
      rw [← hw4.out, ← hn0.out] at HH
      rw [← hw4.out, ← hn0.out]
      clear c0 c1 c2 c3 c4 hbz hn0 hw4
      clear wr
      obtain ⟨hn, hD, hO, hwb⟩ := HH.out
      have hnd : Blk w4.drew n0 UoT d.arr := hn.drew
      have hS0 : w4.drew.cell? ⟨n0, 2, none⟩ = some (.int .i64 d.b) ∧ w4.drew.cell? ⟨n0, 3, none⟩ = some (.int .i64 d.k) ∧ w4.drew.cell? ⟨n0, 4, none⟩ = some (.int .i64 d.n) := ⟨hnd.cell 2, hnd.cell 3, hnd.cell 4⟩
      have cP := Lib.hid (pick80_any d.b hwb.1 hwb.2)
      obtain ⟨t, ht⟩ : ∃ t, 14 + pk80 d.b = t := ⟨_, rfl⟩
      obtain ⟨pk, hpk⟩ : ∃ pk, pk80 d.b = pk := ⟨_, rfl⟩
      have hpr := pk80_rng d.b
      rw [hpk] at hpr ht cP
      have hwt : IntKind.i64.wrap (14 + pk) = 14 + pk := IntWalk.i64_in _ (by omega)
      have hD' := hD.only0 ((Only.refl [] w4).drewN 1)
      obtain ⟨nn, hA1⟩ : ∃ nn, (retA S 8 (14 + pk) d.k d.n).1 = nn := ⟨_, rfl⟩
      obtain ⟨bad, hA2⟩ : ∃ bad, (retA S 8 (14 + pk) d.k d.n).2 = bad := ⟨_, rfl⟩
      have cR := uret_is (w := w4.drew) hD'.mem hO.uok 8 (14 + pk) d.k d.n
      rw [hA1, hA2] at cR
      have HA := Lib.hid (And.intro hA1 (And.intro hA2 hpr))
      have HN := Lib.hid (And.intro hnd hD')
      clear hn hD hO hwb hA1 hA2 hpk ht hD' hnd
      go_region_held3 (fun W => W.cell? ⟨n0, 2, none⟩ = some (.int .i64 d.b) ∧ W.cell? ⟨n0, 3, none⟩ = some (.int .i64 d.k) ∧ W.cell? ⟨n0, 4, none⟩ = some (.int .i64 d.n))
        (first | exact hS0 | exact hS1 | fail)
        (first | ((with_reducible refine (cP.out _).mono ?_); rintro e w' ⟨rfl, hw⟩; replace hw := hw.symm; subst hw) | ((with_reducible refine cR.mono ?_); clear cR; rintro e w5 ⟨rfl, hm5, ho5⟩; have hn5 := HN.out.2.keep (by decide) HN.out.1 ho5; have hS1 : w5.cell? ⟨n0, 2, none⟩ = some (.int .i64 d.b) ∧ w5.cell? ⟨n0, 3, none⟩ = some (.int .i64 d.k) ∧ w5.cell? ⟨n0, 4, none⟩ = some (.int .i64 d.n) := ⟨hn5.cell 2, hn5.cell 3, hn5.cell 4⟩) | fail)
      have hD5 := HN.out.2.to hm5 ho5
      obtain ⟨-, s1, s2⟩ := hS1
      have hn5z := hn5.lt
      have HD5 := Lib.hid hD5
      clear hm5 ho5 hD5 hn5 HN cP
      by_cases hb0 : bad = 0
      · subst hb0
        rw [errV_nil]
        obtain ⟨hA1, hA2, hpr'⟩ := HA.out
        have h0 : retN S 8 (14 + pk) d.k d.n = 0 := hA2
        have hnn : nn = next := by
          rw [← hA1, ← HH.out.2.2.1.no]
          unfold retA
          rw [if_pos h0]
        subst hnn
        obtain ⟨hO1, hc⟩ := HH.out.2.2.1.ok h0 (by omega)
        obtain ⟨cz, hcz⟩ : ∃ cz, costZ d.k d.n = cz := ⟨_, rfl⟩
        have hcr := costZ_rng d.k d.n
        rw [hcz] at hO1 hc hcr
        have cC := ucost_is (q := true) hcz (if_neg hc) (by simp [hc]) w5
        have q1 : (nn != nn) = false := by simp
        have hsp := HH.out.2.2.1.spentR
        have hnx := HH.out.2.2.1.nextR
        have hw1 : IntKind.i64.wrap (spent + cz) = spent + cz := IntWalk.i64_in _ (by omega)
        have hw2 : IntKind.i64.wrap (nn + 1) = nn + 1 := IntWalk.i64_in _ (by omega)
        have HO1 := Lib.hid hO1
        clear hA1 hA2 h0 hO1 hc hcz hcr hsp hnx hpr' hpr HA
        go_wp2_with fail
        (with_reducible refine cC.mono ?_)
        clear cC s1 s2
        rintro e w6 ⟨rfl, ho6⟩
        have HD6 := Lib.hid (HD5.out.only0 ho6)
        clear ho6
        go_wp2_with fail
        exact ⟨⟨k + 1, _, nn + 1, spent + cz, by have := HLT.out; omega, rfl, rfl, by go_num, HD6.out, HO1.out⟩, by have := HLT.out; simp [intOf]; omega⟩
      · have HO1 := Lib.hid (HH.out.2.2.1.bad (t := 14 + pk) (k := d.k) (b := d.n) (fun e => hb0 (by rw [← HA.out.2.1]; exact e)))
        rw [errV_some hb0]
        clear hb0 HA hpr
        go_wp2_with fail
        exact ⟨⟨k + 1, _, next, spent, by have := HLT.out; omega, rfl, rfl, by go_num, HD5.out, HO1.out⟩, by have := HLT.out; simp [intOf]; omega⟩
    · obtain rfl : k = LL.length := by omega
      have hsp := hO.spentR
      have hnx := hO.nextR
      have cL := uleft_is hD.mem hO.uok 3
      rw [hO.left] at cL
      have hw1 : IntKind.i64.wrap (z - spent) = z - spent := IntWalk.i64_in _ (by omega)
      have q1 : ((z - spent) == (z - spent)) = true := by simp
      have h1 : spent ≤ z := hsp.2.1
      have h2 : next ≤ 32 := hnx.2
      have HD := Lib.hid hD
      clear hlt hD hO hsp hnx
      go_wp2_with fail
      (with_reducible refine cL.mono ?_)
      clear cL
      rintro e w5 ⟨rfl, hm5, ho5⟩
      have HD5 := Lib.hid (HD.out.to hm5 ho5)
      clear hm5 ho5 HD
      go_wp2_with fail
      go_ret
      exact ⟨by simp [h1, h2], HD5.out.only⟩
end Go.Proofs.Ytffoajakkghlbaa
