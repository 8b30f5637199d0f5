/- DeriveLess' walk: for all numbers of threads, all slices of deeds, all slots. -/
import Derived.Test.YtlhcigpllkigdaaDerUp
import Derived.Test.YtlhcigpllkigdaaLess
import Derived.Test.YtlhcigpllkigdaaCsCapP
import Derived.Test.YtlhcigpllkigdaaJ6
import Derived.Deep.RegionHeld3
import Derived.Deep.AppendLies
namespace Go.Proofs.Ytlhcigpllkigdaa
open Go.RowKit
/-- the first capabilities of a state -/
def capsF (S : RSt) (n : Nat) : List Cp := (List.range n).map fun (i : Nat) => S.cap (i : Int)
theorem capsF_len (S : RSt) (n : Nat) : (capsF S n).length = n := by simp [capsF]
theorem capsF_succ (S : RSt) (n : Nat) : capsF S (n + 1) = capsF S n ++ [S.cap (n : Int)] := by simp [capsF, List.range_succ]
theorem capsF_get {S : RSt} {n j : Nat} (h : j < n) : (capsF S n)[j]? = some (S.cap (j : Int)) := by simp [capsF, List.getElem?_range h]
theorem capRow_len (c : Cp) : (capRow c).length = 6 := rfl
/-- is a capability within one of the first -/
def metB (c : Cp) (S : RSt) : Nat → Bool
  | 0 => false
  | n + 1 => metB c S n || (!((S.cap (n : Int)).kind == 0) && withinB c (S.cap (n : Int)))
theorem metB_yes {c : Cp} {S : RSt} {j : Nat} (hk : (S.cap (j : Int)).kind ≠ 0) (hw : withinB c (S.cap (j : Int)) = true) : ∀ n, j < n → metB c S n = true := by
  intro n
  induction n with
  | zero => intro h; omega
  | succ n ih =>
    intro h
    unfold metB
    by_cases e : j = n
    · subst e
      simp [hk, hw]
    · rw [ih (by omega)]
      rfl
def capZ : Value := .agg zeroA
theorem infoCp : (Try.prog.info? CpT).map (fun i => (i.zero, i.size, i.bytes)) = some (some capZ, 6, 48) := by kernel_rfl
/-- words of a sound state of one's own -/
structure Solo (w0 w : World) (g : Nat) (S : RSt) : Prop where
  mem : MemP g 738 UT w (wordsG S)
  dok : Dok S
  only : Only [] w0 w
  ng : w0.heap.size ≤ g
section
variable {w0 w w' : World} {g : Nat} {S S' : RSt}
theorem Solo.only0 (h : Solo w0 w g S) (ho : Only [] w w') : Solo w0 w' g S := ⟨h.mem.only ho (by simp), h.dok, h.only.trans ho, h.ng⟩
theorem Solo.to (h : Solo w0 w g S) (hm : MemP g 738 UT w' (wordsG S')) (hS : Dok S') (ho : Only [g] w w') : Solo w0 w' g S' :=
  ⟨hm, hS, h.only.then ho (fun x hx => .inr (by have := h.ng; simp at hx; omega)), h.ng⟩
end
set_option maxRecDepth 100000 in
set_option maxHeartbeats 4000000 in
theorem less_any (t : Int) (A : Option Addr) (LL : List D5) (cp : Nat) (last : Int) (w : World) (hL : Deeds5 w A LL) (hl : LL.length ≤ 9223372036854775807) :
    Calls Try.prog 3 #[.int .i64 t, .slice A LL.length cp, .int .i64 last] w fun e w' => e = .returned (.bool true) ∧ Only [] w w' := by
  obtain ⟨iC, hi0, hi1, hi2, hi3⟩ := info_parts infoCp
  go_enter Try.func3, Try.ntmps3
  go_wp2_with fail
  (with_reducible refine (up_any _).mono ?_)
  rintro e w1 ⟨rfl, ho1⟩
  by_cases ht0 : t < 0
  · go_wp2_with fail
    go_ret
    exact ⟨rfl, ho1⟩
  by_cases ht7 : 7 < t
  · have ht0' : 0 ≤ t := by omega
    clear ht0
    go_wp2_with fail
    go_ret
    exact ⟨rfl, ho1⟩
  by_cases hlen : 60 < LL.length
  · have ht0' : 0 ≤ t := by omega
    have ht7' : t ≤ 7 := by omega
    clear ht0 ht7
    go_wp2_with fail
    go_ret
    exact ⟨rfl, ho1⟩
  have hlen' : LL.length ≤ 60 := by omega
  obtain ⟨tn, rfl⟩ : ∃ tn : Nat, t = tn := ⟨t.toNat, by omega⟩
  have htn : tn ≤ 7 := by omega
  have ht0' : (0 : Int) ≤ (tn : Int) := by omega
  have ht7' : (tn : Int) ≤ 7 := by omega
  have HT := Lib.hid htn
  clear ht0 ht7 hlen hl htn
  go_wp2_with fail
  (with_reducible refine (boot_any tn HT.out _).mono ?_)
  rintro e w2 ⟨gs, go, rfl, hr2, -, -, ho2⟩
  have cW := rwordsG_any hr2 (boot_fitG HT.out)
  replace ho2 := ho1.trans ho2
  clear ho1 hr2
  go_wp2_with fail
  (with_reducible refine cW.mono ?_)
  clear cW
  rintro e w3 ⟨rfl, hm3, ho3⟩
  obtain ⟨g, hg⟩ : ∃ g, Hid (g = w2.heap.size) := ⟨_, Lib.hid rfl⟩
  rw [← hg.out] at hm3 ⊢
  have hD : Solo w w3 g (bootS tn) := ⟨hm3, boot_dok HT.out, ho2.trans ho3, by rw [hg.out]; exact ho2.size⟩
  have HD := Lib.hid hD
  clear hD hm3 ho3 ho2 hg
  go_wp2_with fail
  go_loopw [9] (fun i wr => ∃ (k : Nat) (S : RSt), k ≤ LL.length ∧ i = .int .i64 k ∧ Solo w wr g S) (fun i _ => LL.length - (intOf i).toNat)
  case atStart => exact ⟨0, _, by omega, rfl, HD.out⟩
  case round =>
    clear HD
    obtain ⟨k, S, hk, rfl, hD⟩ := hrel
    by_cases hlt : k < LL.length
    · obtain ⟨d, hd⟩ : ∃ d, LL[k]? = some d := ⟨_, List.getElem?_eq_getElem hlt⟩
      obtain ⟨b, off, rfl, hb, hc⟩ := hL.at_ k d hd
      have hok := hL.ok k d hd
      have hw0 : -9223372036854775808 ≤ d.what ∧ d.what ≤ 9223372036854775807 := by simpa [Lit.wf, IntKind.min, IntKind.max, IntKind.signed, IntKind.bits] using hok.what
      have HD := Lib.hid hD
      have HC := Lib.hid (And.intro hb (And.intro hc hw0))
      have HLT := Lib.hid hlt
      clear hok hd hc hD hb hw0
      go_wp2_with fail
      obtain ⟨wa, rfl⟩ : ∃ x, x = wr := ⟨_, rfl⟩
      have hga : g < wa.heap.size := HD.out.mem.row.lt
      have hwa := HD.out.only.size
      go_loopw [10, 11] (fun v i wr => ∃ m : Nat, m ≤ 96 ∧ i = .int .i64 m ∧ Solo w wr g S ∧ wa.heap.size ≤ wr.heap.size ∧ wr.ownsRow wa.heap.size CpT 6 v m ((capsF S m).flatMap capRow)) (fun _ i _ => 96 - (intOf i).toNat)
      case atStart => exact ⟨0, by omega, rfl, HD.out, Nat.le_refl _, World.ownsRow_nil _ _ _ _⟩
      case round =>
        clear HD
        obtain ⟨m, hm, rfl, hD, hz, hown⟩ := hrel
        by_cases h96 : m < 96
        · have cC := pccap_is hD.mem (hD.dok.sok.cap_in (i := (m : Int)) ⟨by omega, by omega⟩)
          obtain ⟨c, hc⟩ : ∃ c, Hid (S.cap (m : Int) = c) := ⟨_, Lib.hid rfl⟩
          rw [hc.out] at cC
          have HH := Lib.hid (And.intro hD hown)
          clear hD hown
          go_wp2_with fail
          (with_reducible refine cC.mono ?_)
          clear cC
          rintro e w5 ⟨rfl, hm5, ho5⟩
          have hD5 := HH.out.1.to hm5 HH.out.1.dok ho5
          have hown5 := owns_far HH.out.2 ho5 (fun j hj hx => by have := own_base HH.out.2 hj; simp at hx; omega)
          have hz5 := ho5.size
          have hownA := hown5.alloc (.cells c.arr CpT)
          have hnews : ∀ (j : Nat) (u : Value), (capRow c)[j]? = some u → (w5.alloc (.cells c.arr CpT)).cell? ((⟨w5.heap.size, 0, none⟩ : Addr).add j) = some u := World.news_of_block (cs := c.arr) (t := CpT) (fr := (0, 0)) (heap_alloc_new w5 _)
          have HG := Lib.hid (And.intro hD5 hown5)
          clear hm5 ho5 hD5 hown5
          go_wp2_with (at_builtin; refine wpList_append_lies _ (by rfl) _ _ 29 (by rfl) wa.heap.size CpT iC capZ 6 48 Try.underlying29 hi0 hi1 hi2 hi3 rfl (by omega) u10 m _ (by rfl) hownA ⟨w5.heap.size, 0, none⟩ 1 1 (capRow c) (by rfl) (by rfl) hnews (by simp [Value.oneCell', capRow]) (by omega) (by unfold maxLen; omega) (by omega) (by simp; omega) (w5.heap.size + 1) (by simp) ?_; intro g6 cap6 w6 hrow6 hgrow6 hat6 hlt6)
          have hOG := grows_S hgrow6
          have hSo : Only [] w w6 := only_grows (HG.out.1.only.alloc (.cells c.arr CpT)) hgrow6 (fun j hj => by have := own_base HG.out.2 hj; omega)
          have hSg : g ∉ u10.ownBlock.toList := fun hx => by
            have := own_base HG.out.2 (by simpa using hx)
            omega
          have hM6 := (HG.out.1.mem.only ((Only.refl [] w5).alloc (.cells c.arr CpT)) (by simp)).only hOG hSg
          have hz6 := hgrow6.size
          refine ⟨⟨m + 1, by omega, by go_num, ⟨hM6, HG.out.1.dok, hSo, HG.out.1.ng⟩, ?_, ?_⟩, by simp [intOf]; omega⟩
          · exact Nat.le_trans hz (Nat.le_trans hz5 (Nat.le_trans ((Only.refl [] w5).alloc (.cells c.arr CpT)).size hz6))
          · rw [capsF_succ, hc.out, List.flatMap_append]
            simpa using hrow6
        · obtain rfl : m = 96 := by omega
          obtain ⟨A2, cap2, e1, hN⟩ := RowN.of_owns (L := capsF S 96) (f := capRow) (n := 6) capRow_len (by rw [capsF_len]; exact hown)
          rw [capsF_len] at e1
          subst e1
          have hNb : ∀ x cur, Blk wr x CpT cur → x ∉ [g] := fun x cur hx hm => by
            simp at hm
            subst hm
            obtain ⟨cur', hg'⟩ := hD.mem.blkG
            exact absurd (hx.uniq hg').1 (by decide)
          have c0 : wr.cell? ⟨b, off + k * 5, none⟩ = some (.int .i64 d.what) := (hD.only.cell (p := ⟨b, off + k * 5, none⟩) HC.out.1 (by simp)).trans (HC.out.2.1 0 _ rfl)
          have c1 : wr.cell? ⟨b, off + k * 5 + 1, none⟩ = some (.int .i64 d.a) := (hD.only.cell (p := ⟨b, off + k * 5 + 1, none⟩) HC.out.1 (by simp)).trans (HC.out.2.1 1 _ rfl)
          have c2 : wr.cell? ⟨b, off + k * 5 + 2, none⟩ = some (.int .i64 d.b) := (hD.only.cell (p := ⟨b, off + k * 5 + 2, none⟩) HC.out.1 (by simp)).trans (HC.out.2.1 2 _ rfl)
          have c3 : wr.cell? ⟨b, off + k * 5 + 3, none⟩ = some (.int .i64 d.m) := (hD.only.cell (p := ⟨b, off + k * 5 + 3, none⟩) HC.out.1 (by simp)).trans (HC.out.2.1 3 _ rfl)
          have c4 : wr.cell? ⟨b, off + k * 5 + 4, none⟩ = some (.int .i64 d.n) := (hD.only.cell (p := ⟨b, off + k * 5 + 4, none⟩) HC.out.1 (by simp)).trans (HC.out.2.1 4 _ rfl)
          have cD := do_any hD.mem hD.dok d HC.out.2.2.1 HC.out.2.2.2
          have hkl : (k : Int) < (LL.length : Int) := by have := HLT.out; omega
          have hk0 : (0 : Int) ≤ (k : Int) := by omega
          have HN := Lib.hid (And.intro hD (And.intro hN hNb))
          clear h96 hD hN hNb hown hz hm
          rw [show ((96 : Nat) : Int) = 96 from rfl]
          go_wp2_with fail
          (with_reducible refine cD.mono ?_)
          clear cD c0 c1 c2 c3 c4
          rintro e w5 ⟨rfl, hm5, ho5⟩
          have hD5 := HN.out.1.to hm5 (HN.out.1.dok.step d) ho5
          have hN5 := HN.out.2.1.only ho5 HN.out.2.2
          have HE := Lib.hid (And.intro hD5 (And.intro hN5 (step_less HN.out.1.dok d)))
          clear hm5 ho5 hD5 hN5 HN
          go_wp2_with fail
          obtain ⟨wb, rfl⟩ : ∃ x, x = wr := ⟨_, rfl⟩
          go_loopw [12] (fun i wr => ∃ q : Nat, q ≤ 96 ∧ i = .int .i64 q ∧ Solo w wr g (stepS S d) ∧ RowN wr A2 CpT capRow 6 (capsF S 96)) (fun i _ => 96 - (intOf i).toNat)
          case atStart => exact ⟨0, by omega, rfl, HE.out.1, HE.out.2.1⟩
          case round =>
            obtain ⟨q, hq, rfl, hD, hN⟩ := hrel
            by_cases h96 : q < 96
            · have hIn : InS (q : Int) := ⟨by omega, by omega⟩
              have cC := pccap_is hD.mem (hD.dok.sok.cap_in hIn)
              obtain ⟨c, hc⟩ : ∃ c, Hid ((stepS S d).cap (q : Int) = c) := ⟨_, Lib.hid rfl⟩
              rw [hc.out] at cC
              have HG := Lib.hid (And.intro hD hN)
              have HQ := Lib.hid (And.intro hIn h96)
              have hq96 : (q : Int) < 96 := by omega
              clear hD hN hIn h96
              go_wp2_with fail
              (with_reducible refine cC.mono ?_)
              clear cC
              rintro e w5 ⟨rfl, hm5, ho5⟩
              have hD5 := HG.out.1.to hm5 HG.out.1.dok ho5
              have hN5 := HG.out.2.only ho5 (fun x cur hx hm => by
                simp at hm
                subst hm
                obtain ⟨cur', hg'⟩ := HG.out.1.mem.blkG
                exact absurd (hx.uniq hg').1 (by decide))
              clear hm5 ho5
              go_upto_region 18 with fail
              obtain ⟨w6, hw6⟩ : ∃ x, x = w5.alloc (.cells c.arr CpT) := ⟨_, rfl⟩
              have hD6 : Solo w w6 g (stepS S d) := hw6 ▸ hD5.only0 ((Only.refl [] _).alloc _)
              have hN6 : RowN w6 A2 CpT capRow 6 (capsF S 96) := hw6 ▸ hN5.only ((Only.refl [] _).alloc _) (fun _ _ _ => by simp)
              have hB6 : Blk w6 w5.heap.size CpT c.arr := hw6 ▸ Blk.new w5 CpT c.arr
              rw [← hw6]
              obtain ⟨n7, hn7⟩ : ∃ n7, Hid (w5.heap.size = n7) := ⟨_, Lib.hid rfl⟩
              rw [hn7.out] at hB6 ⊢
              clear hw6 hn7 hD5 hN5
              obtain ⟨l0, l1, l2, l3, l4, l5⟩ := hB6.cap
              have H6 := Lib.hid (And.intro hD6 (And.intro hN6 hB6))
              clear hD6 hN6 hB6
              by_cases hz : c.kind = 0
              · have hz' : (c.kind == 0) = true := by simp [hz]
                clear hz
                go_wp2_with fail
                exact ⟨⟨q + 1, by omega, by go_num, H6.out.1, H6.out.2.1⟩, by simp [intOf]; omega⟩
              · have hz' : (c.kind == 0) = false := by simp [hz]
                have HZ := Lib.hid hz
                clear hz
                go_wp2_with fail
                obtain ⟨wd, rfl⟩ : ∃ x, x = wr := ⟨_, rfl⟩
                go_loopw [14, 15] (fun bv i wr => ∃ j : Nat, j ≤ 96 ∧ i = .int .i64 j ∧ bv = .bool (metB c S j) ∧ Solo w wr g (stepS S d) ∧ RowN wr A2 CpT capRow 6 (capsF S 96) ∧ Blk wr n7 CpT c.arr) (fun _ i _ => 96 - (intOf i).toNat)
                case atStart => exact ⟨0, by omega, rfl, rfl, H6.out.1, H6.out.2.1, H6.out.2.2⟩
                case round =>
                  clear l0 l1 l2 l3 l4 l5
                  obtain ⟨j, hj, rfl, rfl, hD, hN, hB⟩ := hrel
                  by_cases h96 : j < 96
                  · obtain ⟨x, hx⟩ : ∃ x, Hid (S.cap (j : Int) = x) := ⟨_, Lib.hid rfl⟩
                    obtain ⟨G, cur, rfl, hGb, hGc⟩ := hN j x (by rw [capsF_get h96, hx.out])
                    have hGL := hGb.lt
                    have hBL := hB.lt
                    have hK : ∀ W, Only [] wr W → Only [] wr W ∧ W.cell? ⟨G, j * 6, none⟩ = some (.int .i64 x.kind) ∧ W.cell? ⟨G, j * 6 + 1, none⟩ = some (.int .i64 x.rights) ∧ W.cell? ⟨G, j * 6 + 2, none⟩ = some (.int .i64 x.obj) ∧ W.cell? ⟨G, j * 6 + 3, none⟩ = some (.int .i64 x.badge) ∧ W.cell? ⟨G, j * 6 + 4, none⟩ = some (.int .i64 x.guard) ∧ W.cell? ⟨G, j * 6 + 5, none⟩ = some (.int .i64 x.bits) ∧
                        W.cell? ⟨n7, 0, none⟩ = some (.int .i64 c.kind) ∧ W.cell? ⟨n7, 1, none⟩ = some (.int .i64 c.rights) ∧ W.cell? ⟨n7, 2, none⟩ = some (.int .i64 c.obj) ∧ W.cell? ⟨n7, 3, none⟩ = some (.int .i64 c.badge) ∧ W.cell? ⟨n7, 4, none⟩ = some (.int .i64 c.guard) ∧ W.cell? ⟨n7, 5, none⟩ = some (.int .i64 c.bits) := fun W o => by
                      have q := fun (f : Nat) (v : Value) (hv : (capRow x)[f]? = some v) => (o.cell (p := ⟨G, j * 6 + f, none⟩) hGL (by simp)).trans ((hGb.cell _).trans (hGc f v hv))
                      have q0 := q 0 _ rfl
                      rw [Nat.add_zero] at q0
                      exact ⟨o, q0, q 1 _ rfl, q 2 _ rfl, q 3 _ rfl, q 4 _ rfl, q 5 _ rfl, (o.blk hB (by simp)).cell 0, (o.blk hB (by simp)).cell 1, (o.blk hB (by simp)).cell 2, (o.blk hB (by simp)).cell 3, (o.blk hB (by simp)).cell 4, (o.blk hB (by simp)).cell 5⟩
                    have HKK := Lib.hid hK
                    have HS := Lib.hid (And.intro hD (And.intro hN hB))
                    have hj0 : (0 : Int) ≤ (j : Int) := by omega
                    have hj9 : (j : Int) < 96 := by omega
                    obtain ⟨-, m0, m1, m2, m3, m4, m5, l0, l1, l2, l3, l4, l5⟩ := hK wr (Only.refl _ _)
                    clear hD hN hB hGb hGc hK h96
                    obtain ⟨bm, hbm⟩ : ∃ bm, metB c S j = bm := ⟨_, rfl⟩
                    have hsucc : metB c S (j + 1) = (bm || (!(x.kind == 0) && withinB c x)) := by
                      rw [← hbm, ← hx.out]
                      rfl
                    rw [hbm]
                    have HM := Lib.hid hsucc
                    clear hsucc hbm
                    cases bm with
                    | true =>
                      go_upto_region 23 with fail
                      go_quiet (fail)
                      go_wp2_with fail
                      have o := fun n => (Only.refl [] wr).drewN n
                      exact ⟨⟨j + 1, by omega, by go_num, by rw [HM.out]; rfl, HS.out.1.only0 (o _), HS.out.2.1.only (o _) (fun _ _ _ => by simp), (o _).blk HS.out.2.2 (by simp)⟩, by simp [intOf]; omega⟩
                    | false =>
                      by_cases hxk : x.kind = 0
                      · have hxk' : (x.kind != 0) = false := by simp [hxk]
                        have hM : metB c S (j + 1) = false := by rw [HM.out]; simp [hxk]
                        have HMM := Lib.hid hM
                        clear hxk hM
                        go_upto_region 23 with fail
                        go_quiet (fail)
                        go_wp2_with fail
                        have o := fun n => (Only.refl [] wr).drewN n
                        exact ⟨⟨j + 1, by omega, by go_num, by rw [HMM.out], HS.out.1.only0 (o _), HS.out.2.1.only (o _) (fun _ _ _ => by simp), (o _).blk HS.out.2.2 (by simp)⟩, by simp [intOf]; omega⟩
                      · have hxk' : (x.kind != 0) = true := by simp [hxk]
                        obtain ⟨bw, hbw⟩ : ∃ bw, Hid (withinB c x = bw) := ⟨_, Lib.hid rfl⟩
                        have hM : metB c S (j + 1) = bw := by rw [HM.out, hbw.out]; simp [hxk]
                        have HMM := Lib.hid hM
                        have cWi : ∀ W : World, Calls Try.prog 9 #[c.v, x.v] W fun e w' => e = .returned (.bool bw) ∧ Only [] W w' := fun W => by
                          have q := within_any c W x
                          rwa [hbw.out] at q
                        have CW := Lib.hid cWi
                        have oy : Only [] wr wr.drew := (Only.refl _ _).drewN 1
                        clear hxk hM cWi
                        go_upto_region 23 with fail
                        go_region_held3 (fun W => Only [] wr W ∧ W.cell? ⟨G, j * 6, none⟩ = some (.int .i64 x.kind) ∧ W.cell? ⟨G, j * 6 + 1, none⟩ = some (.int .i64 x.rights) ∧ W.cell? ⟨G, j * 6 + 2, none⟩ = some (.int .i64 x.obj) ∧ W.cell? ⟨G, j * 6 + 3, none⟩ = some (.int .i64 x.badge) ∧ W.cell? ⟨G, j * 6 + 4, none⟩ = some (.int .i64 x.guard) ∧ W.cell? ⟨G, j * 6 + 5, none⟩ = some (.int .i64 x.bits) ∧
                            W.cell? ⟨n7, 0, none⟩ = some (.int .i64 c.kind) ∧ W.cell? ⟨n7, 1, none⟩ = some (.int .i64 c.rights) ∧ W.cell? ⟨n7, 2, none⟩ = some (.int .i64 c.obj) ∧ W.cell? ⟨n7, 3, none⟩ = some (.int .i64 c.badge) ∧ W.cell? ⟨n7, 4, none⟩ = some (.int .i64 c.guard) ∧ W.cell? ⟨n7, 5, none⟩ = some (.int .i64 c.bits))
                          (first | exact HKK.out _ oy | exact HKK.out _ ox | fail)
                          (first | ((with_reducible refine (CW.out _).mono ?_); rintro e w8 ⟨rfl, ho8⟩; have ox := oy.trans ho8) | fail)
                        all_goals
                          go_wp2_with fail
                          exact ⟨⟨j + 1, by omega, by go_num, by rw [HMM.out], HS.out.1.only0 ox, HS.out.2.1.only ox (fun _ _ _ => by simp), ox.blk HS.out.2.2 (by simp)⟩, by simp [intOf]; omega⟩
                  · obtain rfl : j = 96 := by omega
                    have hmet : metB c S 96 = true := by
                      obtain ⟨j, hj1, hj2, hj3⟩ := HE.out.2.2 q HQ.out.1 (by rw [hc.out]; exact HZ.out)
                      obtain ⟨jn, rfl⟩ : ∃ jn : Nat, j = jn := ⟨j.toNat, by have := hj1.1; omega⟩
                      rw [hc.out] at hj3
                      exact metB_yes hj2 hj3 96 (by have := hj1.2; omega)
                    rw [hmet]
                    have HF := Lib.hid (And.intro hD hN)
                    clear h96 hD hN hB hmet
                    go_wp2_with fail
                    exact ⟨⟨q + 1, by omega, by go_num, HF.out.1, HF.out.2⟩, by simp [intOf]; omega⟩
            · obtain rfl : q = 96 := by omega
              have HF := Lib.hid hD
              clear h96 hD hN
              go_wp2_with fail
              exact ⟨⟨k + 1, stepS S d, by have := HLT.out; omega, by go_num, HF.out⟩, by have := HLT.out; simp [intOf]; omega⟩
    · obtain rfl : k = LL.length := by omega
      have HD : Hid (∃ S, Solo w wr g S) := Lib.hid ⟨S, hD⟩
      clear hlt hD
      go_wp2_with fail
      obtain ⟨wo, rfl⟩ : ∃ x, x = wr := ⟨_, rfl⟩
      go_loopw [16] (fun i wr => ∃ (m : Nat) (S : RSt), i = .int .i64 m ∧ Solo w wr g S ∧ cntL S.par 96 + m ≤ 96) (fun i _ => 97 - (intOf i).toNat)
      case atStart =>
        obtain ⟨S, hS⟩ := HD.out
        exact ⟨0, S, rfl, hS, by have := cntL_le S.par 96; omega⟩
      case round =>
        clear HD
        obtain ⟨m, S, rfl, hD, hc⟩ := hrel
        have hm : (m : Int) < 97 := by omega
        have cO := done_is hD.mem hD.dok last
        rw [hD.dok.oneA last] at cO
        have HD := Lib.hid (And.intro hD hc)
        clear hD hc
        by_cases hi : InS last
        · rw [if_neg (fun e => e hi)] at cO
          by_cases hf : leafS S last = last
          · rw [if_pos hf] at cO
            rw [errV_nil] at cO
            clear hf hi
            go_wp2_with fail
            (with_reducible refine cO.mono ?_)
            clear cO
            rintro e w5 ⟨rfl, hm5, ho5⟩
            have HO := Lib.hid (HD.out.1.only.then ho5 (fun x hx => .inr (by have := HD.out.1.ng; simp at hx; omega)))
            clear hm5 ho5
            go_wp2_with fail
            go_ret
            exact ⟨rfl, HO.out⟩
          · rw [if_neg hf] at cO
            rw [errV_nil] at cO
            have HF := Lib.hid (And.intro hi hf)
            clear hf hi
            go_wp2_with fail
            (with_reducible refine cO.mono ?_)
            clear cO
            rintro e w5 ⟨rfl, hm5, ho5⟩
            have HO := Lib.hid (HD.out.1.to hm5 (HD.out.1.dok.one last) ho5)
            clear hm5 ho5
            go_wp2_with fail
            exact ⟨⟨m + 1, _, by go_num, HO.out, by have := one_fewer HD.out.1.dok HF.out.1 HF.out.2; have := HD.out.2; omega⟩, by simp [intOf]; omega⟩
        · rw [if_pos hi] at cO
          have hq : errV 2 = .iface 42 (.int .i64 2) := rfl
          rw [hq] at cO
          have HI : Hid ((decide (last < 0) || decide (95 < last)) = true) := Lib.hid (by unfold InS at hi; simp; omega)
          have hh : last < 0 ∨ 95 < last := by unfold InS at hi; omega
          have hQ := fun (a : Int) (W : World) => Lib.run_eql_iface_int (P := Try.prog) W (t := 34) (tx := 42) (k := .i64) 2 a Try.underlying34 (by kernel_rfl) Try.underlying42
          clear hi hq
          rcases hh with h0 | h9
          · go_wp2_with fail
            (with_reducible refine cO.mono ?_)
            clear cO
            rintro e w5 ⟨rfl, hm5, ho5⟩
            have HO := Lib.hid (HD.out.1.only.then ho5 (fun x hx => .inr (by have := HD.out.1.ng; simp at hx; omega)))
            clear hm5 ho5
            go_wp2_with fail
            go_ret
            exact ⟨rfl, HO.out⟩
          · have h0 : 0 ≤ last := by omega
            go_wp2_with fail
            (with_reducible refine cO.mono ?_)
            clear cO
            rintro e w5 ⟨rfl, hm5, ho5⟩
            have HO := Lib.hid (HD.out.1.only.then ho5 (fun x hx => .inr (by have := HD.out.1.ng; simp at hx; omega)))
            clear hm5 ho5
            go_wp2_with fail
            go_ret
            exact ⟨rfl, HO.out⟩
end Go.Proofs.Ytlhcigpllkigdaa
