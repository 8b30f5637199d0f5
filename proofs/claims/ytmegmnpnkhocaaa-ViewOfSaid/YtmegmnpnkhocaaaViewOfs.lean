/- ViewOf's walk: for all lists. -/
import Derived.Test.YtmegmnpnkhocaaaViewUp
import Derived.Test.YtmegmnpnkhocaaaViewOf
import Derived.Test.YtmegmnpnkhocaaaIntsA
import Derived.StillTailTactics
import Derived.Deep.DeepCutAuto
namespace Go.Proofs.Ytmegmnpnkhocaaa
open Go.RowKit Go.Maps
theorem only_grown {S : List Nat} {a w w' : World} {row : Option Nat} (h : Only S a w) (hg : w.grownBy w' row) (hr : ∀ j, row = some j → a.heap.size ≤ j) : Only S a w' :=
  ⟨hg.os.trans h.os, hg.tape.trans h.tape, hg.output.trans h.output, Nat.le_trans h.size hg.size, fun k hk hn => (hg.block k (Nat.lt_of_lt_of_le hk h.size) (fun e => by have := hr k e.symm; omega)).trans (h.block k hk hn)⟩
section
variable {A B : Option Addr} {P Q : List Int}
set_option maxRecDepth 100000 in
set_option maxHeartbeats 4000000 in
theorem ofs_any (cp cq : Nat) (w : World) (hP : Ints w A P) (hQ : Ints w B Q) (hp : P.length ≤ 9223372036854775807) (hq : Q.length ≤ 9223372036854775807) :
    Calls Try.prog 5 #[.slice A P.length cp, .slice B Q.length cq] w fun e w' => e = .returned (.bool true) ∧ Only [] w w' := by
  by_cases h1 : 100 < P.length
  · go_enter Try.func5, Try.ntmps5
    go_wp2_with fail
    (with_reducible refine (up_any _).mono ?_); rintro e w1 ⟨rfl, ho1⟩
    go_wp2_with fail
    go_ret
    exact ⟨rfl, ho1⟩
  have h1' : P.length ≤ 100 := by omega
  clear h1
  by_cases h2 : Q.length < P.length
  · go_enter Try.func5, Try.ntmps5
    go_wp2_with fail
    (with_reducible refine (up_any _).mono ?_); rintro e w1 ⟨rfl, ho1⟩
    go_wp2_with fail
    go_ret
    exact ⟨rfl, ho1⟩
  have h2' : P.length ≤ Q.length := by omega
  clear h2
  have hmm := @run_makeMap Try.prog
  go_enter Try.func5, Try.ntmps5
  go_wp2_with fail
  (with_reducible refine (up_any _).mono ?_); rintro e w1 ⟨rfl, ho1⟩
  go_wp2_with fail
  clear hmm
  go_loopw [7] (fun i wr => ∃ (k : Nat) (D : DataW Nat), k ≤ P.length ∧ i = .int .i64 k ∧ wr.ownsMap Try.prog 3 (plainElem Try.prog 3) w1.heap.size k D ∧ Only [] w wr) (fun i _ => P.length - (intOf i).toNat)
  case atStart => exact ⟨0, .map [], by omega, rfl, World.ownsMap_made _ _ _ _, ho1.alloc _⟩
  case round =>
    obtain ⟨k, D, hk, rfl, hown, ho⟩ := hrel
    have hsz := ho1.size
    have hPx := hP.only ho
    have hQx := hQ.only ho
    by_cases hlt : k < P.length
    · obtain ⟨x, hx⟩ : ∃ x, P[k]? = some x := ⟨_, List.getElem?_eq_getElem hlt⟩
      obtain ⟨y, hy⟩ : ∃ y, Q[k]? = some y := ⟨_, List.getElem?_eq_getElem (by omega)⟩
      have hxw := hP.ok k x hx
      have hyw := hQ.ok k y hy
      obtain ⟨pb, po, rfl, hpb, hpc⟩ := hPx.at_ k x hx
      obtain ⟨qb, qo, rfl, hqb, hqc⟩ := hQx.at_ k y hy
      have hkey : keyOf Try.prog 3 (.int .i64 x) = some (.int .i64 x) := keyOf_int_mk Try.underlying3 hxw
      have hlt2 : k < Q.length := by omega
      clear hx hy hP hQ hPx hQx ho1
      go_wp2_with fail
      go_still_tail 9, (by kernel_rfl)
      change wpList _ _ _ _ _ wr.drew
      have hpc := (show wr.drew.cell? _ = _ from hpc)
      have hqc := (show wr.drew.cell? _ = _ from hqc)
      have hown := hown.drew
      have ho := ho.drew
      generalize wr.drew = we at hpc hqc hown ho ⊢
      go_wp2_with (at_mapUpdate; refine wpList_mapUpdate_own _ rfl _ _ _ 39 rfl 3 3 (int_keyed Try.underlying3) Try.underlying39 _ w1.heap.size k _ rfl hown (by unfold maxLen; omega) _ _ _ rfl rfl hkey _ [] (plainElem_int Try.underlying3 hyw) ?_; intro w2 hown2 hgrow2)
      have ho2 := only_grown ho hgrow2 (fun j e => by cases e; exact hsz)
      have hd : decide (Q.length < P.length) = false := by simp; omega
      simp only [hd, Bool.or_false]
      refine ⟨⟨.int .i64 ((k : Int) + 1), _, _, _, _, _, _, _, _, _, _, _, _, _, _, _, ⟨k + 1, _, by omega, by go_num, hown2, ho2⟩, rfl⟩, ?_⟩
      simp [intOf]
      omega
    · obtain rfl : k = P.length := by omega
      have hD := hown.size_le
      obtain ⟨wb, rfl⟩ : ∃ x, x = wr := ⟨_, rfl⟩
      have hbl := hown.lt
      go_wp2_with fail
      refine (of_any w1.heap.size _ D wb hown (by omega)).mono ?_
      rintro e w3 ⟨v, ks, rfl, hK, hr, hb⟩
      obtain ⟨C, cap, rfl, hC⟩ := prs_of_owns hr
      have hRc : (prsD D ks).length = Maps.size D := by rw [prsD, List.length_map]; exact hK.len
      obtain ⟨R, hR⟩ : ∃ R, Hid (R = prsD D ks) := ⟨_, Lib.hid rfl⟩
      rw [← hR.out] at hC hRc ⊢
      obtain ⟨c, hc⟩ : ∃ c, Hid (c = R.length) := ⟨_, Lib.hid rfl⟩
      rw [← hc.out] at hRc ⊢
      have hown3 := ownsMap_below hown hb hbl
      have ho3 := ho.trans (Only.of_below hb [])
      have hlen := hown3.len Try.underlying39 3
      rw [← hRc] at hlen
      have hcl : c ≤ 100 := by omega
      have hKh := Lib.hid hK
      have hRc' := Lib.hid hRc
      clear hr hb hown hRc hD hK hP hQ hPx hQx ho ho1
      go_wp2_with fail
      clear hlen
      go_loopw [9] (fun i wx => ∃ (k n : Nat), k ≤ c ∧ i = .int .i64 k ∧ wx = w3.drewN n) (fun i _ => c - (intOf i).toNat)
      case atStart => exact ⟨0, 0, by omega, rfl, rfl⟩
      case round =>
        obtain ⟨k, nd, hk, rfl, hwx⟩ := hrel
        have hown := Lib.hid (show (w3.drewN nd).ownsMap Try.prog 3 (plainElem Try.prog 3) w1.heap.size P.length D from hown3)
        have hC3 := hC.drewN nd
        have ho4 := ho3.drewN nd
        rw [← hwx] at hown hC3 ho4
        have hWX := Lib.hid hwx
        clear hwx hown3 hC ho3
        by_cases hlt : k < c
        · have hkR : k < R.length := by rw [← hc.out]; exact hlt
          have hkK : k < ks.length := by have := hKh.out.len; have := hRc'.out; omega
          obtain ⟨x, hx⟩ : ∃ x, ks[k]? = some x := ⟨_, List.getElem?_eq_getElem hkK⟩
          have hp : R[k]? = some (x, valD D x) := by rw [hR.out, prsD, List.getElem?_map, hx]; rfl
          obtain ⟨b, rfl, hbB, hbl, hc0, hc1⟩ := hC3 k _ hp
          simp only at hc0 hc1
          obtain ⟨y, hy⟩ : ∃ y, Hid (valD D x = y) := ⟨_, Lib.hid rfl⟩
          rw [hy.out] at hc1
          have hkey : keyOf Try.prog 3 (.int .i64 x) = some (.int .i64 x) := keyOf_int_mk Try.underlying3 (hKh.out.wf x (List.mem_of_getElem? hx))
          have hhas := hKh.out.has x (List.mem_of_getElem? hx)
          have hx' := Lib.hid hx
          have hC3' := Lib.hid hC3
          have ho4' := Lib.hid ho4
          clear hx hp hC3 ho4
          go_wp2_with (at_lookup; refine wpList_lookup_own_ok_int _ rfl _ _ 39 rfl 3 3 .i64 (int_keyed Try.underlying3) Try.underlying39 Try.underlying3 (zeroI _) w1.heap.size P.length D rfl hown.out _ _ rfl hkey ?_; intro cv hat hwc; have hcv : cv = y := (valD_is hat).trans hy.out)
          go_cut [91] (fun f wx => f = .bool false ∧ ∃ n, wx = wr.drewN n)
          case first =>
            have ki : (k : Int) < (c : Int) := by omega
            by_cases h0 : 0 < k
            · obtain ⟨z, hz⟩ : ∃ z, ks[k - 1]? = some z := ⟨_, List.getElem?_eq_getElem (by omega)⟩
              have hzp : R[k - 1]? = some (z, valD D z) := by rw [hR.out, prsD, List.getElem?_map, hz]; rfl
              obtain ⟨b2, e2, -, -, hd0, -⟩ := hC3'.out _ _ hzp
              have hzx : z < x := by
                have h := List.pairwise_iff_getElem.1 hKh.out.rises (k - 1) k (by omega) hkK (by omega)
                rwa [(List.getElem?_eq_some_iff.1 hz).2, (List.getElem?_eq_some_iff.1 hx'.out).2] at h
              injection e2 with e2
              injection e2 with e2 _ _
              subst e2
              simp only at hd0
              have t3 : decide (x ≤ z) = false := by simp; omega
              have k1 : (0 : Int) ≤ (k : Int) - 1 := by omega
              have k2 : (k : Int) - 1 < (c : Int) := by omega
              have k5 : (1 : Int) ≤ (k : Int) := by omega
              have k6 : 1 ≤ k := by omega
              have k3 : ((k : Int) - 1).toNat = k - 1 := by omega
              have k4 : IntKind.i64.wrap ((k : Int) - 1) = (k : Int) - 1 := IntWalk.i64_in _ (by omega)
              clear hz hzp
              go_quiet (fail)
              go_wp2_with fail
              go_meet
              exact ⟨rfl, _, rfl⟩
            · obtain rfl : k = 0 := by omega
              clear h0
              simp only [Nat.zero_mul, Nat.zero_add] at hc0 hc1
              go_quiet (fail)
              go_wp2_with fail
              go_meet
              exact ⟨rfl, _, rfl⟩
          case rest =>
            obtain ⟨rfl, nq, hw⟩ := hcut
            have hWc := Lib.hid (hw.trans (by rw [hWX.out]) : wc = (w3.drewN nd).drewN nq)
            clear hw
            go_wp2_with fail
            refine ⟨⟨k + 1, nd + nq, by omega, by go_num, by rw [hWc.out, World.drewN_drewN]⟩, by simp [intOf]; omega⟩
        · go_wp2_with fail
          go_ret
          exact ⟨rfl, ho4⟩
end
end Go.Proofs.Ytmegmnpnkhocaaa
