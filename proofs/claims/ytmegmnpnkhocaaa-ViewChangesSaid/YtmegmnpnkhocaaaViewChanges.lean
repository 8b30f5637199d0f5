/- ViewChanges' walk: for all lists. -/
import Derived.Test.YtmegmnpnkhocaaaViewUp
import Derived.Test.YtmegmnpnkhocaaaViewN
import Derived.StillTailTactics
import Derived.Deep.DeepCutAuto
import Derived.Deep.RegionHeld3
namespace Go.Proofs.Ytmegmnpnkhocaaa
open Go.RowKit
def u64row (v : Int) : List Value := [.int .u64 v]
theorem infoU64 : (Try.prog.info? 23).map (fun i => (i.zero, i.size, i.bytes)) = some (some (.int .u64 0), 1, 8) := by kernel_rfl
theorem rowU_flat {w : World} {g : Nat} {t : TypeId} {L : List Int} (h : Blk w g t (flat u64row L)) : RowU w g t L :=
  ⟨_, h, fun k x hx => by simpa using flat_at (f := u64row) (n := 1) (j := 0) (fun _ => rfl) hx rfl⟩
theorem write_at {L : List Int} {g n : Nat} {t : TypeId} {w : World} (hn : L.length = n) (h : RowU w g t L) (cp : Nat) (i v : Int) : Calls Try.prog 9 #[.slice (some ⟨g, 0, none⟩) n cp, .int .i64 i, .int .u64 v] w fun e w' => e = .returned (.tuple #[]) ∧ RowU w' g t (setL L i v) ∧ Only [g] w w' := by
  subst hn
  refine (write_any cp w h i v).mono ?_
  rintro e w' ⟨rfl, rfl⟩
  exact ⟨rfl, h.wr i v, wrW_only _ _ _ _ _⟩
theorem read_at {A : Option Addr} {L : List Int} {n : Nat} {w : World} {i x : Int} (hn : L.length = n) (h : Wds w A L) (cp : Nat) (hx : atL L i = x) : Calls Try.prog 7 #[.slice A n cp, .int .i64 i] w fun e w' => e = .returned (.int .u64 x) ∧ w' = w := by
  subst hn
  exact read_is cp w h hx
section
variable {A B : Option Addr} {LA LB : List Int}
set_option maxRecDepth 100000 in
set_option maxHeartbeats 4000000 in
theorem changes_any (ca cb : Nat) (w : World) (hA : Wds w A LA) (hB : Wds w B LB) (hla : LA.length ≤ 9223372036854775807) (hlb : LB.length ≤ 9223372036854775807) :
    Calls Try.prog 4 #[.slice A LA.length ca, .slice B LB.length cb] w fun e w' => e = .returned (.bool true) ∧ Only [] w w' := by
  by_cases h1 : 200 < LA.length
  · go_enter Try.func4, Try.ntmps4
    go_wp2_with fail
    (with_reducible refine (up_any _).mono ?_); rintro e w1 ⟨rfl, ho1⟩
    go_wp2_with fail
    go_ret
    exact ⟨rfl, ho1⟩
  have h1' : LA.length ≤ 200 := by omega
  clear h1
  by_cases h2 : 200 < LB.length
  · go_enter Try.func4, Try.ntmps4
    go_wp2_with fail
    (with_reducible refine (up_any _).mono ?_); rintro e w1 ⟨rfl, ho1⟩
    go_wp2_with fail
    go_ret
    exact ⟨rfl, ho1⟩
  have h2' : LB.length ≤ 200 := by omega
  clear h2
  obtain ⟨M, hM⟩ : ∃ M, Hid (M = max LA.length LB.length) := ⟨_, Lib.hid rfl⟩
  have hMl : M ≤ 200 := by have := hM.out; omega
  have hmk := Lib.hid fun W : World => run_makeN (P := Try.prog) (t := 22) (f := u64row) 0 infoU64 Try.underlying22 (fun _ => rfl) (by omega) rfl .i64 .i64 M M (by omega) (by omega) (by omega) (by omega) W
  go_enter Try.func4, Try.ntmps4
  go_wp2_with fail
  (with_reducible refine (up_any _).mono ?_); rintro e w1 ⟨rfl, ho1⟩
  go_upto_if 27 with fail
  go_cut [6] (fun n W => n = .int .i64 M ∧ W = w1)
  case first =>
    go_wp2_with fail
    all_goals go_meet
    · exact ⟨by have := hM.out; simp; omega, rfl⟩
    · exact ⟨by have := hM.out; simp; omega, rfl⟩
  case rest =>
    obtain ⟨rfl, hw⟩ := hcut
    replace hw := hw.symm
    subst hw
    have hsz := ho1.size
    go_wp2_with fail
    rw [hmk.out]
    have hrow : RowU (w1.alloc (.cells (flat u64row (List.replicate ((M : Int).toNat) 0)) 23)) w1.heap.size 23 (List.replicate M 0) := by
      have := rowU_flat (Blk.new w1 23 (flat u64row (List.replicate ((M : Int).toNat) 0)))
      rwa [Int.toNat_natCast] at this
    have ho2 : Only [] w (w1.alloc (.cells (flat u64row (List.replicate ((M : Int).toNat) 0)) 23)) := ho1.alloc _
    go_wp2_with fail
    go_loopw [8] (fun i wr => ∃ k : Nat, k ≤ LA.length ∧ i = .int .i64 k ∧ RowU wr w1.heap.size 23 (putAll (rngF LA 0 k) (List.replicate M 0)) ∧ Only [] w wr) (fun i _ => LA.length - (intOf i).toNat)
    case atStart => exact ⟨0, by omega, rfl, hrow, ho2⟩
    case round =>
      obtain ⟨k, hk, rfl, hP, ho⟩ := hrel
      have hPl : (putAll (rngF LA 0 k) (List.replicate M 0)).length = M := by rw [putAll_length]; simp
      have hAx := hA.only0 ho
      have hBx := hB.only0 ho
      have hgl := hP.lt
      by_cases hlt : k < LA.length
      · obtain ⟨x, hx⟩ : ∃ x, LA[k]? = some x := ⟨_, List.getElem?_eq_getElem hlt⟩
        obtain ⟨b, off, rfl, hb, hc⟩ := hAx k x hx
        have hax := Lib.hid (atL_in hx)
        have hP' := Lib.hid hP
        have hPl' := Lib.hid hPl
        clear hx hP hPl hA hAx hB hBx hrow ho2 ho1
        go_wp2_with (go_at_call 9; (with_reducible refine (write_at hPl'.out hP'.out _ _ _).mono ?_); rintro e w' ⟨rfl, hP2, ho2⟩)
        go_round
        case rel =>
          refine ⟨k + 1, by omega, by go_num, ?_, ho.then ho2 (fun y hy => .inr (by simp at hy; omega))⟩
          rw [rngF_succ, putAll_snoc]
          simpa [hax.out] using hP2
        case measure => simp [intOf]; omega
      · have hk' : k = LA.length := by omega
        subst hk'
        obtain ⟨R, hR⟩ : ∃ R, Hid (chgL LA LB = R) := ⟨_, Lib.hid rfl⟩
        obtain ⟨P1, hP1⟩ : ∃ P1, Hid (P1 = putAll (rngF LA 0 LA.length) (List.replicate M 0)) := ⟨_, Lib.hid rfl⟩
        rw [← hP1.out] at hP hPl
        obtain ⟨wb, rfl⟩ : ∃ x, x = wr := ⟨_, rfl⟩
        go_wp2_with fail
        (with_reducible refine (changed_is ca cb _ hAx hBx (by omega) (by omega) hR.out).mono ?_); rintro e w3 ⟨C, cap, rfl, hC, ho3⟩
        clear hAx hBx
        replace hP := hP.only ho3 (by simp)
        replace ho := ho.trans ho3
        go_wp2_with fail
        have hRm : R.length ≤ 200 := by
          rw [← hR.out]
          have h1 := chg_length LA (rngF LB 0 (max LA.length LB.length))
          rw [rngF_length] at h1
          unfold chgL
          omega
        go_loopw [10] (fun i wx => ∃ k : Nat, k ≤ R.length ∧ i = .int .i64 k ∧ RowU wx w1.heap.size 23 (putAll (R.take k) P1) ∧ Prs wx wb.heap.size C R .u64 ∧ Only [] w wx) (fun i _ => R.length - (intOf i).toNat)
        case atStart => exact ⟨0, by omega, rfl, by simpa [putAll] using hP, hC, ho⟩
        case round =>
          obtain ⟨k, hk, rfl, hP, hC, ho⟩ := hrel
          have hPl2 : (putAll (R.take k) P1).length = M := by rw [putAll_length]; exact hPl
          have hAx := hA.only0 ho
          have hBx := hB.only0 ho
          by_cases hlt : k < R.length
          · obtain ⟨⟨pi, pv⟩, hp⟩ : ∃ p, R[k]? = some p := ⟨_, List.getElem?_eq_getElem hlt⟩
            obtain ⟨b, rfl, hbB, hbl, hc0, hc1⟩ := hC k _ hp
            have hm := chgL_mem.1 (show (pi, pv) ∈ chgL LA LB by rw [hR.out]; exact List.mem_of_getElem? hp)
            obtain ⟨⟨hm0, hm1⟩, hm2, hm3⟩ := hm
            rw [← hM.out] at hm1
            simp only at hm0 hm1 hm2 hm3 hc0 hc1
            obtain ⟨y, hy⟩ : ∃ y, Hid (atL LA pi = y) := ⟨_, Lib.hid rfl⟩
            rw [hy.out] at hm3
            have hm2' := Lib.hid hm2
            have hP' := Lib.hid hP
            have hPl2' := Lib.hid hPl2
            have hC' := Lib.hid hC
            have hp' := Lib.hid hp
            have ho' := Lib.hid ho
            have hbg : b ≠ w1.heap.size := by omega
            have hne : ¬ y = pv := fun h => hm3 h.symm
            have t1 : decide (pi < 0) = false := by simp; omega
            have t2 : decide ((M : Int) ≤ pi) = false := by simp; omega
            clear hm2 hm3 hP hPl2 hC hp ho
            have ki : (k : Int) < (R.length : Int) := by omega
            go_upto_region 16 with fail
            go_cut [101] (fun c wx => c = .bool false ∧ ∃ n, wx = wr.drewN n)
            case first =>
              by_cases h0 : 0 < k
              · obtain ⟨⟨qi, qv⟩, hq⟩ : ∃ p, R[k - 1]? = some p := ⟨_, List.getElem?_eq_getElem (by omega)⟩
                obtain ⟨b2, e2, -, -, hd0, -⟩ := hC'.out _ _ hq
                have hqp : qi < pi := chgL_lt (A := LA) (B := LB) (i := k - 1) (j := k) (by omega) (by rw [hR.out]; exact hq) (by rw [hR.out]; exact hp'.out)
                injection e2 with e2
                injection e2 with e2 _ _
                subst e2
                simp only at hd0
                have t3 : decide (pi ≤ qi) = false := by simp; omega
                have k1 : (0 : Int) ≤ (k : Int) - 1 := by omega
                have k2 : (k : Int) - 1 < (R.length : Int) := by omega
                have k5 : (1 : Int) ≤ (k : Int) := by omega
                have k6 : 1 ≤ k := by omega
                have k3 : ((k : Int) - 1).toNat = k - 1 := by omega
                have k4 : IntKind.i64.wrap ((k : Int) - 1) = (k : Int) - 1 := IntWalk.i64_in _ (by omega)
                clear hq
                go_quiet ((go_at_call 8; exact Calls.quiet_of_same (at_is ca _ (hAx.drewN _) hy.out)))
                go_wp2_with fail
                go_meet
                exact ⟨by simp [hne], _, rfl⟩
              · obtain rfl : k = 0 := by omega
                clear h0
                simp only [Nat.zero_mul, Nat.zero_add] at hc0 hc1
                go_quiet ((go_at_call 8; exact Calls.quiet_of_same (at_is ca _ (hAx.drewN _) hy.out)))
                go_wp2_with fail
                go_meet
                exact ⟨by simp [hne], _, rfl⟩
            case rest =>
              obtain ⟨rfl, nq, hw⟩ := hcut
              have hc0 := (show (wr.drewN nq).cell? _ = _ from hc0)
              have hc1 := (show (wr.drewN nq).cell? _ = _ from hc1)
              have hP2 := Lib.hid (hw ▸ hP'.out.drewN nq)
              have hC2 := Lib.hid (hw ▸ hC'.out.drewN nq)
              have ho2 := Lib.hid (hw ▸ ho'.out.drewN nq)
              rw [← hw] at hc0 hc1
              clear hw hP' hC' ho'
              go_wp2_with fail
              obtain ⟨wd, rfl⟩ : ∃ x, x = wc := ⟨_, rfl⟩
              go_still_tail 11, (by kernel_rfl)
              change wpList _ _ _ _ _ wd.drew
              have hc0 := (show wd.drew.cell? _ = _ from hc0)
              have hc1 := (show wd.drew.cell? _ = _ from hc1)
              have hP2 := Lib.hid (show RowU wd.drew _ _ _ from hP2.out)
              have hC2 := Lib.hid (show Prs wd.drew _ _ _ _ from hC2.out)
              have ho2 := Lib.hid (show Only [] w wd.drew from ho2.out.drew)
              generalize wd.drew = we at hc0 hc1 hP2 hC2 ho2 ⊢
              go_wp2_with (go_at_call 9; (with_reducible refine (write_at hPl2'.out hP2.out _ _ _).mono ?_); rintro e w' ⟨rfl, hP3, ho3⟩)
              refine ⟨⟨k + 1, by omega, by go_num, ?_, hC2.out.only ho3 (fun y hy => by simp at hy; omega), ho2.out.then ho3 (fun y hy => .inr (by simp at hy; omega))⟩, by simp [intOf]; omega⟩
              rw [List.take_add_one, hp'.out]
              simpa [putAll_snoc] using hP3
          · have hk' : k = R.length := by omega
            subst hk'
            rw [List.take_length] at hP hPl2
            have hall : ∀ j : Int, 0 ≤ j ∧ j < (M : Int) → atL (putAll R P1) j = atL LB j := fun j hj => by
              rw [hP1.out, ← hR.out, hM.out]
              exact becomes LA LB j (by rw [← hM.out]; exact hj)
            obtain ⟨wd, rfl⟩ : ∃ x, x = wr := ⟨_, rfl⟩
            have hPw := Lib.hid hP.wds
            have hPl3 := Lib.hid hPl2
            have hal := Lib.hid hall
            clear hP hPl2 hall hC hAx
            go_wp2_with fail
            go_loopw [11] (fun i wx => ∃ k : Nat, k ≤ M ∧ i = .int .i64 k ∧ wx = wd) (fun i _ => M - (intOf i).toNat)
            case atStart => exact ⟨0, by omega, rfl, rfl⟩
            case round =>
              obtain ⟨k, hk, rfl, rfl⟩ := hrel
              by_cases hlt : k < M
              · obtain ⟨x, hx⟩ : ∃ x, Hid (atL LB k = x) := ⟨_, Lib.hid rfl⟩
                have hx2 := Lib.hid ((hal.out k ⟨by omega, by omega⟩).trans hx.out)
                go_wp2_with (first
                  | (go_at_call 7; (with_reducible refine (read_at hPl3.out hPw.out _ hx2.out).mono ?_); rintro e w' ⟨rfl, rfl⟩)
                  | (go_at_call 8; (with_reducible refine (at_is cb _ hBx hx.out).mono ?_); rintro e w' ⟨rfl, rfl⟩))
                go_round
                case rel => exact ⟨k + 1, by omega, by go_num, by first | rfl | trivial⟩
                case measure => simp [intOf]; omega
              · go_wp2_with fail
                go_ret
                exact ⟨rfl, ho⟩
end
end Go.Proofs.Ytmegmnpnkhocaaa
