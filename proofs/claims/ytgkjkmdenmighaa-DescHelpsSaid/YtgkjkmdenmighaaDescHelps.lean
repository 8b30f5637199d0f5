/- DescHelps' walk: for every number of cells, every lists of entries, every steps it answers true (layer 7). -/
import Derived.Test.YtgkjkmdenmighaaDescHelpsO
import Derived.Test.YtgkjkmdenmighaaDescCrew
import Derived.Test.YtgkjkmdenmighaaRising
import Derived.Test.YtgkjkmdenmighaaIntsA
import Derived.Test.YtgkjkmdenmighaaCellEq
import Derived.Deep.AppendLies
import Derived.Deep.RegionHeld3
import Derived.Deep.CutBlock
namespace Go.Proofs.Ytgkjkmdenmighaa
open Go.RowKit
theorem infoPD : (Try.prog.info? 38).map (fun i => (i.zero, i.size, i.bytes)) = some (some (.pointer none), 1, 8) := by kernel_rfl
section
variable {B J : Option Addr} {Ls : List (List En)} {Xs : List Int}
set_option maxRecDepth 100000 in
set_option maxHeartbeats 8000000 in
theorem helps_any (cp cq : Nat) (cells : Int) (w : World) (hL : EntLists w B Ls) (hX : Ints w J Xs) (hl : Ls.length ≤ 9223372036854775807) (hx : Xs.length ≤ 9223372036854775807) :
    Calls Try.prog 4 #[.int .i64 cells, .slice B Ls.length cp, .slice J Xs.length cq] w fun e w' => e = .returned (.bool true) ∧ Only [] w w' := by
  by_cases h1 : cells < 1
  · exact helps_out cp cq Ls.length Xs.length cells w (by omega)
  by_cases h2 : 30 < cells
  · exact helps_out cp cq Ls.length Xs.length cells w (by omega)
  by_cases h4 : Ls.length < 1
  · exact helps_out cp cq Ls.length Xs.length cells w (by omega)
  by_cases h5 : 6 < Ls.length
  · exact helps_out cp cq Ls.length Xs.length cells w (by omega)
  by_cases h6 : 300 < Xs.length
  · exact helps_out cp cq Ls.length Xs.length cells w (by omega)
  replace h1 : 1 ≤ cells := by omega
  replace h2 : cells ≤ 30 := by omega
  replace h4 : 1 ≤ Ls.length := by omega
  replace h5 : Ls.length ≤ 6 := by omega
  replace h6 : Xs.length ≤ 300 := by omega
  obtain ⟨N, rfl⟩ : ∃ N : Nat, cells = N := ⟨cells.toNat, by omega⟩
  have hmk := Lib.hid fun W : World => run_makeN (P := Try.prog) (t := 32) (C.mk 0 0 0) infoCell Try.underlying32 C.row_len (by omega) rfl .i64 .i64 (N : Int) (N : Int) (by omega) (by omega) (by omega) (by omega) W
  simp only [Int.toNat_natCast] at hmk
  have HL := Lib.hid hL
  have HI := Lib.hid hX
  clear hL hX
  go_enter Try.func4, Try.ntmps4
  go_wp2_with fail
  (with_reducible refine (up_any _).mono ?_)
  rintro e w1 ⟨rfl, ho1⟩
  go_wp2_with fail
  refine (new_good (N : Int) 1000 w1 h1 (by omega) (by omega) (by omega)).mono ?_
  rintro e wd ⟨rfl, hs2, ho2⟩
  rw [codeV0]
  simp only [Int.toNat_natCast] at hs2
  have HW := Lib.hid (And.intro hs2 (ho1.trans ho2))
  have hz1 : w.heap.size ≤ w1.heap.size := ho1.size
  have hz12 : w1.heap.size + 1 < wd.heap.size := hs2.head.lt
  clear ho1 ho2 hs2
  obtain ⟨iD, hiD, hzD0, hzD1, hzD2⟩ := info_parts infoPD
  go_wp2_with fail
  go_loopw [10, 11, 12] (fun dv tv i wr => ∃ (k : Nat) (Ps : List Nat), k ≤ Ls.length ∧ i = .int .i64 k ∧ tv = .int .i64 ((Phi ((made Ls).take k) : Nat) + 1) ∧ Phi ((made Ls).take k) ≤ 61 * k ∧ wr.ownsRow wd.heap.size 38 1 dv k (Ps.flatMap ptr) ∧
    Crowd wr DT ET En.row 5 Ps ((made Ls).take k) ∧ Only [] wd wr ∧ (∀ x ∈ Ps, wd.heap.size ≤ x) ∧ (∀ (j : Nat) (L : List En), j < k → Ls[j]? = some L → Rising N L)) (fun _ _ i _ => Ls.length - (intOf i).toNat)
  case atStart => exact ⟨0, [], by omega, rfl, rfl, by simp [Phi], World.ownsRow_nil _ _ _ _, Crowd.nil _ _ _ _ _, Only.refl _ _, by simp, fun j L hj => absurd hj (by omega)⟩
  case round =>
    obtain ⟨k, Ps, hk, rfl, rfl, hPhi, hrD, hcD, ho, hPs, hRise⟩ := hrel
    have hwo := ho.size
    by_cases hlt : k < Ls.length
    · obtain ⟨L, hLk⟩ : ∃ L, Ls[k]? = some L := ⟨_, List.getElem?_eq_getElem hlt⟩
      have how := HW.out.2.trans ho
      obtain ⟨b, off, A, cap, hB, hb, hc0, hrows0⟩ := HL.out k L hLk
      subst hB
      have hc := (how.cell (p := ⟨b, off + k, none⟩) hb (by simp)).trans hc0
      have hrows := hrows0.only0 how
      have HK := Lib.hid (And.intro hLk (And.intro hrows0 (And.intro hb hc0)))
      have cR := rising_any (w := wr) cap (cells := (N : Int)) (by omega) hrows
      have HX := Lib.hid (And.intro hrD (And.intro hcD (And.intro ho (And.intro hPs (And.intro hRise hPhi)))))
      clear hrows0 hc0 hb hLk hrD hcD ho hPs hRise how hrows
      go_wp2_with fail
      refine cR.mono ?_
      clear cR
      rintro e w3 ⟨⟨bb, rfl, hbb⟩, ho3⟩
      cases bb with
      | false =>
        go_wp2_with fail
        go_ret
        exact ⟨rfl, (HW.out.2.trans HX.out.2.2.1).trans ho3⟩
      | true =>
       as_aux_lemma =>
        have hrise : Rising N L := by simpa using hbb rfl
        have hlen := hrise.length
        obtain ⟨hrD, hcD, ho, hPs, hRise, hPhi⟩ := HX.out
        have ho' := ho.trans ho3
        have how := HW.out.2.trans ho'
        have hc3 := (how.cell (p := ⟨b, off + k, none⟩) HK.out.2.2.1 (by simp)).trans HK.out.2.2.2
        have hcD3 := hcD.only0 ho3
        have hrD3 := owns_only0 hrD ho3
        have cN := desc_new (w := w3) cap ((k : Int) + 1) (by omega) (HK.out.2.1.only0 how) (by omega)
        have HX := Lib.hid (And.intro hrD3 (And.intro hcD3 (And.intro ho' (And.intro hPs (And.intro hRise hPhi)))))
        clear hbb hrD hcD ho hPs hRise ho' how hcD3 hrD3 hc ho3
        go_wp2_with fail
        refine cN.mono ?_
        clear cN
        rintro e w4 ⟨p, A4, cap4, rfl, hp, hd, ho4⟩
        obtain ⟨hrD3, hcD3, ho', hPs, hRise, hPhi⟩ := HX.out
        have hcD4 := hcD3.push ho4 hd hp
        rw [made_take HK.out.1] at hcD4
        have hrD4 := owns_only0 hrD3 ho4
        have ho4' := ho'.trans ho4
        have hz3 := ho'.size
        have hz4 := ho4'.size
        have hPk : Phi ((made Ls).take (k + 1)) = Phi ((made Ls).take k) + (2 * L.length + 1) := by rw [← made_take HK.out.1, Phi_push, phi_new]
        have HX4 := Lib.hid (And.intro hcD4 (And.intro ho4' (And.intro hPs (And.intro hRise (And.intro hPk (And.intro hrise hp))))))
        clear hrD3 hcD3 ho' hPs hRise hcD4 ho4' hPk hrise HX hd ho4 hc3
        go_wp2_with (at_builtin; refine wpList_append_lies _ (by rfl) _ _ 35 (by rfl) wd.heap.size 38 iD (.pointer none) 1 8 Try.underlying35 hiD hzD0 hzD1 hzD2 rfl (by omega) u10 k _ (by rfl) (hrD4.alloc _) ⟨w4.heap.size, 0, none⟩ 1 1 (ptr p) (by rfl) (by rfl) (World.news_of_block (cs := (ptr p).toArray) (t := 38) (fr := (0, 0)) (heap_alloc_new w4 _)) (by simp [Value.oneCell', ptr]) (by omega) (by unfold maxLen; omega) (by omega) (by simp; omega) (w4.heap.size + 1) (by simp) ?_; intro g5 cap5 w5 hrow5 hgrow5 hat5 hlt5)
        obtain ⟨hcD4, ho4', hPs, hRise, hPk, hrise, hp⟩ := HX4.out
        have hal : Only [] w4 (w4.alloc (.cells #[.pointer (some ⟨p, 0, none⟩)] 38)) := (Only.refl _ _).alloc _
        refine ⟨⟨k + 1, Ps ++ [p], by omega, by go_num, ?_, by omega, by simpa using hrow5, grown_crowd (hcD4.only0 hal) (hrD4.alloc _) hgrow5 (by decide) (by decide), grown_base (ho4'.alloc _) (Nat.le_refl _) (hrD4.alloc _) hgrow5, fun x hx => ?_, fun j L' hj hL' => ?_⟩, by simp [intOf]; omega⟩
        · rw [hPk]
          congr 1
          omega
        · rcases List.mem_append.1 hx with h | h
          · exact hPs x h
          · simp at h; omega
        · by_cases hjk : j = k
          · subst hjk
            rw [HK.out.1] at hL'
            cases hL'
            exact hrise
          · exact hRise j L' (by omega) hL'
    · obtain rfl : k = Ls.length := by omega
      rw [List.take_of_length_le (by rw [made_length]; exact Nat.le_refl _)] at hcD hPhi
      obtain ⟨T, hT⟩ : ∃ T, Phi (made Ls) = T := ⟨_, rfl⟩
      have hTk : Phi ((made Ls).take Ls.length) = T := by rw [List.take_of_length_le (by rw [made_length]; exact Nat.le_refl _)]; exact hT
      rw [hTk]
      rw [hT] at hPhi
      have hlD : Ps.length = Ls.length := by rw [hcD.len, made_length]
      rw [← hlD] at hrD
      obtain ⟨AD, capD, eD, hND⟩ := RowN.of_owns ptr_len hrD
      rw [hlD] at eD
      obtain ⟨we, rfl⟩ : ∃ x, x = wr := ⟨_, rfl⟩
      have hrise : ∀ (j : Nat) (L : List En), Ls[j]? = some L → Rising N L := fun j L hj => hRise j L (by have := (List.getElem?_eq_some_iff.1 hj).1; exact this) hj
      have HX := Lib.hid (And.intro hcD (And.intro ho (And.intro hPs (And.intro hrise (And.intro hT hND)))))
      clear hrD hcD ho hPs hRise hrise hT hTk hND
      subst eD
      go_wp2_with fail
      rw [hmk.out]
      go_wp2_with fail
      have hE1 : Only [] we (we.alloc (.cells (flat C.row (List.replicate N (C.mk 0 0 0))) 55)) := (Only.refl _ _).alloc _
      have hB1 := Blk.new we 55 (flat C.row (List.replicate N (C.mk 0 0 0)))
      obtain ⟨hcD, ho, hPs, hrise, hT, hND⟩ := HX.out
      have hzw := (HW.out.2.trans ho).size
      have hzd := ho.size
      have hown : Own w w1.heap.size we.heap.size Ps := ⟨hz1, hzw, by omega, fun p hp => by have := hPs p hp; omega⟩
      have hcrew : Crew w (we.alloc (.cells (flat C.row (List.replicate N (C.mk 0 0 0))) 55)) (w1.heap.size + 1) w1.heap.size we.heap.size AD Ps (made Ls) ⟨1000, List.replicate N ⟨0, 0, 0⟩⟩ (List.replicate N ⟨0, 0, 0⟩) :=
        ⟨((HW.out.1.only ho (by simp) (by simp)).only hE1 (by simp) (by simp)), hcD.only0 hE1, hND.only hE1 (by simp), hB1, (HW.out.2.trans ho).trans hE1⟩
      have hinv := Inv.start (N := N) (by omega) hrise
      have hsch : Sched Ls.length Xs.length T (made Ls) 0 := Sched.start (by omega)
      have hleft : leftOf (made Ls) = Ls.length := left_made Ls
      obtain ⟨M, hM⟩ : ∃ M, M = (T + 1) * Ls.length := ⟨_, rfl⟩
      have hMi : ((T : Int) + 1) * (Ls.length : Int) = (M : Int) := by rw [hM]; push_cast; rfl
      have hMb : M ≤ 2202 := by
        rw [hM]
        exact Nat.le_trans (Nat.mul_le_mul (show T + 1 ≤ 367 by omega) h5) (by omega)
      have HO := Lib.hid hown
      have HC := Lib.hid (And.intro hinv (And.intro hsch (And.intro hcrew hleft)))
      have HM := Lib.hid hM
      clear hE1 hB1 hcD ho hPs hrise hT hND hcrew hinv hsch hleft hM hmk HX hown
      generalize we.alloc (.cells (flat C.row (List.replicate N (C.mk 0 0 0))) 55) = wf at HC ⊢
      go_loopw [14, 15, 16] (fun cv lv iv wx => ∃ (c i : Nat) (Ds : List De) (s : St) (Wt : List C), i ≤ Xs.length + M ∧ cv = .int .i64 c ∧ c ≤ 8 * i ∧ lv = .int .i64 (leftOf Ds : Nat) ∧ iv = .int .i64 i ∧ Inv N Ls Ds s Wt ∧ Sched Ls.length Xs.length T Ds i ∧
        Crew w wx (w1.heap.size + 1) w1.heap.size we.heap.size AD Ps Ds s Wt) (fun _ _ iv _ => Xs.length + M - (intOf iv).toNat)
      case atStart =>
        obtain ⟨x1, x2, x3, x4⟩ := HC.out
        exact ⟨0, 0, _, _, _, by omega, rfl, by omega, by rw [x4], rfl, x1, x2, x3⟩
      case round =>
        clear HC
        obtain ⟨c, i, Ds, s, Wt, hi, rfl, hc, rfl, rfl, hinv, hsch, hcrew⟩ := hrel
        have hlen := hinv.n
        have HN := Lib.hid (And.intro hinv (And.intro hsch hcrew))
        have hover : Xs.length + M ≤ i → leftOf Ds = 0 := fun h => hsch.over (by omega) hlen (by rw [HM.out] at h; exact h)
        have HV := Lib.hid hover
        clear hinv hsch hcrew hover
        go_upto_region 20 with fail
        obtain ⟨bz, hbz⟩ : ∃ bz, Hid (decide (leftOf Ds ≠ 0) = bz) := ⟨_, Lib.hid rfl⟩
        go_cut [110] (fun v wy => v = .bool bz ∧ wy = wr)
        case first =>
          by_cases hlt : i < Xs.length + M
          · have q1 : decide ((i : Int) < (Xs.length : Int) + (M : Int)) = true := by simp; omega
            have q2 : decide ((0 : Int) < ((leftOf Ds : Nat) : Int)) = bz := by rw [← hbz.out]; exact decide_eq_decide.2 (by omega)
            have q3 : decide (0 < leftOf Ds) = bz := by rw [← hbz.out]; exact decide_eq_decide.2 (by omega)
            go_wp2_with fail
            go_meet
            exact ⟨rfl, rfl⟩
          · have q1 : decide ((i : Int) < (Xs.length : Int) + (M : Int)) = false := by simp; omega
            have := HV.out (by omega)
            go_wp2_with fail
            go_meet
            exact ⟨by rw [← hbz.out]; simp [this], rfl⟩
        case rest =>
          obtain ⟨rfl, rfl⟩ := hcut
          cases bz with
          | false =>
           as_aux_lemma =>
            have hz0 : leftOf Ds = 0 := by simpa using hbz.out
            obtain ⟨hinv, hsch, hcrew⟩ := HN.out
            have hall : ∀ (k : Nat) (x : C), s.L[k]? = some x → Wt[k]? = some x := fun k x hx => hinv.over hz0 hx
            have hsl := hinv.len
            obtain ⟨wq, hwq⟩ : ∃ x, x = wc := ⟨_, rfl⟩
            have HF := Lib.hid (And.intro hall hcrew)
            have hcm := cell_guard
            have hcq := cell_neq
            have hcq2 := cell_in
            have hz0i : ((leftOf Ds : Nat) : Int) = 0 := by omega
            rw [hz0i]
            clear hall hcrew hsch hinv HN HV hbz
            go_wp2_with fail
            rw [← hwq]
            rw [← hwq] at HF
            clear hwq
            go_loopw [24] (fun kv wy => ∃ k : Nat, k ≤ N ∧ kv = .int .i64 k ∧ Only [] wq wy) (fun kv _ => N - (intOf kv).toNat)
            case atStart => exact ⟨0, by omega, rfl, Only.refl _ _⟩
            case round =>
              obtain ⟨k, hk, rfl, hoq⟩ := hrel
              by_cases hkN : k < N
              · obtain ⟨x, hx⟩ : ∃ x, s.L[k]? = some x := ⟨_, List.getElem?_eq_getElem (by omega)⟩
                have hcr := HF.out.2.only0 hoq
                have cR := read_any (w1.heap.size + 1) w1.heap.size s k wr hcr.hs
                rw [show readI s (k : Int) = (0, x) by simp [readI, St.get_nat, hx], codeV0] at cR
                have HX := Lib.hid hx
                clear hx
                go_wp2_with fail
                refine cR.mono ?_
                clear cR
                rintro e w2 ⟨rfl, ho2⟩
                simp only [cV]
                replace hoq := hoq.trans ho2
                clear hcr ho2
                go_wp2_with fail
                obtain ⟨w3, hw3⟩ : ∃ w3, w3 = w2.alloc (.cells #[.int .u64 x.v, .int .u32 x.ver, .int .i64 x.mark] 55) := ⟨_, rfl⟩
                have ho3 : Only [] w2 w3 := by rw [hw3]; exact (Only.refl _ _).alloc _
                have hCb : Blk w3 w2.heap.size 55 #[.int .u64 x.v, .int .u32 x.ver, .int .i64 x.mark] := by rw [hw3]; exact Blk.new w2 _ _
                rw [← hw3]
                replace hoq := hoq.trans ho3
                have hb := (HF.out.2.only0 hoq).hw
                have hWx := HF.out.1 k x HX.out
                have m0 : w3.cell? ⟨we.heap.size, k * 3, none⟩ = some (.int .u64 x.v) := (hb.cell _).trans (flat_at (j := 0) C.row_len hWx rfl)
                have m1 : w3.cell? ⟨we.heap.size, k * 3 + 1, none⟩ = some (.int .u32 x.ver) := (hb.cell _).trans (flat_at (j := 1) C.row_len hWx rfl)
                have m2 : w3.cell? ⟨we.heap.size, k * 3 + 2, none⟩ = some (.int .i64 x.mark) := (hb.cell _).trans (flat_at (j := 2) C.row_len hWx rfl)
                have x0 : w3.cell? ⟨w2.heap.size, 0, none⟩ = some (.int .u64 x.v) := hCb.cell 0
                have x1 : w3.cell? ⟨w2.heap.size, 1, none⟩ = some (.int .u32 x.ver) := hCb.cell 1
                have x2 : w3.cell? ⟨w2.heap.size, 2, none⟩ = some (.int .i64 x.mark) := hCb.cell 2
                clear hw3 ho3 hCb hb hWx
                go_big_quiet (fail)
                go_wp2_with fail
                exact ⟨⟨k + 1, by omega, by go_num, hoq.drewN _⟩, by simp [intOf]; omega⟩
              · obtain rfl : k = N := by omega
                have ho := HF.out.2.ho.trans hoq
                clear hsl
                go_wp2_with fail
                go_ret
                exact ⟨rfl, ho⟩
          | true =>
            have hz0 : leftOf Ds ≠ 0 := by simpa using hbz.out
            have hiM : i < Xs.length + M := by
              rcases Nat.lt_or_ge i (Xs.length + M) with h | h
              · exact h
              · exact absurd (HV.out h) hz0
            have e22 : (i : Int).tmod (Ls.length : Int) = ((i % Ls.length : Nat) : Int) := (Int.ofNat_tmod i Ls.length).symm
            have hml : i % Ls.length < Ls.length := Nat.mod_lt _ (by omega)
            obtain ⟨wo, rfl⟩ : ∃ x, x = wc := ⟨_, rfl⟩
            obtain ⟨m, hm, hmn⟩ : ∃ m : Nat, ((Xs.length ≤ i ∧ m = i % Ls.length) ∨ ∃ x, Xs[i]? = some x ∧ (x.tmod (Ls.length : Int) = m ∨ (x.tmod (Ls.length : Int) = -(m : Int) ∧ 1 ≤ m))) ∧ m < Ls.length := by
              by_cases hiS : i < Xs.length
              · obtain ⟨x, hx⟩ : ∃ x, Xs[i]? = some x := ⟨_, List.getElem?_eq_getElem hiS⟩
                have h1 : (x.tmod (Ls.length : Int)).natAbs < Ls.length := by
                  rw [Int.natAbs_tmod]
                  exact Nat.mod_lt _ (by simp; omega)
                refine ⟨(x.tmod (Ls.length : Int)).natAbs, .inr ⟨x, hx, ?_⟩, by omega⟩
                by_cases h0 : 0 ≤ x.tmod (Ls.length : Int)
                · exact .inl (by omega)
                · exact .inr ⟨by omega, by omega⟩
              · exact ⟨i % Ls.length, .inl ⟨by omega, rfl⟩, hml⟩
            have HMM := Lib.hid hm
            clear hm HV hbz
            go_upto_if 120 with fail
            go_cut [17] (fun v wy => v = .int .i64 m ∧ wy = wo)
            case first =>
             as_aux_lemma =>
              rcases HMM.out with ⟨hS, hmi⟩ | ⟨x, hx, hm⟩
              · have q1 : ¬ ((i : Int) < (Xs.length : Int)) := by omega
                go_wp2_with fail
                go_meet
                exact ⟨by rw [hmi]; first | rfl | (congr 1; exact e22), rfl⟩
              · have hiS : i < Xs.length := (List.getElem?_eq_some_iff.1 hx).1
                obtain ⟨b, off, hJ, hb, hc0⟩ := HI.out.at_ i x hx
                subst hJ
                have hcc := (HN.out.2.2.ho.cell (p := ⟨b, off + i, none⟩) hb (by simp)).trans hc0
                clear hc0
                rcases hm with e | ⟨e, e1⟩
                · have e2 : ¬ ((m : Int) < 0) := by omega
                  go_wp2_with fail
                  go_meet
                  exact ⟨rfl, rfl⟩
                · have e2 : -(m : Int) < 0 := by omega
                  go_wp2_with fail
                  go_meet
                  exact ⟨by simp, rfl⟩
            case rest =>
              obtain ⟨rfl, rfl⟩ := hcut
              obtain ⟨wi, rfl⟩ : ∃ x, x = wc := ⟨_, rfl⟩
              go_upto_block 4 with fail
              go_cut [14] (fun cv wy => ∃ (c' : Nat) (Ds' : List De) (s' : St) (Wt' : List C), cv = .int .i64 c' ∧ c' ≤ c + 7 ∧ Round N Ls Ds Ds' m s' Wt' ∧ Crew w wy (w1.heap.size + 1) w1.heap.size we.heap.size AD Ps Ds' s' Wt')
              case first =>
                go_wp2_with fail
                go_loopw [14, 17, 18] (fun cv kv hv wx => ∃ (c2 k h : Nat) (b : Int), cv = .int .i64 c2 ∧ c2 ≤ c + h ∧ kv = .int .i64 k ∧ hv = .int .i64 h ∧ h ≤ Ls.length ∧ Chain Ds k h b ∧ (h = 0 → m = k) ∧ Crew w wx (w1.heap.size + 1) w1.heap.size we.heap.size AD Ps Ds s Wt) (fun _ _ hv _ => Ls.length + 1 - (intOf hv).toNat)
                case atStart => exact ⟨c, m, 0, -1, rfl, by omega, rfl, rfl, by omega, Chain.start (by rw [hlen]; exact hmn), fun _ => rfl, HN.out.2.2⟩
                case round =>
                  obtain ⟨c2, k, h, b, rfl, hc2, rfl, rfl, hh, hch, hk0, hcr⟩ := hrel
                  obtain ⟨p, d, A1, cc1, gD, hpk, hdk, hAD, hd, hcel⟩ := hcr.get hch.at_
                  have hkn : k < Ls.length := by rw [← hlen]; exact hch.at_
                  obtain ⟨x1, d1, s1, hstep⟩ : ∃ x1 d1 s1, stepD d s = (x1, d1, s1) := ⟨_, _, _, rfl⟩
                  have HCS := Lib.hid (HN.out.1.step hdk hstep)
                  subst hAD
                  have cT := status_any hd
                  have cS := step_desk hd hcr.hs
                  rw [hstep] at cS
                  have HR := Lib.hid (And.intro hcr (And.intro hpk (And.intro hdk (And.intro hch (And.intro hk0 (And.intro hd hstep))))))
                  clear hcr hpk hdk hch hk0 hd hstep
                  go_wp2_with fail
                  refine cT.mono ?_
                  clear cT
                  rintro e w' ⟨rfl, rfl⟩
                  go_wp2_with fail
                  refine cS.mono ?_
                  clear cS hcel
                  rintro e w4 ⟨rfl, hd4, hs4, ho4⟩
                  obtain ⟨hcr, hpk, hdk, hch, hk0, hd, hstep⟩ := HR.out
                  have hcr4 := hcr.step HO.out hpk hd ho4 hd4 hs4
                  obtain ⟨_, curD, e1, -, hcel4⟩ := ptr_at hcr4.nD hpk
                  injection e1 with e1
                  injection e1 with e1
                  subst e1
                  have cT := status_any hd4
                  rcases HCS.out with ⟨hx0, rfl, rfl, h0, e, cc, he, hcc, hm⟩ | ⟨rfl, hinv1, hstay, hless, hdone⟩
                  · as_aux_lemma =>
                    obtain ⟨k', hx1, hk', hn1, hch'⟩ := hch.next HN.out.1 hdk h0 he hcc (by rw [hm]; exact hx0)
                    obtain rfl : x1 = (k' : Int) + 1 := by omega
                    have hset : Ds.set k d1 = Ds := set_same hdk
                    rw [hset] at hcr4
                    rw [hlen] at hk' hn1
                    have HT := Lib.hid (And.intro hch' hcr4)
                    have q1 : (d1.st == 0) = true := by simp [h0]
                    have q2 : (d1.st == 1) = false := by simp [h0]
                    have q3 : ((k' : Int) + 1 == 0) = false := by simp; omega
                    have q4 : decide ((k' : Int) + 1 < 1) = false := by simp; omega
                    have q5 : decide ((Ls.length : Int) < (k' : Int) + 1) = false := by simp; omega
                    have q6 : ((h : Int) == (Ls.length : Int)) = false := by simp; omega
                    clear hcr hpk hdk hch hk0 hd hstep hch' hcr4 hset hd4 hs4 ho4 he hcc hm hx1 hx0 h0 HCS HR
                    go_wp2_with (go_at_call 11; (with_reducible refine cT.mono ?_); clear cT; rintro e w' ⟨rfl, rfl⟩)
                    obtain ⟨hch', hcr4⟩ := HT.out
                    exact ⟨⟨c2 + 1, k', h + 1, e.cell, by go_num, by omega, rfl, by go_num, by omega, hch', fun h => absurd h (by omega), hcr4⟩, by simp [intOf]; omega⟩
                  · by_cases hA : d.st = 0 ∧ d1.st = 1
                    · as_aux_lemma =>
                      obtain ⟨h0, hd1st⟩ := hA
                      have hpl := hdone h0 hd1st
                      have hfin : ∀ wz, Crew w wz (w1.heap.size + 1) w1.heap.size we.heap.size (some ⟨gD, 0, none⟩) Ps (Ds.set k d1) s1 (wantTo Wt d.L d.L.length) → ∃ (c' : Nat) (Ds' : List De) (s' : St) (Wt' : List C), c2 + 1 = c' ∧ c' ≤ c + 7 ∧ Round N Ls Ds Ds' m s' Wt' ∧ Crew w wz (w1.heap.size + 1) w1.heap.size we.heap.size (some ⟨gD, 0, none⟩) Ps Ds' s' Wt' := fun wz hz => by
                        refine ⟨c2 + 1, _, _, _, rfl, by omega, HN.out.1.round hch hk0 hdk hstep, ?_⟩
                        rw [if_pos ⟨h0, hd1st⟩]
                        exact hz
                      have HT := Lib.hid hfin
                      have q1 : (d.st == 0) = true := by simp [h0]
                      have q2 : (d1.st == 1) = true := by simp [hd1st]
                      have HJ := Lib.hid (And.intro hcr4 (And.intro hdk (And.intro h0 hpl)))
                      have hs4 := hcr.hs.ok
                      have HS4 := Lib.hid hs4
                      have hLs := HN.out.1.list k d hdk
                      have hLlen := (HN.out.1.rise k d hdk).length
                      obtain ⟨b2, off2, A2, cap2, hB, hb2, hc02, hrows2⟩ := HL.out k d.L hLs
                      subst hB
                      have hcL4 := (hcr4.ho.cell (p := ⟨b2, off2 + k, none⟩) hb2 (by simp)).trans hc02
                      have HB2 := Lib.hid (And.intro hb2 (And.intro hc02 hrows2))
                      clear hcr hpk hch hk0 hd hstep hcr4 hd4 hs4 ho4 hfin HCS HR hinv1 hstay hless hdone hLs hb2 hc02 hrows2 hdk h0 hd1st hpl
                      go_wp2_with (go_at_call 11; (with_reducible refine cT.mono ?_); clear cT; rintro e w' ⟨rfl, rfl⟩)
                      clear hcel4
                      go_loopw [21] (fun jv wy => ∃ j : Nat, j ≤ d.L.length ∧ jv = .int .i64 j ∧ Only [we.heap.size] w4 wy ∧ Blk wy we.heap.size CellT (flat C.row (wantTo Wt d.L j))) (fun jv _ => d.L.length - (intOf jv).toNat)
                      case atStart => exact ⟨0, by omega, rfl, Only.refl _ _, HJ.out.1.hw⟩
                      case round =>
                        clear hcL4
                        obtain ⟨j, hj, rfl, hoj, hbj⟩ := hrel
                        have hcj := HJ.out.1.turn HO.out hoj hbj
                        have hcL := (hcj.ho.cell (p := ⟨b2, off2 + k, none⟩) HB2.out.1 (by simp)).trans HB2.out.2.1
                        by_cases hjl : j < d.L.length
                        · obtain ⟨e, he⟩ : ∃ e, d.L[j]? = some e := ⟨_, List.getElem?_eq_getElem hjl⟩
                          obtain ⟨b3, off3, hA3, hb3, hc3⟩ := HB2.out.2.2 j e he
                          subst hA3
                          obtain ⟨cw, c0, hw1, hw2, hw3, hw4, hw5⟩ := HN.out.1.check HJ.out.2.1 HJ.out.2.2.1 HJ.out.2.2.2 he
                          have hrise := (HN.out.1.rise k d HJ.out.2.1 j e he).1
                          obtain ⟨ci, hci⟩ : ∃ ci : Nat, e.cell = ci := ⟨e.cell.toNat, by omega⟩
                          have hciN : ci < N := by omega
                          rw [show e.cell.toNat = ci by omega] at hw1 hw3
                          have hver : 0 ≤ c0.ver ∧ c0.ver ≤ s.lim := HS4.out.cells ci c0 hw3
                          rw [hw4, HN.out.1.lim] at hver
                          have e0 : wr.cell? ⟨b3, off3 + j * 5, none⟩ = some (.int .i64 ci) := by rw [← hci]; exact (hcj.ho.cell (p := ⟨b3, _, none⟩) hb3 (by simp)).trans (hc3 0 _ rfl)
                          have e1 : wr.cell? ⟨b3, off3 + j * 5 + 1, none⟩ = some (.int .u32 e.ver) := (hcj.ho.cell (p := ⟨b3, _, none⟩) hb3 (by simp)).trans (hc3 1 _ rfl)
                          have e2 : wr.cell? ⟨b3, off3 + j * 5 + 2, none⟩ = some (.int .u64 e.old) := (hcj.ho.cell (p := ⟨b3, _, none⟩) hb3 (by simp)).trans (hc3 2 _ rfl)
                          have e3 : wr.cell? ⟨b3, off3 + j * 5 + 3, none⟩ = some (.int .u64 e.new) := (hcj.ho.cell (p := ⟨b3, _, none⟩) hb3 (by simp)).trans (hc3 3 _ rfl)
                          have e4 : wr.cell? ⟨b3, off3 + j * 5 + 4, none⟩ = some (.bool e.wr) := (hcj.ho.cell (p := ⟨b3, _, none⟩) hb3 (by simp)).trans (hc3 4 _ rfl)
                          have HE := Lib.hid (And.intro he (And.intro hw1 (And.intro hw2 (And.intro hw5 (And.intro hver hci)))))
                          have HG := Lib.hid (And.intro hoj hbj)
                          clear hc3 he hw1 hw2 hw3 hw4 hw5 hver hci hcj hoj hbj hrise
                          go_wp2_with fail
                          obtain ⟨wx, hwx⟩ : ∃ wx, wx = wr.alloc (.cells #[.int .i64 ci, .int .u32 e.ver, .int .u64 e.old, .int .u64 e.new, .bool e.wr] 53) := ⟨_, rfl⟩
                          have hox : Only [] wr wx := by rw [hwx]; exact (Only.refl _ _).alloc _
                          have hBx : Blk wx wr.heap.size 53 #[.int .i64 ci, .int .u32 e.ver, .int .u64 e.old, .int .u64 e.new, .bool e.wr] := by rw [hwx]; exact Blk.new wr _ _
                          rw [← hwx]
                          have hbx := hox.blk HG.out.2 (by simp)
                          have hgx := HG.out.2.lt
                          have x0 : wx.cell? ⟨wr.heap.size, 0, none⟩ = some (.int .i64 ci) := hBx.cell 0
                          have x1 : wx.cell? ⟨wr.heap.size, 1, none⟩ = some (.int .u32 e.ver) := hBx.cell 1
                          have x3 : wx.cell? ⟨wr.heap.size, 3, none⟩ = some (.int .u64 e.new) := hBx.cell 3
                          have x4 : wx.cell? ⟨wr.heap.size, 4, none⟩ = some (.bool e.wr) := hBx.cell 4
                          have v0 : wx.cell? ⟨we.heap.size, ci * 3, none⟩ = some (.int .u64 cw.v) := (hbx.cell _).trans (flat_at (j := 0) C.row_len HE.out.2.1 rfl)
                          have v1 : wx.cell? ⟨we.heap.size, ci * 3 + 1, none⟩ = some (.int .u32 e.ver) := by rw [← HE.out.2.2.1]; exact (hbx.cell _).trans (flat_at (j := 1) C.row_len HE.out.2.1 rfl)
                          have v2 : wx.cell? ⟨we.heap.size, ci * 3 + 2, none⟩ = some (.int .i64 cw.mark) := (hbx.cell _).trans (flat_at (j := 2) C.row_len HE.out.2.1 rfl)
                          have qv : (e.ver != e.ver) = false := by simp
                          have hcN : (ci : Int) < (N : Int) := by omega
                          have hox' := HG.out.1.trans (hox.in0 (S := [we.heap.size]))
                          have HX := Lib.hid (And.intro hbx hox')
                          clear hwx hox hBx hbx hox' e0 e1 e2 e3 e4 hcL
                          go_big_quiet (fail)
                          obtain ⟨wy, hwy⟩ : ∃ wy, wy = wx.drewN nq := ⟨_, rfl⟩
                          have hE : Only [] wx wy := by rw [hwy]; exact (Only.refl _ _).drewN _
                          have hby := hE.blk HX.out.1 (by simp)
                          have hoy := HX.out.2.trans (hE.in0 (S := [we.heap.size]))
                          have x0 : wy.cell? ⟨wr.heap.size, 0, none⟩ = some (.int .i64 ci) := by rw [hwy]; exact x0
                          have x1 : wy.cell? ⟨wr.heap.size, 1, none⟩ = some (.int .u32 e.ver) := by rw [hwy]; exact x1
                          have x3 : wy.cell? ⟨wr.heap.size, 3, none⟩ = some (.int .u64 e.new) := by rw [hwy]; exact x3
                          have x4 : wy.cell? ⟨wr.heap.size, 4, none⟩ = some (.bool e.wr) := by rw [hwy]; exact x4
                          have v0 : wy.cell? ⟨we.heap.size, ci * 3, none⟩ = some (.int .u64 cw.v) := by rw [hwy]; exact v0
                          have v1 : wy.cell? ⟨we.heap.size, ci * 3 + 1, none⟩ = some (.int .u32 e.ver) := by rw [hwy]; exact v1
                          have v2 : wy.cell? ⟨we.heap.size, ci * 3 + 2, none⟩ = some (.int .i64 cw.mark) := by rw [hwy]; exact v2
                          have f0 : wy.frozen? ⟨we.heap.size, ci * 3, none⟩ = false := hby.frozen _
                          have f1 : wy.frozen? ⟨we.heap.size, ci * 3 + 1, none⟩ = false := hby.frozen _
                          have f2 : wy.frozen? ⟨we.heap.size, ci * 3 + 2, none⟩ = false := hby.frozen _
                          rw [← hwy]
                          have HY := Lib.hid (And.intro hby hoy)
                          clear hwy hE hby hoy HX
                          obtain ⟨bw, hbw⟩ : ∃ bw, e.wr = bw := ⟨_, rfl⟩
                          rw [hbw] at x4
                          have HBW := Lib.hid hbw
                          clear hbw
                          cases bw with
                          | false =>
                            go_wp2_with fail
                            refine ⟨⟨j + 1, by omega, by go_num, HY.out.2, ?_⟩, by simp [intOf]; omega⟩
                            rw [wantTo_succ HE.out.1, putW_no HBW.out]
                            exact HY.out.1
                          | true =>
                            have hv1 := HE.out.2.2.2.2.1
                            have hv2 := HE.out.2.2.2.1 HBW.out
                            have hvr : 0 ≤ e.ver ∧ e.ver ≤ 999 := by omega
                            have hwrap : IntKind.u32.wrap (e.ver + 1) = e.ver + 1 := IntWalk.u32_in _ (by omega)
                            have hne1 : we.heap.size ≠ wr.heap.size := by omega
                            clear hv1 hv2
                            go_wp2_with fail
                            refine ⟨⟨j + 1, by omega, by go_num, ?_, ?_⟩, by simp [intOf]; omega⟩
                            · exact ((HY.out.2.setCell (p := ⟨we.heap.size, ci * 3, none⟩) (.inl (by simp)) _).setCell (p := ⟨we.heap.size, ci * 3 + 1, none⟩) (.inl (by simp)) _).setCell (p := ⟨we.heap.size, ci * 3 + 2, none⟩) (.inl (by simp)) _
                            · rw [wantTo_succ HE.out.1, putW_yes HBW.out, show e.cell.toNat = ci by have := HE.out.2.2.2.2.2; omega]
                              exact blk_put3 HY.out.1 HE.out.2.1 ⟨e.new, e.ver + 1, 0⟩
                        · obtain rfl : j = d.L.length := by omega
                          have hfz := HT.out wr hcj
                          have HZ := Lib.hid hfz
                          clear hcj hoj hbj hfz
                          go_wp2_with fail
                          go_meet
                          obtain ⟨c', Ds', s', Wt', rfl, y1, y2, y3⟩ := HZ.out
                          exact ⟨_, _, _, _, by go_num, y1, y2, y3⟩
                    · as_aux_lemma =>
                      have hfin : ∃ (c' : Nat) (Ds' : List De) (s' : St) (Wt' : List C), c2 + 1 = c' ∧ c' ≤ c + 7 ∧ Round N Ls Ds Ds' m s' Wt' ∧ Crew w w4 (w1.heap.size + 1) w1.heap.size we.heap.size (some ⟨gD, 0, none⟩) Ps Ds' s' Wt' := by
                        refine ⟨c2 + 1, _, _, _, rfl, by omega, HN.out.1.round hch hk0 hdk hstep, ?_⟩
                        rw [if_neg hA]
                        exact hcr4
                      have HT := Lib.hid hfin
                      by_cases h0 : d.st = 0
                      · have q1 : (d.st == 0) = true := by simp [h0]
                        have q2 : (d1.st == 1) = false := by
                          have : d1.st ≠ 1 := fun h => hA ⟨h0, h⟩
                          simpa using this
                        clear hcr hpk hdk hch hk0 hd hstep hcr4 hd4 hs4 ho4 h0 hA hfin HCS HR hinv1 hstay hless hdone
                        go_wp2_with (go_at_call 11; (with_reducible refine cT.mono ?_); clear cT; rintro e w' ⟨rfl, rfl⟩)
                        go_meet
                        obtain ⟨c', Ds', s', Wt', rfl, y1, y2, y3⟩ := HT.out
                        exact ⟨_, _, _, _, by go_num, y1, y2, y3⟩
                      · have q1 : (d.st == 0) = false := by simp [h0]
                        clear hcr hpk hdk hch hk0 hd hstep hcr4 hd4 hs4 ho4 h0 hA hfin HCS HR hinv1 hstay hless hdone
                        go_wp2_with fail
                        go_meet
                        obtain ⟨c', Ds', s', Wt', rfl, y1, y2, y3⟩ := HT.out
                        exact ⟨_, _, _, _, by go_num, y1, y2, y3⟩
              case rest =>
               as_aux_lemma =>
                obtain ⟨c', Ds', s', Wt', rfl, hc', hrnd, hcr'⟩ := hcut
                obtain ⟨wl, rfl⟩ : ∃ x, x = wc := ⟨_, rfl⟩
                have hlen' := hrnd.inv.n
                have hsch' := HN.out.2.1.more hrnd (fun hS => by
                  rcases HMM.out with ⟨_, h⟩ | ⟨x, hx, _⟩
                  · exact h
                  · have := (List.getElem?_eq_some_iff.1 hx).1
                    omega) (by omega) hz0 hlen
                have HF := Lib.hid (And.intro hrnd.inv (And.intro hsch' hcr'))
                clear hrnd hcr' hsch' HN
                go_wp2_with fail
                go_loopw [15, 23] (fun lv jv wy => ∃ j : Nat, j ≤ Ls.length ∧ jv = .int .i64 j ∧ lv = .int .i64 (leftOf (Ds'.take j) : Nat) ∧ Only [] wl wy) (fun _ jv _ => Ls.length - (intOf jv).toNat)
                case atStart => exact ⟨0, by omega, rfl, rfl, Only.refl _ _⟩
                case round =>
                  obtain ⟨j, hj, rfl, rfl, hol⟩ := hrel
                  by_cases hjl : j < Ls.length
                  · have hcl := HF.out.2.2.only0 hol
                    obtain ⟨p, d, A1, cc1, gD, hpk, hdk, hAD, hd, hcel⟩ := hcl.get (k := j) (by omega)
                    subst hAD
                    have cO := over_any hd
                    have hlt := left_take hdk
                    have hltb : leftOf (Ds'.take j) ≤ j := Nat.le_trans List.countP_le_length (by rw [List.length_take]; omega)
                    have HD := Lib.hid (And.intro hlt hltb)
                    clear hcl hpk hdk hd hlt
                    go_wp2_with fail
                    refine cO.mono ?_
                    clear cO
                    rintro e w5 ⟨rfl, q, hw5⟩
                    have hol' : Only [] wl w5 := by rw [hw5]; exact hol.drewN q
                    clear hw5 hcel hol
                    obtain ⟨bo, hbo⟩ : ∃ bo, d.over = bo := ⟨_, rfl⟩
                    rw [hbo]
                    have hlt := HD.out.1
                    rw [hbo] at hlt
                    have HD2 := Lib.hid hlt
                    clear hlt HD hbo
                    cases bo
                    all_goals
                      go_wp2_with fail
                      exact ⟨⟨j + 1, by omega, by go_num, by rw [HD2.out]; first | rfl | simp | go_num, hol'⟩, by simp [intOf]; omega⟩
                  · obtain rfl : j = Ls.length := by omega
                    rw [List.take_of_length_le (by omega)]
                    obtain ⟨h1, h2, h3⟩ := HF.out
                    have hc3 := h3.only0 hol
                    have HL2 := Lib.hid (And.intro h1 (And.intro h2 hc3))
                    clear h1 h2 h3 hc3 HF hol
                    go_wp2_with fail
                    obtain ⟨h1, h2, h3⟩ := HL2.out
                    exact ⟨⟨c', i + 1, Ds', s', Wt', by omega, rfl, by omega, rfl, by go_num, h1, h2, h3⟩, by simp [intOf]; omega⟩
end
end Go.Proofs.Ytgkjkmdenmighaa
