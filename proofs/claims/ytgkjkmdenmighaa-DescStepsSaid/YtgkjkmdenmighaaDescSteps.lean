/- DescSteps' walk: for every store, every lists of entries, every steps it answers true (layer 7). -/
import Derived.Test.YtgkjkmdenmighaaDescStepsO
import Derived.Test.YtgkjkmdenmighaaDescSame
import Derived.Test.YtgkjkmdenmighaaRefStep
import Derived.Test.YtgkjkmdenmighaaRefAs
import Derived.Test.YtgkjkmdenmighaaDescDuo
import Derived.Test.YtgkjkmdenmighaaIntsA
import Derived.Test.YtgkjkmdenmighaaRegionFork
namespace Go.Proofs.Ytgkjkmdenmighaa
open Go.RowKit
theorem infoPD : (Try.prog.info? 38).map (fun i => (i.zero, i.size, i.bytes)) = some (some (.pointer none), 1, 8) := by kernel_rfl
theorem infoPR : (Try.prog.info? 40).map (fun i => (i.zero, i.size, i.bytes)) = some (some (.pointer none), 1, 8) := by kernel_rfl
section
variable {B J : Option Addr} {Ls : List (List En)} {Xs : List Int}
set_option maxRecDepth 100000 in
set_option maxHeartbeats 8000000 in
theorem steps_any (cp cq : Nat) (cells limit : Int) (w : World) (hL : EntLists w B Ls) (hX : Ints w J Xs) (hlim : 0 ≤ limit ∧ limit ≤ 4294967295) (hl : Ls.length ≤ 9223372036854775807) (hx : Xs.length ≤ 9223372036854775807) :
    Calls Try.prog 3 #[.int .i64 cells, .int .u32 limit, .slice B Ls.length cp, .slice J Xs.length cq] w fun e w' => e = .returned (.bool true) ∧ Only [] w w' := by
  by_cases h1 : cells < 1
  · exact steps_out cp cq Ls.length Xs.length cells limit w (by omega)
  by_cases h2 : 30 < cells
  · exact steps_out cp cq Ls.length Xs.length cells limit w (by omega)
  by_cases h3 : limit < 1
  · exact steps_out cp cq Ls.length Xs.length cells limit w (by omega)
  by_cases h4 : Ls.length < 1
  · exact steps_out cp cq Ls.length Xs.length cells limit w (by omega)
  by_cases h5 : 5 < Ls.length
  · exact steps_out cp cq Ls.length Xs.length cells limit w (by omega)
  by_cases h6 : 200 < Xs.length
  · exact steps_out cp cq Ls.length Xs.length cells limit w (by omega)
  replace h1 : 1 ≤ cells := by omega
  replace h2 : cells ≤ 30 := by omega
  replace h3 : 1 ≤ limit := by omega
  replace h4 : 1 ≤ Ls.length := by omega
  replace h5 : Ls.length ≤ 5 := by omega
  replace h6 : Xs.length ≤ 200 := by omega
  have hmk := Lib.hid fun W : World => run_makeN (P := Try.prog) (t := 32) (C.mk 0 0 0) infoCell Try.underlying32 C.row_len (by omega) rfl .i64 .i64 cells cells (by omega) (by omega) (by omega) (by omega) W
  have HL := Lib.hid hL
  have HI := Lib.hid hX
  clear hL hX
  go_enter Try.func3, Try.ntmps3
  go_wp2_with fail
  (with_reducible refine (up_any _).mono ?_)
  rintro e w1 ⟨rfl, ho1⟩
  go_wp2_with fail
  refine (new_good cells limit w1 h1 (by omega) h3 hlim.2).mono ?_
  rintro e w2 ⟨rfl, hs2, ho2⟩
  rw [codeV0]
  have HO := Lib.hid (ho1.trans ho2)
  have HS := Lib.hid hs2
  have hz12 : w1.heap.size + 1 < w2.heap.size := hs2.head.lt
  have HZ1 := Lib.hid ho1.size
  clear ho1 ho2 hs2
  go_wp2_with fail
  rw [hmk.out]
  go_wp2_with fail
  have hE1 : Only [] w2 (w2.alloc (.cells (flat C.row (List.replicate cells.toNat (C.mk 0 0 0))) 55)) := (Only.refl _ _).alloc _
  obtain ⟨wd, hwd⟩ : ∃ wd, wd = (w2.alloc (.cells (flat C.row (List.replicate cells.toNat (C.mk 0 0 0))) 55)).alloc (.cells #[.slice (some ⟨w2.heap.size, 0, none⟩) cells.toNat cells.toNat, .int .u32 limit] 34) := ⟨_, rfl⟩
  have hE2 : Only [] w2 wd := by rw [hwd]; exact hE1.alloc _
  have hr : StoreAt wd RT (w2.heap.size + 1) w2.heap.size ⟨limit, List.replicate cells.toNat ⟨0, 0, 0⟩⟩ := by
    refine ⟨?_, ?_, HS.out.ok⟩
    · have q := Blk.new (w2.alloc (.cells (flat C.row (List.replicate cells.toNat (C.mk 0 0 0))) 55)) RT #[.slice (some ⟨w2.heap.size, 0, none⟩) cells.toNat cells.toNat, .int .u32 limit]
      rw [hwd]
      simpa using q
    · rw [hwd]
      exact (Blk.new w2 _ _).alloc _
  have hzd : wd.heap.size = w2.heap.size + 2 := by rw [hwd]; simp
  rw [← hwd]
  have HW := Lib.hid (And.intro ((HS.out).only hE2 (by simp) (by simp)) (And.intro hr (HO.out.trans hE2)))
  clear hwd hE1 hE2 hr HS HO hmk
  obtain ⟨iD, hiD, hzD0, hzD1, hzD2⟩ := info_parts infoPD
  obtain ⟨iR, hiR, hzR0, hzR1, hzR2⟩ := info_parts infoPR
  go_loopw [13, 14, 15] (fun dv fv i wr => ∃ (k : Nat) (Ps Qs : List Nat), k ≤ Ls.length ∧ i = .int .i64 k ∧ wr.ownsRow wd.heap.size 38 1 dv k (Ps.flatMap ptr) ∧ wr.ownsRow wd.heap.size 40 1 fv k (Qs.flatMap ptr) ∧
    Crowd wr DT ET En.row 5 Ps ((made Ls).take k) ∧ Crowd wr RDT RET En.rowR 4 Qs ((made Ls).take k) ∧ Only [] wd wr ∧ (∀ x ∈ Ps, wd.heap.size ≤ x) ∧ (∀ x ∈ Qs, wd.heap.size ≤ x)) (fun _ _ i _ => Ls.length - (intOf i).toNat)
  case atStart => exact ⟨0, [], [], by omega, rfl, World.ownsRow_nil _ _ _ _, World.ownsRow_nil _ _ _ _, Crowd.nil _ _ _ _ _, Crowd.nil _ _ _ _ _, Only.refl _ _, by simp, by simp⟩
  case round =>
    obtain ⟨k, Ps, Qs, hk, rfl, hrD, hrR, hcD, hcR, ho, hPs, hQs⟩ := hrel
    have hwo := ho.size
    by_cases hlt : k < Ls.length
    · obtain ⟨L, hLk⟩ : ∃ L, Ls[k]? = some L := ⟨_, List.getElem?_eq_getElem hlt⟩
      have how := HW.out.2.2.trans ho
      obtain ⟨b, off, A, cap, hB, hb, hc0, hrows0⟩ := HL.out k L hLk
      subst hB
      have hc := (how.cell (p := ⟨b, off + k, none⟩) hb (by simp)).trans hc0
      have hrows := hrows0.only0 how
      have HK := Lib.hid (And.intro hLk (And.intro hrows0 (And.intro hb hc0)))
      clear hrows0 hc0 hb
      by_cases h30 : 30 < L.length
      · clear hLk hrows hrD hrR hcD hcR
        go_wp2_with fail
        go_ret
        exact ⟨rfl, how⟩
      · replace h30 : L.length ≤ 30 := by omega
        have HX := Lib.hid (And.intro hrD (And.intro hrR (And.intro hcD (And.intro hcR ho))))
        have cN := desc_new (w := wr) cap ((k : Int) + 1) (by omega) hrows (by omega)
        clear hLk hrows hrD hrR hcD hcR ho how
        go_wp2_with fail
        refine cN.mono ?_
        clear cN
        rintro e w3 ⟨p, A3, cap3, rfl, hp, hd, ho3⟩
        obtain ⟨hrD, hrR, hcD, hcR, ho⟩ := HX.out
        have hcD3 := hcD.push ho3 hd hp
        have hcR3 := hcR.only0 ho3
        have hrD3 := owns_only0 hrD ho3
        have hrR3 := owns_only0 hrR ho3
        have hod3 := ho.trans ho3
        rw [made_take HK.out.1] at hcD3
        have HX3 := Lib.hid (And.intro hcD3 (And.intro hcR3 (And.intro hrR3 hod3)))
        have hz3 := hod3.size
        clear hrD hrR hcD hcR ho hcD3 hcR3 hrR3 hod3 HX hd ho3
        go_wp2_with (at_builtin; refine wpList_append_lies _ (by rfl) _ _ 35 (by rfl) wd.heap.size 38 iD (.pointer none) 1 8 Try.underlying35 hiD hzD0 hzD1 hzD2 rfl (by omega) u13 k _ (by rfl) (hrD3.alloc _) ⟨w3.heap.size, 0, none⟩ 1 1 (ptr p) (by rfl) (by rfl) (World.news_of_block (cs := (ptr p).toArray) (t := 38) (fr := (0, 0)) (heap_alloc_new w3 _)) (by simp [Value.oneCell', ptr]) (by omega) (by unfold maxLen; omega) (by omega) (by simp; omega) (w3.heap.size + 1) (by simp) ?_; intro g4 cap4 w4 hrow4 hgrow4 hat4 hlt4; have ho4 := grown_base (HX3.out.2.2.2.alloc _) (Nat.le_refl _) (hrD3.alloc _) hgrow4; have hc4 := ((HW.out.2.2.trans ho4).cell (p := ⟨b, off + k, none⟩) HK.out.2.2.1 (by simp)).trans HK.out.2.2.2)
        have hal : Only [] w3 (w3.alloc (.cells #[.pointer (some ⟨p, 0, none⟩)] 38)) := (Only.refl _ _).alloc _
        have hcD4 := grown_crowd (HX3.out.1.only0 hal) (hrD3.alloc _) hgrow4 (by decide) (by decide)
        have hcR4 := grown_crowd (HX3.out.2.1.only0 hal) (hrD3.alloc _) hgrow4 (by decide) (by decide)
        have hrR4 := grown_row (owns_only0 HX3.out.2.2.1 hal) (hrD3.alloc _) hgrow4 (by decide)
        have hrows4 := HK.out.2.1.only0 (HW.out.2.2.trans ho4)
        have cA := as_any (w := w4) cap hrows4 (by omega)
        have hrD4 : w4.ownsRow wd.heap.size 38 1 (.slice (some ⟨g4, 0, none⟩) (k + 1) cap4) (k + 1) ((Ps ++ [p]).flatMap ptr) := by simpa using hrow4
        have hz4 := ho4.size
        have HX4 := Lib.hid (And.intro hcD4 (And.intro hcR4 (And.intro hrD4 (And.intro hrR4 ho4))))
        clear hal hcD4 hcR4 hrD4 hrR4 hrows4 HX3 hrD3 hrow4 hgrow4 hat4 hlt4 ho4 hz3
        refine cA.mono ?_
        clear cA
        rintro e w5 ⟨A5, cap5, rfl, hN5, ho5⟩
        obtain ⟨hcD4, hcR4, hrD4, hrR4, ho4⟩ := HX4.out
        have hw6 : Only [] w5 (w5.alloc (.cells #[.int .i64 ((k : Int) + 1), .slice A5 L.length cap5, .int .i64 0, .int .i64 0] 44)) := (Only.refl _ _).alloc _
        have hq : RescAt (w5.alloc (.cells #[.int .i64 ((k : Int) + 1), .slice A5 L.length cap5, .int .i64 0, .int .i64 0] 44)) w5.heap.size A5 cap5 ⟨(k : Int) + 1, L, 0, 0⟩ :=
          ⟨Blk.new w5 _ _, hN5.only hw6 (by simp), ⟨by simp; omega, by simp, by simp, by simp, by simp; omega⟩⟩
        have ho56 := ho5.trans hw6
        have hcR6 := hcR4.push ho56 hq ho5.size
        rw [made_take HK.out.1] at hcR6
        have hcD6 := hcD4.only0 ho56
        have hrR6 := owns_only0 hrR4 ho56
        have hrD6 := owns_only0 hrD4 ho56
        have hod6 := ho4.trans ho56
        have hz5 := (ho4.trans ho5).size
        have HX6 := Lib.hid (And.intro hcD6 (And.intro hcR6 (And.intro hrD6 hod6)))
        have hnews : ∀ (j : Nat) (u : Value), (ptr w5.heap.size)[j]? = some u → ((w5.alloc (.cells #[.int .i64 ((k : Int) + 1), .slice A5 L.length cap5, .int .i64 0, .int .i64 0] 44)).alloc (.cells #[.pointer (some ⟨w5.heap.size, 0, none⟩)] 40)).cell? ((⟨w5.heap.size + 1, 0, none⟩ : Addr).add j) = some u := by
          have hB := Blk.new (w5.alloc (.cells #[.int .i64 ((k : Int) + 1), .slice A5 L.length cap5, .int .i64 0, .int .i64 0] 44)) 40 #[.pointer (some ⟨w5.heap.size, 0, none⟩)]
          rw [World.size_alloc] at hB
          intro j u hj
          cases j with
          | zero => cases hj; exact hB.cell 0
          | succ j => simp [ptr] at hj
        clear hcD4 hcR4 hrD4 hrR4 ho4 hw6 hq ho56 hcR6 hcD6 hrD6 hod6 HX4 hN5 ho5 hc4
        go_wp2_with (at_builtin; refine wpList_append_lies _ (by rfl) _ _ 36 (by rfl) wd.heap.size 40 iR (.pointer none) 1 8 Try.underlying36 hiR hzR0 hzR1 hzR2 rfl (by omega) u14 k _ (by rfl) (hrR6.alloc _) ⟨w5.heap.size + 1, 0, none⟩ 1 1 (ptr w5.heap.size) (by rfl) (by rfl) hnews (by simp [Value.oneCell', ptr]) (by omega) (by unfold maxLen; omega) (by omega) (by simp; omega) (w5.heap.size + 1 + 1) (by simp) ?_; intro g7 cap7 w7 hrow7 hgrow7 hat7 hlt7)
        obtain ⟨hcD6, hcR6, hrD6, ho6⟩ := HX6.out
        have hal : Only [] (w5.alloc (.cells #[.int .i64 ((k : Int) + 1), .slice A5 L.length cap5, .int .i64 0, .int .i64 0] 44)) ((w5.alloc (.cells #[.int .i64 ((k : Int) + 1), .slice A5 L.length cap5, .int .i64 0, .int .i64 0] 44)).alloc (.cells #[.pointer (some ⟨w5.heap.size, 0, none⟩)] 40)) := (Only.refl _ _).alloc _
        refine ⟨⟨k + 1, Ps ++ [p], Qs ++ [w5.heap.size], by omega, by go_num, grown_row (owns_only0 hrD6 hal) (hrR6.alloc _) hgrow7 (by decide), by simpa using hrow7, grown_crowd (hcD6.only0 hal) (hrR6.alloc _) hgrow7 (by decide) (by decide),
          grown_crowd (hcR6.only0 hal) (hrR6.alloc _) hgrow7 (by decide) (by decide), grown_base (ho6.alloc _) (Nat.le_refl _) (hrR6.alloc _) hgrow7, fun x hx => by
          rcases List.mem_append.1 hx with h | h
          · exact hPs x h
          · simp at h; omega, fun x hx => by
          rcases List.mem_append.1 hx with h | h
          · exact hQs x h
          · simp at h; omega⟩, by simp [intOf]; omega⟩
    · obtain rfl : k = Ls.length := by omega
      rw [List.take_of_length_le (by rw [made_length]; exact Nat.le_refl _)] at hcD hcR
      have hlD : Ps.length = Ls.length := by rw [hcD.len, made_length]
      have hlR : Qs.length = Ls.length := by rw [hcR.len, made_length]
      rw [← hlD] at hrD
      rw [← hlR] at hrR
      obtain ⟨AD, capD, eD, hND⟩ := RowN.of_owns ptr_len hrD
      obtain ⟨AR, capR, eR, hNR⟩ := RowN.of_owns ptr_len hrR
      rw [hlD] at eD
      rw [hlR] at eR
      obtain ⟨we, rfl⟩ : ∃ x, x = wr := ⟨_, rfl⟩
      have hw2 := HW.out
      have hduo : Duo w we (w1.heap.size + 1) w1.heap.size (w2.heap.size + 1) w2.heap.size AD AR Ps Qs Ls.length (made Ls) ⟨limit, List.replicate cells.toNat ⟨0, 0, 0⟩⟩ :=
        ⟨hw2.1.only ho (by simp) (by simp), hw2.2.1.only ho (by simp) (by simp), hcD, hcR, hND, hNR, hw2.2.2.trans ho, told_made Ls⟩
      have hzw := HW.out.2.2.size
      have hzw1 := HZ1.out
      have HX := Lib.hid hduo
      clear hrD hrR hcD hcR hND hNR hw2 ho HW hduo
      subst eD eR
      go_wp2_with fail
      go_loopw [17] (fun i wx => ∃ (j : Nat) (Ds : List De) (s : St), j ≤ Xs.length ∧ i = .int .i64 j ∧ Duo w wx (w1.heap.size + 1) w1.heap.size (w2.heap.size + 1) w2.heap.size AD AR Ps Qs Ls.length Ds s) (fun i _ => Xs.length - (intOf i).toNat)
      case atStart => exact ⟨0, _, _, by omega, rfl, HX.out⟩
      case round =>
        clear HX
        obtain ⟨j, Ds, s, hj, rfl, hduo⟩ := hrel
        by_cases hlt : j < Xs.length
        · obtain ⟨x, hx⟩ : ∃ x, Xs[j]? = some x := ⟨_, List.getElem?_eq_getElem hlt⟩
          obtain ⟨b, off, hJ, hb, hc0⟩ := HI.out.at_ j x hx
          have hwf := HI.out.ok j x hx
          subst hJ
          have hc := (hduo.ho.cell (p := ⟨b, off + j, none⟩) hb (by simp)).trans hc0
          have HX := Lib.hid hduo
          clear hduo hc0 hx
          obtain ⟨m, hm, hmn⟩ : ∃ m : Nat, (x.tmod (Ls.length : Int) = m ∨ (x.tmod (Ls.length : Int) = -(m : Int) ∧ 1 ≤ m)) ∧ m < Ls.length := by
            have h1 : (x.tmod (Ls.length : Int)).natAbs < Ls.length := by
              rw [Int.natAbs_tmod]
              exact Nat.mod_lt _ (by simp; omega)
            refine ⟨(x.tmod (Ls.length : Int)).natAbs, ?_, by omega⟩
            by_cases h0 : 0 ≤ x.tmod (Ls.length : Int)
            · exact .inl (by omega)
            · exact .inr ⟨by omega, by omega⟩
          have HM := Lib.hid hm
          clear hm
          go_upto_if 115 with fail
          go_cut [18] (fun v wy => v = .int .i64 m ∧ wy = wr)
          case first =>
            rcases HM.out with e | ⟨e, e1⟩
            · have e2 : ¬ ((m : Int) < 0) := by omega
              simp only [e] at *
              go_wp2_with fail
              go_meet
              exact ⟨rfl, rfl⟩
            · have e2 : -(m : Int) < 0 := by omega
              simp only [e] at *
              go_wp2_with fail
              go_meet
              exact ⟨by simp, rfl⟩
          case rest =>
           as_aux_lemma =>
            obtain ⟨rfl, rfl⟩ := hcut
            obtain ⟨p, q, A1, A2, c1, c2, d, gD, gR, hpk, hqk, hdk, hAD, hAR, h2, ⟨curD, hbD⟩, ⟨curR, hbR⟩, hcelD, hcelR⟩ := HX.out.two hmn
            subst hAD hAR
            obtain ⟨x1, d1, s1, hstep⟩ : ∃ x1 d1 s1, stepD d s = (x1, d1, s1) := ⟨_, _, _, rfl⟩
            have hmk : d1.mark = d.mark := by
              have := stepD_mark d s
              rw [hstep] at this
              exact this
            have hmk1 : d1.mark = (m : Int) + 1 := by rw [hmk, HX.out.hT.mark m d hdk]
            have hf : ∀ W, Only [p, w1.heap.size, q, w2.heap.size] wc W → W.cell? ⟨gD, m, none⟩ = some (.pointer (some ⟨p, 0, none⟩)) ∧ W.cell? ⟨gR, m, none⟩ = some (.pointer (some ⟨q, 0, none⟩)) := fun W h =>
              ⟨(h.cell (p := ⟨gD, m, none⟩) hbD.lt (h2.apart hbD (by decide) (by decide) (by decide))).trans hcelD, (h.cell (p := ⟨gR, m, none⟩) hbR.lt (h2.apart hbR (by decide) (by decide) (by decide))).trans hcelR⟩
            have hoz : Only [p, w1.heap.size, q, w2.heap.size] wc wc.drew := (Only.refl _ _).drew
            have cS := step_desk (w := wc.drew) (h2.hd.drewN 1) (h2.hs.drewN 1)
            rw [hstep] at cS
            have b1 : (x1 != x1) = false := by simp
            have b2 : (d1.st != d1.st) = false := by simp
            have b3 : (d1.over != d1.over) = false := by simp
            have b4 : ((m : Int) + 1 != (m : Int) + 1) = false := by simp
            have b5 : IntKind.i64.wrap ((m : Int) + 1) = (m : Int) + 1 := IntWalk.i64_in _ (by omega)
            have HF := Lib.hid hf
            have H2 := Lib.hid h2
            have HZ := Lib.hid (show w2.heap.size + 1 ≠ w1.heap.size ∧ w2.heap.size ≠ w1.heap.size ∧ w1.heap.size + 1 ≠ w2.heap.size by omega)
            have HXX := Lib.hid (And.intro hpk (And.intro hqk (And.intro hdk hmk)))
            clear hf h2 hpk hqk hdk hmk hbD hbR hcelD hcelR
            go_wp2_with fail
            go_region_held3 (fun W => W.cell? ⟨gD, m, none⟩ = some (.pointer (some ⟨p, 0, none⟩)) ∧ W.cell? ⟨gR, m, none⟩ = some (.pointer (some ⟨q, 0, none⟩)))
              (first | exact HF.out _ hoz | exact HF.out _ hoz4 | exact HF.out _ hoz5)
              (first | (go_at_call 9; (with_reducible refine cS.mono ?_); clear cS; rintro e w4 ⟨rfl, hd4, hs4, ho4⟩; have ho4' := ((Only.refl _ wc).drew).trans ho4; have hoz4 := hoz.trans (in1 ho4); have h4 := H2.out.first ⟨HZ.out.1, HZ.out.2.1⟩ ho4'; clear hoz) | (go_at_call 10; have cT := step_ref h4.1 h4.2; rw [hstep] at cT; (with_reducible refine cT.mono ?_); clear cT; rintro e w5 ⟨rfl, hq5, hr5, ho5⟩; have hoz5 := hoz4.trans (in2 ho5); have h5 := two_second ⟨HZ.out.2.2, Ne.symm HZ.out.2.1⟩ hd4 hs4 h4.1 h4.2 ho5; clear hoz4 h4; refine fork (X := ∀ W : World, W.cell? ⟨q, 2, none⟩ = some (.int .i64 d1.st)) (fun h _ => h.out.elim) (fun hF hall => ?_) (by
                have rD : ∀ o : Since w5, o.val.cell? ⟨gD, m, none⟩ = some (.pointer (some ⟨p, 0, none⟩)) := fun o => (HF.out _ (hoz5.trans o.only.in0)).1
                have rR : ∀ o : Since w5, o.val.cell? ⟨gR, m, none⟩ = some (.pointer (some ⟨q, 0, none⟩)) := fun o => (HF.out _ (hoz5.trans o.only.in0)).2
                have rq : ∀ o : Since w5, o.val.cell? ⟨q, 2, none⟩ = some (.int .i64 d1.st) := fun o => (hq5.only0 o.only).c2
                have kS : ∀ o : Since w5, Calls Try.prog 11 #[.pointer (some ⟨p, 0, none⟩)] o.val fun e w' => e = .returned (.int .i64 d1.st) ∧ ∃ o' : Since w5, w' = o'.val := fun o =>
                  (status_any (h5.1.only0 o.only)).mono fun _ _ ⟨he, hw⟩ => ⟨he, o, hw.symm⟩
                have kO : ∀ o : Since w5, Calls Try.prog 12 #[.pointer (some ⟨p, 0, none⟩)] o.val fun e w' => e = .returned (.bool d1.over) ∧ ∃ o' : Since w5, w' = o'.val := fun o =>
                  (over_any (h5.1.only0 o.only)).mono fun _ _ ⟨he, n, hw⟩ => ⟨he, ⟨_, by rw [hw]; exact o.only.drewN n⟩, rfl⟩
                have kR : ∀ o : Since w5, Calls Try.prog 13 #[.pointer (some ⟨q, 0, none⟩)] o.val fun e w' => e = .returned (.bool d1.over) ∧ ∃ o' : Since w5, w' = o'.val := fun o =>
                  (rover_any (hq5.only0 o.only)).mono fun _ _ ⟨he, n, hw⟩ => ⟨he, ⟨_, by rw [hw]; exact o.only.drewN n⟩, rfl⟩
                have kM : ∀ o : Since w5, Calls Try.prog 14 #[.pointer (some ⟨p, 0, none⟩)] o.val fun e w' => e = .returned (.int .i64 ((m : Int) + 1)) ∧ ∃ o' : Since w5, w' = o'.val := fun o =>
                  (mark_any (h5.1.only0 o.only)).mono fun _ _ ⟨he, hw⟩ => ⟨by rw [he, hmk1], o, hw.symm⟩
                have kE : ∀ o : Since w5, Calls Try.prog 15 #[.pointer (some ⟨w1.heap.size + 1, 0, none⟩), .pointer (some ⟨w2.heap.size + 1, 0, none⟩)] o.val fun e w' => e = .returned (.bool true) ∧ ∃ o' : Since w5, w' = o'.val := fun o =>
                  (same_any (h5.2.only o.only (by simp) (by simp)) (hr5.only o.only (by simp) (by simp))).mono fun _ _ ⟨he, hw⟩ => ⟨he, ⟨_, o.only.trans hw⟩, rfl⟩
                have KS := Lib.hid kS
                have KO := Lib.hid kO
                have KR := Lib.hid kR
                have KM := Lib.hid kM
                have KE := Lib.hid kE
                obtain ⟨hpk, hqk, hdk, hmk⟩ := HXX.out
                have hzz : w.heap.size ≤ p ∧ w.heap.size ≤ w1.heap.size ∧ w.heap.size ≤ q ∧ w.heap.size ≤ w2.heap.size := by
                  have h1 := hPs p (List.mem_of_getElem? hpk)
                  have h2 := hQs q (List.mem_of_getElem? hqk)
                  omega
                have hfin := HX.out.step H2.out HZ.out hzz hpk hqk hdk hmk ho4' hd4 hs4 ho5 hq5 hr5
                have HFIN := Lib.hid hfin
                have hway := ‹Shut (∀ (a : Act) (W : World), _ → (_ → wpAnyH _ _ _ _ _ _ _ a W) → _)›
                refine hway.out _ _ (HF.out _ hoz5) (fun _ => ?_)
                clear hway
                refine rest_quiet12 (by kernel_rfl) (by rfl) (by kernel_rfl) (fun o => HF.out _ (hoz5.trans o.only.in0)) ?_
                clear kS kO kR kM kE hfin h5 hq5 hr5 hd4 hs4 ho4 ho4' ho5 hoz5 hpk hqk hdk hmk hzz
                repeat (go_big_quiet_step (first
                  | (go_at_call 11; exact KS.out _)
                  | (go_at_call 12; exact KO.out _)
                  | (go_at_call 13; exact KR.out _)
                  | (go_at_call 14; exact KM.out _)
                  | (go_at_call 15; exact KE.out _)))
                refine wpQuiet_nil ?_
                intro o
                refine NoPanic.normal ?_
                have hfo := HFIN.out.only0 o.only
                have HFO := Lib.hid hfo
                clear hfo HFIN HF H2 HX HXX rD rR rq KS KO KR KM KE
                go_wp2_with fail
                exact ⟨⟨j + 1, _, _, by omega, by go_num, HFO.out⟩, by simp [intOf]; omega⟩)) | (go_at_call 11; (with_reducible refine (status_any h5.1).mono ?_); rintro e w' ⟨rfl, rfl⟩) | (go_at_call 12; (with_reducible refine (show Calls Try.prog 12 #[.pointer (some ⟨p, 0, none⟩)] w5 (fun e w' => e = .returned (.bool d1.over) ∧ w5 = w') from hF.out.elim).mono ?_); rintro e w' ⟨rfl, rfl⟩) | (go_at_call 13; (with_reducible refine (show Calls Try.prog 13 #[.pointer (some ⟨q, 0, none⟩)] w5 (fun e w' => e = .returned (.bool d1.over) ∧ w5 = w') from hF.out.elim).mono ?_); rintro e w' ⟨rfl, rfl⟩) | (go_at_call 14; (with_reducible refine (show Calls Try.prog 14 #[.pointer (some ⟨p, 0, none⟩)] w5 (fun e w' => e = .returned (.int .i64 ((m : Int) + 1)) ∧ w5 = w') from hF.out.elim).mono ?_); rintro e w' ⟨rfl, rfl⟩) | (go_at_call 15; (with_reducible refine (show Calls Try.prog 15 #[.pointer (some ⟨w1.heap.size + 1, 0, none⟩), .pointer (some ⟨w2.heap.size + 1, 0, none⟩)] w5 (fun e w' => e = .returned (.bool true) ∧ w5 = w') from hF.out.elim).mono ?_); rintro e w' ⟨rfl, rfl⟩))
            exact hF.out.elim
        · obtain rfl : j = Xs.length := by omega
          have ho := hduo.ho
          clear hduo
          go_wp2_with fail
          go_ret
          exact ⟨rfl, ho⟩
end
end Go.Proofs.Ytgkjkmdenmighaa
