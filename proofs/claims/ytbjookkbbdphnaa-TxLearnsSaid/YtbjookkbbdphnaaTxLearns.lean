/- TxLearns' walk: for every two lists it answers true (layer 6). -/
import Derived.Test.YtbjookkbbdphnaaTxDos
import Derived.Test.YtbjookkbbdphnaaTxLearnsM
import Derived.Test.YtbjookkbbdphnaaWordB
import Derived.Deep.DeepCutAuto
namespace Go.Proofs.Ytbjookkbbdphnaa
open Go.RowKit Go.Maps
theorem infoBoolW : (Try.prog.info? 4).map (fun i => (i.zero, i.size, i.bytes)) = some (some (.bool false), 1, 1) := by kernel_rfl
theorem infoU64W : (Try.prog.info? 34).map (fun i => (i.zero, i.size, i.bytes)) = some (some (.int .u64 0), 1, 8) := by kernel_rfl
section
variable {A C : Option Addr} {V : List Int} {P : List O}
set_option maxRecDepth 100000 in
set_option maxHeartbeats 8000000 in
theorem learns_any (cp cq : Nat) (w : World) (hV : Wds w A V) (hP : Ops w C P) (hv : V.length ≤ 9223372036854775807) (hp : P.length ≤ 9223372036854775807) :
    Calls Try.prog 3 #[.slice A V.length cp, .slice C P.length cq] w fun e w' => e = .returned (.bool true) ∧ Only [] w w' := by
  have hgo : V.length < 1 ∨ 60 < V.length ∨ 40 < P.length ∨ (1 ≤ V.length ∧ V.length ≤ 60 ∧ P.length ≤ 40) := by omega
  have hbad : ∀ (G : (V.length < 1 ∨ (1 ≤ V.length ∧ 60 < V.length) ∨ (1 ≤ V.length ∧ V.length ≤ 60 ∧ 40 < P.length))),
      Calls Try.prog 3 #[.slice A V.length cp, .slice C P.length cq] w fun e w' => e = .returned (.bool true) ∧ Only [] w w' := by
    intro G
    rcases G with h1 | ⟨h1, h2⟩ | ⟨h1, h2, h3⟩
    all_goals
      go_enter Try.func3, Try.ntmps3
      go_wp2_with fail
      (with_reducible refine (up_any _).mono ?_)
      rintro e w1 ⟨rfl, ho1⟩
      have c1 : w1.cell? ⟨w.heap.size, 0, none⟩ = some (.slice C P.length cq) := (ho1.blk (Blk.new w 23 #[.slice C P.length cq]) (by simp)).cell 0
      have ho := ((Only.refl [] w).alloc _).trans ho1
      clear ho1
      go_wp2_with fail
      go_ret
      exact ⟨rfl, ho⟩
  by_cases h1 : V.length < 1
  · exact hbad (by omega)
  by_cases h2 : 60 < V.length
  · exact hbad (by omega)
  by_cases h3 : 40 < P.length
  · exact hbad (by omega)
  clear hbad hgo
  replace h1 : 1 ≤ V.length := by omega
  replace h2 : V.length ≤ 60 := by omega
  replace h3 : P.length ≤ 40 := by omega
  have hmb := Lib.hid fun W : World => run_makeN (P := Try.prog) (t := 35) (f := brow) false infoBoolW Try.underlying35 brow_len (by omega) rfl .i64 .i64 (V.length : Int) (V.length : Int) (by omega) (by omega) (by omega) (by omega) W
  go_enter Try.func3, Try.ntmps3
  go_wp2_with fail
  (with_reducible refine (up_any _).mono ?_)
  rintro e w1 ⟨rfl, ho1⟩
  have hB1 := ho1.blk (Blk.new w 23 #[.slice C P.length cq]) (by simp)
  have c1 : w1.cell? ⟨w.heap.size, 0, none⟩ = some (.slice C P.length cq) := hB1.cell 0
  have ho := ((Only.refl [] w).alloc _).trans ho1
  have hz1 : w.heap.size + 1 ≤ w1.heap.size := by have := ho1.size; simp at this; omega
  clear ho1
  go_wp2_with fail
  refine (new_good (V.length : Int) 9 w1 (by omega) (by omega) (by omega) (by omega)).mono ?_
  rintro e w2 ⟨rfl, hs2, ho2⟩
  rw [codeV0]
  replace hs2 : StoreAt w2 WT (w1.heap.size + 1) w1.heap.size (stV V 0) := by rw [stV_new]; simpa using hs2
  replace hB1 := ho2.blk hB1 (by simp)
  replace ho := ho.trans ho2
  have hz2 : w1.heap.size + 1 < w2.heap.size := hs2.head.lt
  clear c1 ho2
  go_wp2_with fail
  refine (txNew_any w2 (V.length : Int) (by omega)).mono ?_
  rintro e w3 ⟨rfl, hr3, ho3⟩
  replace hs2 := hs2.only ho3 (by simp) (by simp)
  replace hB1 := ho3.blk hB1 (by simp)
  replace ho := ho.trans ho3
  have hz3 : w2.heap.size + 1 < w3.heap.size := hr3.blk.lt
  clear ho3
  go_wp2_with fail
  go_loopw [10] (fun i wr => ∃ (k : Nat), k ≤ V.length ∧ i = .int .i64 k ∧ StoreAt wr WT (w1.heap.size + 1) w1.heap.size (stV V k) ∧ RecAt wr (w2.heap.size + 1) w2.heap.size 0 V.length (.pointer none) (fun _ => none) 0 ∧
    Blk wr w.heap.size 23 #[.slice C P.length cq] ∧ Only [] w wr ∧ w2.heap.size + 1 < wr.heap.size) (fun i _ => V.length - (intOf i).toNat)
  case atStart => exact ⟨0, by omega, rfl, hs2, hr3, hB1, ho, by omega⟩
  case round =>
    clear hs2 hr3 hB1 ho
    obtain ⟨k, hk, rfl, hs, hr, hB, ho, hz⟩ := hrel
    by_cases hlt : k < V.length
    · obtain ⟨x, hx⟩ : ∃ x, V[k]? = some x := ⟨_, List.getElem?_eq_getElem hlt⟩
      obtain ⟨pb, po, rfl, hpb, hpc⟩ := hV k x hx
      have pc := (ho.cell (p := ⟨pb, po + k, none⟩) hpb (by simp)).trans hpc
      have cS := set_any (w1.heap.size + 1) w1.heap.size (stV V k) (k : Int) x wr hs
      rw [stV_set hx] at cS
      have HB := Lib.hid (And.intro hr (And.intro hB (And.intro ho hz)))
      clear hx hr hB ho hz hpc hs
      go_wp2_with fail
      refine cS.mono ?_
      clear cS
      rintro e w4 ⟨rfl, hs4, ho4⟩
      go_wp2_with fail
      obtain ⟨hr, hB, ho, hz⟩ := HB.out
      exact ⟨⟨k + 1, by omega, by go_num, hs4, hr.only ho4 (by simp; omega) (by simp; omega), ho4.blk hB (by simp; omega), ho.then ho4 (fun y hy => .inr (by simp at hy; omega)), Nat.lt_of_lt_of_le hz ho4.size⟩, by simp [intOf]; omega⟩
    · obtain rfl : k = V.length := by omega
      obtain ⟨wb, rfl⟩ : ∃ x, x = wr := ⟨_, rfl⟩
      go_wp2_with fail
      rw [hmb.out]
      go_wp2_with fail
      have hO1 : Only [] wb (wb.alloc (.cells (flat brow (List.replicate V.length false)) 4)) := (Only.refl _ _).alloc _
      have hO2 : Only [] wb ((wb.alloc (.cells (flat brow (List.replicate V.length false)) 4)).alloc (.cells #[.int .u64 0] 34)) := hO1.alloc _
      have hL := (Blk.new wb 4 (flat brow (List.replicate V.length false))).alloc (.cells #[.int .u64 0] 34)
      have hT := Blk.new (wb.alloc (.cells (flat brow (List.replicate V.length false)) 4)) 34 #[.int .u64 0]
      rw [World.size_alloc] at hT
      replace hs := hs.only hO2 (by simp) (by simp)
      replace hr := hr.only hO2 (by simp) (by simp)
      replace hB := hO2.blk hB (by simp)
      replace ho := ho.trans hO2
      generalize (wb.alloc (.cells (flat brow (List.replicate V.length false)) 4)).alloc (.cells #[.int .u64 0] 34) = wd at hs hr hB ho hL hT ⊢
      clear hO1 hO2 hmb
      go_loopw [12] (fun mv wr => ∃ (many : Nat) (R : Int → Option Cl) (last : Value) (B : List Bool) (told : Int), mv = .int .i64 many ∧ StoreAt wr WT (w1.heap.size + 1) w1.heap.size (stV V V.length) ∧
        RecAt wr (w2.heap.size + 1) w2.heap.size many V.length last R many ∧ Blk wr w.heap.size 23 #[.slice C P.length cq] ∧ Blk wr wb.heap.size 4 (flat brow B) ∧ Blk wr (wb.heap.size + 1) 34 #[.int .u64 told] ∧
        Marks V.length V R B many ∧ Only [] w wr) (fun mv _ => V.length - (intOf mv).toNat)
      case atStart => exact ⟨0, _, _, _, _, rfl, hs, hr, hB, hL, hT, marks_new V, ho⟩
      case round =>
        clear hs hr hB ho hL hT
        obtain ⟨many, R, last, B, told, rfl, hs, hr, hB, hL, hT, hM, ho⟩ := hrel
        obtain ⟨xx, hxx⟩ : ∃ xx, doL (machD V.length R) P 0 Dt.new = xx := ⟨_, rfl⟩
        have hlt := hT.lt
        have hbt : w2.heap.size + 1 ≠ wb.heap.size + 1 := by omega
        have cR := Run_any hr 10 #[.pointer (some ⟨w.heap.size, 0, none⟩), .pointer (some ⟨wb.heap.size + 1, 0, none⟩)] [wb.heap.size + 1] [wb.heap.size + 1]
          (fun s w' => s = xx.2 ∧ Blk w' (wb.heap.size + 1) 34 #[.int .u64 xx.1]) (fun s a b h hk => ⟨h.1, (hk _ (by simp)).trans h.2⟩) (by simp; omega) (by simp; omega) enters10 (fun bd bw wa g1 g2 hra hda hoa => by
            have hk1 := hP.lt
            refine (learns1_any hra hda ((hoa.blk hB (by simp)).cell 0) (by have := hoa.size; omega) (hoa.blk hT (by simp)) (hP.only (ho.trans hoa) (by simp)) (fun k hk => by have := hk1 k hk; omega) (by omega) (by omega) h3).mono ?_
            rintro e w' ⟨he, m, s, hd', ho', hs', hb'⟩
            rw [hxx] at hs' hb'
            exact ⟨he, m, s, hd', ho', hs', hb'⟩)
        have HX := Lib.hid (And.intro hs (And.intro hB (And.intro hL (And.intro hM ho))))
        have HXX := Lib.hid hxx
        clear hs hr hB hL hT hM ho hxx
        go_wp2_with fail
        refine cR.mono ?_
        clear cR
        rintro e w4 ⟨bd, bw, m, s, rfl, hbd, hbw, hr4, hd4, ho4, rfl, hT4⟩
        obtain ⟨hs, hB, hL, hM, ho⟩ := HX.out
        have hOk := doD_lacks (cells := V.length) (R := R) P 0 (s := Dt.new) (fun y hy => by cases hy)
        rw [HXX.out] at hOk
        replace hs := hs.only ho4 (by simp; omega) (by simp; omega)
        replace hB := ho4.blk hB (by simp; omega)
        replace hL := ho4.blk hL (by simp; omega)
        replace ho := ho.then ho4 (fun y hy => .inr (by simp at hy; omega))
        obtain ⟨lk, hlk⟩ : ∃ lk, xx.2.lk = lk := ⟨_, rfl⟩
        rw [hlk]
        have HLK := Lib.hid hlk
        cases lk with
        | some y =>
          obtain ⟨hy1, hy2⟩ := hOk y hlk
          obtain ⟨y1, y2⟩ := inB_yes.1 hy1
          obtain ⟨k, rfl⟩ : ∃ k : Nat, y = k := ⟨y.toNat, by omega⟩
          have hk : k < V.length := by omega
          obtain ⟨x, hx⟩ : ∃ x, V[k]? = some x := ⟨_, List.getElem?_eq_getElem hk⟩
          have cE := entries_lacks hr4 hd4 (by rw [hlk]; rfl)
          have hbk := brow_at (hM.no hk hy2)
          have hbc := (hL.cell k).trans hbk
          have hbf : w4.frozen? ⟨wb.heap.size, k, none⟩ = false := hL.frozen k
          have q1 : decide ((k : Int) < 0) = false := by simp
          have q2 : decide ((V.length : Int) ≤ k) = false := by simp; omega
          have hm1 : many + 1 ≤ V.length := by have := (hM.more rfl hx hy2).le; omega
          have HH := Lib.hid (And.intro hx (And.intro hy2 (And.intro hM (And.intro hy1 hbk))))
          simp only [Option.getD_some, Option.isSome_some, Bool.not_true]
          clear hOk hlk hx hy2 hM hy1 hbk hd4 HLK HXX HX
          go_wp2_with (go_at_call 12; (with_reducible refine cE.mono ?_); clear cE; rintro e w' ⟨rfl, rfl⟩)
          have hw5 : Only [wb.heap.size] w4 (w4.setCell ⟨wb.heap.size, k, none⟩ (.bool true)) := (Only.refl _ _).setCell (p := ⟨wb.heap.size, k, none⟩) (.inl (by simp)) _
          replace hL := hL.set_ k (.bool true)
          rw [brow_set (HH.out.2.2.1.no hk HH.out.2.1)] at hL
          replace hs := hs.only hw5 (by simp; omega) (by simp; omega)
          replace hB := hw5.blk hB (by simp; omega)
          replace hT4 := hw5.blk hT4 (by simp)
          replace hr4 := hr4.only hw5 (by simp; omega) (by simp; omega)
          replace ho := ho.then hw5 (fun y hy => .inr (by simp at hy; omega))
          generalize w4.setCell ⟨wb.heap.size, k, none⟩ (.bool true) = w5 at hL hs hB hT4 hr4 ho ⊢
          clear hbc hbf hw5 q1 q2
          have cS := read_any _ _ _ (k : Int) w5 hs
          have eS : readI (stV V V.length) (k : Int) = (0, ⟨x, 0, 0⟩) := by simp [readI, stV_get_all V HH.out.1]
          rw [eS] at cS
          clear eS
          refine cS.mono ?_
          clear cS
          rintro e w6 ⟨rfl, ho6⟩
          rw [codeV0]
          simp only [cV]
          replace hL := ho6.blk hL (by simp)
          replace hs := hs.only ho6 (by simp) (by simp)
          replace hB := ho6.blk hB (by simp)
          replace hT4 := ho6.blk hT4 (by simp)
          replace hr4 := hr4.only ho6 (by simp) (by simp)
          replace ho := ho.trans ho6
          clear ho6
          go_wp2_with fail
          have ho7 : Only [] w6 (w6.alloc (.cells #[.int .u64 x, .int .u32 0, .int .i64 0] 45)) := (Only.refl _ _).alloc _
          have hb7 := Blk.new w6 45 #[.int .u64 x, .int .u32 0, .int .i64 0]
          have hz7 : (w6.alloc (.cells #[.int .u64 x, .int .u32 0, .int .i64 0] 45)).heap.size = w6.heap.size + 1 := by simp
          replace hL := ho7.blk hL (by simp)
          replace hs := hs.only ho7 (by simp) (by simp)
          replace hB := ho7.blk hB (by simp)
          replace hT4 := ho7.blk hT4 (by simp)
          replace hr4 := hr4.only ho7 (by simp) (by simp)
          replace ho := ho.trans ho7
          generalize w6.alloc (.cells #[.int .u64 x, .int .u32 0, .int .i64 0] 45) = w7 at hL hs hB hT4 hr4 ho hb7 hz7 ⊢
          clear ho7
          (with_reducible refine (reads_any hr4).mono ?_)
          rintro e w' ⟨rfl, rfl⟩
          have k0 : w7.cell? ⟨w6.heap.size, 0, none⟩ = some (.int .u64 x) := hb7.cell 0
          have k1 : w7.cell? ⟨w6.heap.size, 1, none⟩ = some (.int .u32 0) := hb7.cell 1
          have k2 : w7.cell? ⟨w6.heap.size, 2, none⟩ = some (.int .i64 0) := hb7.cell 2
          have cL := learn_any hr4 (k : Int) ⟨x, 0, 0⟩ (by unfold maxLen; omega)
          rw [show lrn V.length R (k : Int) ⟨x, 0, 0⟩ = upd R k ⟨x, 0, 0⟩ by simp [lrn, HH.out.2.2.2.1], show lrnS V.length R many (k : Int) = many + 1 by simp [lrnS, HH.out.2.2.2.1, HH.out.2.1]] at cL
          clear hb7 hr4
          go_wp2_with (go_at_call 15; (with_reducible refine cL.mono ?_); clear cL; rintro e w8 ⟨rfl, hr8, ho8⟩)
          obtain ⟨hx, hy2, hM, -, -⟩ := HH.out
          exact ⟨⟨many + 1, _, _, _, _, by go_num, hs.only ho8 (by simp; omega) (by simp; omega), hr8, ho8.blk hB (by simp; omega), ho8.blk hL (by simp; omega), ho8.blk hT4 (by simp; omega), hM.more rfl hx hy2, ho.then ho8 (fun y hy => .inr (by simp at hy; omega))⟩, by simp [intOf]; omega⟩
        | none =>
          have hsim := doD_sim (cells := V.length) hM.learnt P.length P (Nat.le_refl _) 0 Dt.new V (sim_new V rfl) (by rw [HXX.out]; exact hlk)
          rw [HXX.out] at hsim
          obtain ⟨LP, hLP⟩ : ∃ LP, doL machP P 0 V = LP := ⟨_, rfl⟩
          rw [hLP] at hsim
          have HLP := Lib.hid hLP
          have HS := Lib.hid (And.intro hsim (And.intro hM hd4))
          clear hsim hM hd4 hOk hLP HX HXX hlk
          simp only [Option.getD_none, Option.isSome_none, Bool.not_false]
          obtain ⟨iU, hi0, hz0, hz1', hz2'⟩ := info_parts infoU64W
          have hE1 := World.ownsRow_made (base := w4.heap.size) (e := 34) (size := 1) w4 #[] 0 (Nat.le_refl _) (by unfold maxLen; omega) rfl
          have hV4 := hV.only0 (ho.alloc (.cells #[] 34))
          go_wp2_with (first | (at_builtin; refine wpList_append_words _ rfl _ _ 22 rfl w4.heap.size 34 iU (.int .u64 0) Try.underlying22 hi0 hz0 hz1' hz2' rfl w4.heap.size rfl hE1 A V cp rfl hV4 (by omega) (by simp) ?_; intro g1 cap1 w5 hrow1 hgrow1; clear hE1 hV4))
          have hw5 : Only [] w4 w5 := only_grown ((Only.refl [] w4).alloc _) hgrow1 (fun j e => by cases e; exact Nat.le_refl _)
          have hg1 := hrow1.lt g1 rfl
          have hR1 := RowU.of_owns hrow1
          replace hL := hw5.blk hL (by simp)
          replace hB := hw5.blk hB (by simp)
          replace hT4 := hw5.blk hT4 (by simp)
          replace hr4 := hr4.only hw5 (by simp) (by simp)
          replace ho := ho.trans hw5
          have hz4 : wb.heap.size + 1 < w4.heap.size := Nat.lt_of_lt_of_le hlt (by have := ho4.size; omega)
          have hd5 := Lib.hid (HS.out.2.2.only hw5 (by simp) (by simp))
          clear hrow1 hgrow1 ho4 hs
          have hP5 : Ops w5.drew C P := hP.only (ho.drewN 1) (by simp)
          have hkP := hP.lt
          have cD := do_any (viewP g1 V.length cap1 34) (cap := cq) hP5 (fun k hk => by have := hkP k hk; have := ho.size; simp; omega) h3 (s0 := V) ⟨rfl, hR1.drewN 1⟩
          rw [HLP.out, HS.out.1.1] at cD
          have hf : ∀ W, Only [g1] w5 W → Only [g1] w5 W ∧ W.cell? ⟨w.heap.size, 0, none⟩ = some (.slice C P.length cq) ∧ W.cell? ⟨wb.heap.size + 1, 0, none⟩ = some (.int .u64 xx.1) := fun W h =>
            ⟨h, (h.blk hB (by simp; omega)).cell 0, (h.blk hT4 (by simp; omega)).cell 0⟩
          have HF := Lib.hid hf
          clear hf hP5 hR1
          have hoy : Only [g1] w5 w5.drew := (Only.refl _ _).drewN 1
          go_region_held3 (fun W => Only [g1] w5 W ∧ W.cell? ⟨w.heap.size, 0, none⟩ = some (.slice C P.length cq) ∧ W.cell? ⟨wb.heap.size + 1, 0, none⟩ = some (.int .u64 xx.1))
            (first | exact HF.out _ hoy | exact HF.out _ hoz)
            (first | (go_at_call 11; (with_reducible refine cD.mono ?_); clear cD; rintro e w6 ⟨rfl, ⟨km, hlp, hR6⟩, ho6⟩; have hoz := hoy.trans ho6))
          have hbd4 := HS.out.2.2.blk.lt
          have hbw4 : bw < w4.heap.size := by obtain ⟨_, hh⟩ := HS.out.2.2.own; exact hh.lt
          have hd6 := hd5.out.only hoz (by simp; omega) (by simp; omega)
          have hr6 := hr4.only hoz (by simp; omega) (by simp; omega)
          replace hL := hoz.blk hL (by simp; omega)
          replace ho := ho.then hoz (fun y hy => .inr (by simp at hy; have := ho.size; omega))
          have hmV := HS.out.2.1.le
          have cE := entries_any hr6 hd6 (by rw [HS.out.1.2.none]; rfl) (by omega)
          clear hd5 hr4 hB hT4 HF hoy ho6 hd6
          go_wp2_with fail
          refine cE.mono ?_
          clear cE
          rintro e w7 ⟨ev, ks, rfl, hK, hrow, ho7⟩
          obtain ⟨EA, ecap, rfl, hcells⟩ := row_cells En.row_len hrow
          have hel : (ents R xx.2.wr ks).length = many := by simp [ents, hK.len]
          rw [hel]
          have hr7 := hr6.only ho7 (by simp) (by simp)
          replace hL := ho7.blk hL (by simp)
          have hR7 := hR6.only ho7 (by simp)
          replace ho := ho.trans ho7
          clear hrow hr6 hR6
          have hE2 := World.ownsRow_made (base := w7.heap.size) (e := 34) (size := 1) w7 #[] 0 (Nat.le_refl _) (by unfold maxLen; omega) rfl
          have hV7 := hV.only0 (ho.alloc (.cells #[] 34))
          have HC := Lib.hid hcells
          have HK := Lib.hid hK
          clear hcells hel hK
          go_wp2_with (first | (go_at_call 14; (with_reducible refine (reads_any hr7).mono ?_); rintro e w' ⟨rfl, rfl⟩) | (at_builtin; refine wpList_append_words _ rfl _ _ 22 rfl w7.heap.size 34 iU (.int .u64 0) Try.underlying22 hi0 hz0 hz1' hz2' rfl w7.heap.size rfl hE2 A V cp rfl hV7 (by omega) (by simp) ?_; intro g2 cap2 w8 hrow2 hgrow2; clear hE2 hV7))
          have hw8 : Only [] w7 w8 := only_grown ((Only.refl [] w7).alloc _) hgrow2 (fun j e => by cases e; exact Nat.le_refl _)
          have hg2 := hrow2.lt g2 rfl
          have hR8 := RowU.of_owns hrow2
          replace hL := hw8.blk hL (by simp)
          replace hR7 := hR7.only hw8 (by simp)
          replace ho := ho.trans hw8
          have hz56 := hoz.size
          have hz67 := ho7.size
          have hz78 := hw8.size
          clear hrow2 hgrow2 hr7 ho7 hoz hw5
          go_loopw [21] (fun i wr => ∃ (k : Nat) (O : List Int), k ≤ many ∧ i = .int .i64 k ∧ OutAt V.length V xx.2 ks k O ∧ RowU wr g2 34 O ∧ Only [g2] w8 wr) (fun i _ => many - (intOf i).toNat)
          case atStart => exact ⟨0, V, by omega, rfl, outAt_new _ _ _ _, hR8, Only.refl _ _⟩
          case round =>
            clear hR8
            obtain ⟨k, O, hk, rfl, hO, hRO, hox⟩ := hrel
            by_cases hlt3 : k < many
            · have hkl : k < ks.length := by rw [HK.out.len]; exact hlt3
              obtain ⟨kx, hkx⟩ : ∃ x, ks[k]? = some x := ⟨_, List.getElem?_eq_getElem hkl⟩
              obtain ⟨c, hc⟩ := Option.isSome_iff_exists.1 (HK.out.has kx (List.mem_of_getElem? hkx))
              obtain ⟨hin, hcv, hcr⟩ := HS.out.2.1.learnt kx c hc
              obtain ⟨y1, y2⟩ := inB_yes.1 hin
              obtain ⟨p, rfl⟩ : ∃ p : Nat, kx = p := ⟨kx.toNat, by omega⟩
              have hpl : p < V.length := by omega
              obtain ⟨vx, hvx⟩ : ∃ x, V[p]? = some x := ⟨_, List.getElem?_eq_getElem hpl⟩
              rw [atL_in hvx] at hcv
              obtain ⟨nw, wv, he, hwv, hnw⟩ := ent_form xx.2.wr p c
              rw [hcv] at he hwv hnw
              rw [hcr] at he
              have hent : (ents R xx.2.wr ks)[k]? = some ⟨p, 0, vx, nw, wv⟩ := by
                rw [ents, List.getElem?_map, hkx, Option.map_some, clOf, hc]
                exact congrArg some he
              obtain ⟨b, rfl, hb1, hb2, hbc⟩ := HC.out k _ hent
              obtain ⟨pb, po, rfl, hpb, hpc⟩ := hV p vx hvx
              have hbt := HS.out.2.1.yes hpl (by rw [hc]; rfl)
              have HH := Lib.hid (And.intro hkx (And.intro hvx (And.intro hO (And.intro hnw (And.intro hin hbt)))))
              have q : ∀ (j : Nat) (u : Value), (En.row ⟨p, 0, vx, nw, wv⟩)[j]? = some u → wr.cell? ⟨b, k * 5 + j, none⟩ = some u := fun j u hu =>
                (hox.cell (p := ⟨b, _, none⟩) (by simp; omega) (by simp; omega)).trans ((hw8.cell (p := ⟨b, _, none⟩) (by simp; omega) (by simp)).trans (hbc j u hu))
              have e0 : wr.cell? ⟨b, k * 5, none⟩ = some (.int .i64 p) := q 0 _ rfl
              have e1 := q 1 _ rfl
              have e2 := q 2 _ rfl
              have e3 := q 3 _ rfl
              have e4 := q 4 _ rfl
              clear q hbc he hent hcv hcr hc hkx hvx hO hnw hin hbt
              go_wp2_with fail
              have hoA : Only [] wr (wr.alloc (.cells #[.int .i64 p, .int .u32 0, .int .u64 vx, .int .u64 nw, .bool wv] 52)) := (Only.refl _ _).alloc _
              have hBx := Blk.new wr 52 #[.int .i64 p, .int .u32 0, .int .u64 vx, .int .u64 nw, .bool wv]
              have hRO1 := hRO.only hoA (by simp)
              have hox1 := hox.trans (hoA.more (by simp))
              have hzr := hox.size
              generalize wr.alloc (.cells #[.int .i64 p, .int .u32 0, .int .u64 vx, .int .u64 nw, .bool wv] 52) = wx at hBx hRO1 hox1 ⊢
              have x0 : wx.cell? ⟨wr.heap.size, 0, none⟩ = some (.int .i64 p) := hBx.cell 0
              have x1 : wx.cell? ⟨wr.heap.size, 1, none⟩ = some (.int .u32 0) := hBx.cell 1
              have x2 : wx.cell? ⟨wr.heap.size, 2, none⟩ = some (.int .u64 vx) := hBx.cell 2
              have x3 : wx.cell? ⟨wr.heap.size, 3, none⟩ = some (.int .u64 nw) := hBx.cell 3
              have x4 : wx.cell? ⟨wr.heap.size, 4, none⟩ = some (.bool wv) := hBx.cell 4
              have vc : wx.cell? ⟨pb, po + p, none⟩ = some (.int .u64 vx) := (hox1.cell (p := ⟨pb, _, none⟩) (by have := ho.size; simp; omega) (by have := ho.size; simp; omega)).trans ((ho.cell (p := ⟨pb, _, none⟩) hpb (by simp)).trans hpc)
              have t1 : decide ((p : Int) < 0) = false := by simp
              have t2 : decide ((V.length : Int) ≤ p) = false := by simp; omega
              have t2' : decide (V.length ≤ p) = false := by simp; omega
              clear e0 e1 e2 e3 e4 hoA hRO hox
              go_cut [200] (fun c wy => c = .bool false ∧ ∃ n, wy = wx.drewN n)
              case first =>
                by_cases h0 : 0 < k
                · obtain ⟨kq, hkq⟩ : ∃ x, ks[k - 1]? = some x := ⟨_, List.getElem?_eq_getElem (by omega)⟩
                  obtain ⟨cq', hcq⟩ := Option.isSome_iff_exists.1 (HK.out.has kq (List.mem_of_getElem? hkq))
                  obtain ⟨nq', wq', heq, -, -⟩ := ent_form xx.2.wr kq cq'
                  have henq : (ents R xx.2.wr ks)[k - 1]? = some ⟨kq, cq'.ver, cq'.v, nq', wq'⟩ := by
                    rw [ents, List.getElem?_map, hkq, Option.map_some, clOf, hcq]
                    exact congrArg some heq
                  obtain ⟨b2, e2, -, -, hd0⟩ := HC.out _ _ henq
                  injection e2 with e2
                  injection e2 with e2 _ _
                  subst e2
                  have hr := List.pairwise_iff_getElem.1 HK.out.rises (k - 1) k (by omega) hkl (by omega)
                  rw [(List.getElem?_eq_some_iff.1 hkq).2, (List.getElem?_eq_some_iff.1 HH.out.1).2] at hr
                  have a0 : wx.cell? ⟨b, (k - 1) * 5, none⟩ = some (.int .i64 kq) := (hox1.cell (p := ⟨b, _, none⟩) (by simp; omega) (by simp; omega)).trans ((hw8.cell (p := ⟨b, _, none⟩) (by simp; omega) (by simp)).trans (hd0 0 _ rfl))
                  have t3 : decide ((p : Int) ≤ kq) = false := by simp; omega
                  have k1 : (0 : Int) ≤ (k : Int) - 1 := by omega
                  have k2 : (k : Int) - 1 < (many : Int) := by omega
                  have k5 : (1 : Int) ≤ (k : Int) := by omega
                  have k6 : 1 ≤ k := by omega
                  have k3 : ((k : Int) - 1).toNat = k - 1 := by omega
                  have k4 : IntKind.i64.wrap ((k : Int) - 1) = (k : Int) - 1 := IntWalk.i64_in _ (by omega)
                  have k7 : decide ((0 : Int) < (k : Int)) = true := by simp; omega
                  have k8 : decide (0 < k) = true := by simp; omega
                  clear hkq hcq heq henq hd0 hr
                  go_big_quiet (fail)
                  go_wp2_with fail
                  go_meet
                  exact ⟨by simp [hpl], _, rfl⟩
                · have t4 : decide ((0 : Int) < (k : Int)) = false := by simp; omega
                  have t4' : decide (0 < k) = false := by simp; omega
                  go_big_quiet (fail)
                  go_wp2_with fail
                  go_meet
                  exact ⟨by simp [hpl], _, rfl⟩
              case rest =>
                obtain ⟨rfl, nq, hw⟩ := hcut
                have x0 : wc.cell? ⟨wr.heap.size, 0, none⟩ = some (.int .i64 p) := by rw [hw]; exact x0
                have x3 : wc.cell? ⟨wr.heap.size, 3, none⟩ = some (.int .u64 nw) := by rw [hw]; exact x3
                have hRO2 : RowU wc g2 34 O := by rw [hw]; exact hRO1.drewN nq
                have hox2 : Only [g2] w8 wc := by rw [hw]; exact hox1.drewN nq
                obtain ⟨hkx, hvx, hO, hnw, hin, hbt⟩ := HH.out
                have lc : wc.cell? ⟨wb.heap.size, p, none⟩ = some (.bool true) := ((hox2.blk hL (by simp; omega)).cell p).trans (brow_at hbt)
                have of : wc.frozen? ⟨g2, p, none⟩ = false := hRO2.frozen p
                obtain ⟨ov, oc⟩ : ∃ ov, wc.cell? ⟨g2, p, none⟩ = some (.int .u64 ov) := by
                  obtain ⟨gg, oo, e1, -, e2⟩ := hRO2.wds p _ (List.getElem?_eq_getElem (show p < O.length by rw [hO.1]; exact hpl))
                  injection e1 with e1
                  injection e1 with e1 e3 _
                  subst e1 e3
                  rw [Nat.zero_add] at e2
                  exact ⟨_, e2⟩
                have hOL : p < O.length := by rw [hO.1]; exact hpl
                have hR3 := hRO2.set_ hOL nw
                have hO3 := outAt_more (v := nw) hO hkx rfl hin (by rw [hnw, atL_in hvx])
                have ho3 : Only [g2] w8 (wc.setCell ⟨g2, p, none⟩ (.int .u64 nw)) := hox2.setCell (p := ⟨g2, p, none⟩) (.inl (by simp)) _
                have HF := Lib.hid (And.intro hR3 (And.intro hO3 ho3))
                clear hw x1 x2 x4 vc hRO1 hox1 hBx hRO2 hox2 hkx hvx hO hnw hin hbt hR3 hO3 ho3
                go_wp2_with fail
                obtain ⟨f1, f2, f3⟩ := HF.out
                exact ⟨⟨k + 1, _, by omega, by go_num, f2, f1, f3⟩, by simp [intOf]; omega⟩
            · obtain rfl : k = many := by omega
              obtain ⟨wc, rfl⟩ : ∃ x, x = wr := ⟨_, rfl⟩
              have hall := fun j hj => outAt_all (j := j) (by rw [HK.out.len]; exact hO) HK.out HS.out.1.2 hj
              have hPl := hR7.only hox (by simp; omega)
              have hOl := hO.1
              replace ho := ho.then hox (fun y hy => .inr (by simp at hy; have := ho.size; omega))
              have HA := Lib.hid (And.intro hall (And.intro hPl (And.intro hRO hOl)))
              clear hall hPl hOl hRO hO hox hL hR7
              go_wp2_with fail
              go_loopw [23] (fun i wx => ∃ (k2 nd : Nat), k2 ≤ V.length ∧ i = .int .i64 k2 ∧ wx = wc.drewN nd) (fun i _ => V.length - (intOf i).toNat)
              case atStart => exact ⟨0, 0, by omega, rfl, rfl⟩
              case round =>
                obtain ⟨k2, nd, hk2, rfl, hwx⟩ := hrel
                by_cases hlt4 : k2 < V.length
                · obtain ⟨hall, hPl, hRO, hOl⟩ := HA.out
                  have hk2O : k2 < O.length := by omega
                  obtain ⟨y, hy⟩ : ∃ y, O[k2]? = some y := ⟨_, List.getElem?_eq_getElem hk2O⟩
                  have oc : wr.cell? ⟨g2, k2, none⟩ = some (.int .u64 y) := by
                    obtain ⟨gg, oo, e1, -, e2⟩ := hRO.wds k2 _ hy
                    injection e1 with e1
                    injection e1 with e1 e3 _
                    subst e1 e3
                    rw [Nat.zero_add] at e2
                    rw [hwx]
                    exact e2
                  have hyl : atL LP.2 k2 = y := by rw [← hall k2 (inB_yes.2 ⟨by omega, by omega⟩), atL_in hy]
                  have cR : ∀ n, Calls Try.prog 16 #[.slice (some ⟨g1, 0, none⟩) V.length cap1, .int .i64 k2] (wr.drewN n) fun e w' => e = .returned (.int .u64 y) ∧ w' = wr.drewN n := fun n => by
                    have := pread_is cap1 (wr.drewN n) (L := LP.2) (A := some ⟨g1, 0, none⟩) (by rw [hwx]; exact ((hPl.drewN nd).drewN n).wds) hyl
                    rwa [hlp] at this
                  have HR := Lib.hid cR
                  have HW := Lib.hid hwx
                  have k0 : (0 : Int) ≤ (k2 : Int) := Int.natCast_nonneg _
                  have k1 : (k2 : Int) < (V.length : Int) := by omega
                  clear hall hPl hRO hOl hy hyl cR hwx
                  go_wp2_with fail
                  go_big_quiet ((go_at_call 16; exact Calls.quiet_of_same (HR.out _)))
                  go_wp2_with fail
                  exact ⟨⟨k2 + 1, nd + nq, by omega, by go_num, by rw [HW.out, World.drewN_drewN]⟩, by simp [intOf]; omega⟩
                · go_wp2_with fail
                  go_ret
                  exact ⟨rfl, ho.drewN nd⟩
end
end Go.Proofs.Ytbjookkbbdphnaa
