/- What advance, help and slices.IndexFunc do with a machine (layer 8). -/
import Derived.Test.YtleomgmhkoglmaaStmAdv
import Derived.Test.YtleomgmhkoglmaaStmMath
namespace Go.Proofs.Ytleomgmhkoglmaa
open Go.RowKit
/-- some blocks from base on have turned, none of them a box of a number -/
def Moves (base : Nat) (w w' : World) : Prop := ∃ S, Only S w w' ∧ Clear w S [IntT] ∧ ∀ x ∈ S, base ≤ x
section
variable {base : Nat} {w w' w'' : World}
theorem Moves.refl (w : World) : Moves base w w := ⟨[], Only.refl _ _, Clear.nil, by simp⟩
theorem Moves.of0 (h : Only [] w w') : Moves base w w' := ⟨[], h, Clear.nil, by simp⟩
theorem Moves.trans0 (h : Moves base w w') (ho : Only [] w' w'') : Moves base w w'' := by
  obtain ⟨S, h1, h2, h3⟩ := h
  exact ⟨S, h1.trans ho.in0, h2, h3⟩
theorem Moves.below (h : Moves base w w') : Below base w w' ∨ w.heap.size < base := by
  obtain ⟨S, h1, h2, h3⟩ := h
  rcases Nat.lt_or_ge w.heap.size base with h4 | h4
  · exact .inr h4
  · exact .inl (h1.to_below h4 h3)
theorem Moves.blk (h : Moves base w w') {x : Nat} {cur : Array Value} (hb : Blk w x IntT cur) : Blk w' x IntT cur := by
  obtain ⟨S, h1, h2, h3⟩ := h
  exact h1.blk hb (h2.not hb (by simp))
theorem Moves.trans (h : Moves base w w') (h' : Moves base w' w'') : Moves base w w'' := by
  obtain ⟨S, h1, h2, h3⟩ := h
  obtain ⟨S', k1, k2, k3⟩ := h'
  refine ⟨S ++ S', (h1.more (fun x _ hx => List.mem_append_left _ hx)).trans (k1.more (fun x _ hx => List.mem_append_right _ hx)), fun x hx t cur hb ht => ?_, fun x hx => ?_⟩
  · simp only [List.mem_cons, List.not_mem_nil, or_false] at ht
    subst ht
    rcases List.mem_append.1 hx with hx | hx
    · exact h2 x hx _ cur hb (by simp)
    · exact k2 x hx _ cur (h1.blk hb (h2.not hb (by simp))) (by simp)
  · rcases List.mem_append.1 hx with hx | hx
    · exact h3 x hx
    · exact k3 x hx
theorem Moves.new (h : Moves base w w') {x : Nat} (ho : Only [x] w' w'') (hx : w.heap.size ≤ x) : Moves base w w'' := by
  obtain ⟨S, h1, h2, h3⟩ := h
  exact ⟨S, h1.then ho (fun y hy => by simp only [List.mem_cons, List.not_mem_nil, or_false] at hy; subst hy; exact .inr hx), h2, h3⟩
variable {G : Geo} {J : List (List Jb)} {M : Ma} {Ps : List Nat} {Fs : List Ft} {AL : Value} {k i : Nat} {u : Wk} {n : Int}
theorem advance_any (h : MLie base w G J M Ps Fs AL) (hk : M.ws[k]? = some u) (hp : u.ph = .desc i n) (hL : M.log.length ≤ 1000000) :
    Calls Try.prog 49 #[.pointer (some ⟨G.pm, 0, none⟩), .int .i64 k] w fun e w' => e = .returned (.int .i64 (advance M k).1) ∧ (∃ AL', MLie base w' G J (advance M k).2 Ps Fs AL') ∧ Moves base w w' := by
  obtain ⟨pw, f, fv, js, hpw, hf, hfv, hjs, hw⟩ := h.at_ hk
  obtain ⟨jv, rv, dv, num, hb, hph⟩ := hw.blk
  rw [hp] at hph
  obtain ⟨_, ⟨p, rfl, hi⟩, hnum, _⟩ := hph
  subst hnum
  have hil := (List.getElem?_eq_some_iff.1 hi).1
  rw [h.crowd.len] at hil
  obtain ⟨d, hd⟩ : ∃ d, M.Ds[i]? = some d := ⟨_, List.getElem?_eq_getElem hil⟩
  obtain ⟨A, cap, hda⟩ := h.crowd.at_ i p d hi hd
  obtain ⟨g, cur, hAW, hgb, hgc⟩ := ptr_at h.row hpw
  have hkl := (List.getElem?_eq_some_iff.1 hk).1
  have hm := h.mach
  rw [hAW] at hm
  obtain ⟨T, ct, hT, _⟩ := RowN.of_owns irow_len (by simpa using hw.told)
  have hA : AdvAt base w G.pm G.ps G.gS g M.ws.length G.cW k M.Ds.length AL M.log.length (M.log.flatMap Lg.row) pw p fv f.tv jv rv num u.told.length A cap d M.s :=
    ⟨hm, hgc, ⟨_, hgb⟩, hkl, h.few, hb, ⟨T, ct, hT⟩, hda, h.store, h.log, hL, h.base_le⟩
  obtain ⟨x, d', s', hR⟩ : ∃ x d' s', stepD d M.s = (x, d', s') := ⟨_, _, _, rfl⟩
  have hlen : s'.L.length = M.s.L.length := by have := stepD_len d M.s; rw [hR] at this; exact this
  rw [advance_is hk hp hd, hR]
  simp only
  have hCS : Clear w [p, G.gS] [IntT] := (Clear.one hda.head (by decide)).app (S' := [G.gS]) (Clear.one h.store.body (by decide))
  have hbS : ∀ x ∈ [p, G.gS], base ≤ x := fun x hx => by
    simp only [List.mem_cons, List.not_mem_nil, or_false] at hx
    rcases hx with rfl | rfl
    · exact h.own.2.2 _ (List.mem_of_getElem? hi)
    · exact h.own.2.1
  by_cases hc : d.st = 0 ∧ (d'.st = 1 ∨ d'.st = 3)
  · refine (adv_logs hA hR hc.1 rfl rfl hc.2).mono ?_
    rintro e w3 ⟨rfl, w2, AL', hd2, hs2, ho2, hm3, hl3, ho3⟩
    have h2 := h.desc hi hda ho2 hd2 hs2 hlen
    have h3 := h2.logged (x := ⟨k, u.told.length, toldBy d' num, d'.st == 3⟩) ho3 (by rw [hAW]; simpa using hm3) (by simpa [Lg.row] using hl3)
    refine ⟨rfl, ⟨AL', ?_⟩, [p, G.gS] ++ (G.pm :: AL.ownBlock.toList), (ho2.more (fun x _ hx => List.mem_append_left _ hx)).trans (ho3.more (fun x _ hx => List.mem_append_right _ hx)), hCS.app ((Clear.one h.mach (by decide)).app (S' := AL.ownBlock.toList) (owns_clear h.log (by decide))), fun x hx => ?_⟩
    · unfold advM
      rw [if_pos hc]
      exact h3
    · rcases List.mem_append.1 hx with hx | hx
      · exact hbS x hx
      · rcases List.mem_cons.1 hx with rfl | hx
        · exact h.own.1
        · exact (h.log.lt x (by simpa using hx)).1
  · refine (adv_quiet hA hR hc).mono ?_
    rintro e w2 ⟨rfl, hd2, hs2, ho2⟩
    have h2 := h.desc hi hda ho2 hd2 hs2 hlen
    refine ⟨rfl, ⟨AL, ?_⟩, [p, G.gS], ho2, hCS, hbS⟩
    unfold advM
    rw [if_neg hc]
    exact h2
/-- what IndexFunc tells -/
def IdxIs (p : Nat → Bool) (n : Nat) (r : Int) : Prop := (∃ k : Nat, k < n ∧ p k = true ∧ (∀ j, j < k → p j = false) ∧ r = k) ∨ ((∀ j, j < n → p j = false) ∧ r = -1)
set_option maxRecDepth 100000 in
set_option maxHeartbeats 1600000 in
theorem index_any {AW : Option Addr} {Pw : List Nat} (cW : Nat) (hr : RowN w AW PWT ptr 1 Pw) (hn : Pw.length ≤ 8) (Gf : FuncId) (caps : Array Value) (p : Nat → Bool) (hE : ∀ (args : Array Value) (w : World), (callFunc Gf args).run Try.prog w = .ok (.enter Gf args) w)
    (hG : ∀ (k pw : Nat) (W : World), Pw[k]? = some pw → Only [] w W → Calls Try.prog Gf (#[.pointer (some ⟨pw, 0, none⟩)] ++ caps) W fun e W' => e = .returned (.bool (p k)) ∧ Only [] W W') :
    Calls Try.prog 46 #[.slice AW Pw.length cW, .func (.func Gf) #[] caps] w fun e w' => ∃ r, e = .returned (.int .i64 r) ∧ IdxIs p Pw.length r ∧ Only [] w w' := by
  go_enter Try.func46, Try.ntmps46
  go_wp2_with fail
  go_loopw [8] (fun i wr => ∃ k : Nat, k ≤ Pw.length ∧ i = .int .i64 k ∧ (∀ j, j < k → p j = false) ∧ Only [] w wr) (fun i _ => Pw.length - (intOf i).toNat)
  case atStart => exact ⟨0, by omega, rfl, by omega, Only.refl _ _⟩
  case round =>
    obtain ⟨k, hk, rfl, hno, ho⟩ := hrel
    by_cases hlt : k < Pw.length
    · obtain ⟨pw, hpw⟩ : ∃ pw, Pw[k]? = some pw := ⟨_, List.getElem?_eq_getElem hlt⟩
      obtain ⟨g, cur, rfl, hgb, hgc⟩ := ptr_at hr hpw
      have hgc' := (ho.cell (p := ⟨g, k, none⟩) hgb.lt (by simp)).trans hgc
      have hk0 : (0 : Int) ≤ (k : Int) := by omega
      have hk1 : (k : Int) < (Pw.length : Int) := by omega
      have hG' := hG k pw wr hpw ho
      have hno' := Lib.hid hno
      clear hG hr hgb hgc hpw hno
      by_cases hpk : p k = true
      · rw [hpk] at hG'
        go_wp2_with fail
        refine hG'.mono ?_
        rintro e w2 ⟨rfl, ho2⟩
        go_wp2
        go_ret
        exact ⟨_, rfl, .inl ⟨k, hlt, hpk, hno'.out, rfl⟩, ho.trans ho2⟩
      · replace hpk : p k = false := by simpa using hpk
        rw [hpk] at hG'
        go_wp2_with fail
        refine hG'.mono ?_
        rintro e w2 ⟨rfl, ho2⟩
        go_wp2
        go_roundw
        case rel =>
          refine ⟨k + 1, by omega, by go_num, fun j hj => ?_, ho.trans ho2⟩
          by_cases e : j = k
          · subst e; exact hpk
          · exact hno'.out j (by omega)
        case measure => simp [intOf]; omega
    · obtain rfl : k = Pw.length := by omega
      clear hG
      go_wp2
      go_ret
      exact ⟨_, rfl, .inr ⟨hno, rfl⟩, ho⟩
/-- does worker k's job bear the mark? -/
def bearsAt (M : Ma) (mark : Int) (k : Nat) : Bool := match M.ws[k]? with
  | some u => bears M.Ds mark u
  | none => false
theorem find_is {M : Ma} {mark r : Int} (h : IdxIs (bearsAt M mark) M.ws.length r) : (r = -1 ∧ M.ws.findIdx? (bears M.Ds mark) = none) ∨ ∃ (k : Nat) (u : Wk) (i : Nat) (n : Int), r = k ∧ M.ws[k]? = some u ∧ u.ph = .desc i n ∧ M.ws.findIdx? (bears M.Ds mark) = some k := by
  rcases h with ⟨k, hk, hp, hno, rfl⟩ | ⟨hno, rfl⟩
  · right
    obtain ⟨u, hu⟩ : ∃ u, M.ws[k]? = some u := ⟨_, List.getElem?_eq_getElem hk⟩
    have hb : bears M.Ds mark u = true := by simpa [bearsAt, hu] using hp
    have hf : M.ws.findIdx? (bears M.Ds mark) = some k := by
      rw [List.findIdx?_eq_some_iff_getElem]
      refine ⟨hk, by rw [(List.getElem?_eq_some_iff.1 hu).2]; exact hb, fun j hj => ?_⟩
      have := hno j hj
      simp only [bearsAt, List.getElem?_eq_getElem (Nat.lt_trans hj hk)] at this
      simp [this]
    cases hq : u.ph with
    | idle => simp [bears, hq] at hb
    | learn R => simp [bears, hq] at hb
    | desc i n => exact ⟨k, u, i, n, rfl, hu, hq, hf⟩
  · left
    refine ⟨rfl, ?_⟩
    rw [List.findIdx?_eq_none_iff]
    intro x hx
    obtain ⟨j, hj⟩ := List.getElem?_of_mem hx
    have := hno j (List.getElem?_eq_some_iff.1 hj).1
    simp only [bearsAt, hj] at this
    exact this
theorem bears_any (h : MLie base w G J M Ps Fs AL) {pw : Nat} (hpw : G.Pw[k]? = some pw) (mark : Int) :
    Calls Try.prog 48 #[.pointer (some ⟨pw, 0, none⟩), .int .i64 mark] w fun e w' => e = .returned (.bool (bearsAt M mark k)) ∧ w = w' := by
  have hl : k < M.ws.length := by rw [← h.len.1]; exact (List.getElem?_eq_some_iff.1 hpw).1
  obtain ⟨u, hu⟩ : ∃ u, M.ws[k]? = some u := ⟨_, List.getElem?_eq_getElem hl⟩
  obtain ⟨pw', f, fv, js, hpw', hf, hfv, hjs, hw⟩ := h.at_ hu
  rw [hpw] at hpw'
  cases hpw'
  obtain ⟨jv, rv, dv, num, hb, hph⟩ := hw.blk
  have c4 := hb.cell 4
  cases hq : u.ph with
  | idle =>
    rw [hq] at hph
    have e : bearsAt M mark k = false := by simp [bearsAt, hu, bears, hq]
    rw [e]
    rw [hph.2.1] at c4
    exact bears_nil c4 mark
  | learn R =>
    rw [hq] at hph
    have e : bearsAt M mark k = false := by simp [bearsAt, hu, bears, hq]
    rw [e]
    rw [hph.2.1] at c4
    exact bears_nil c4 mark
  | desc i n =>
    rw [hq] at hph
    obtain ⟨_, ⟨p, rfl, hi⟩, hnum, _⟩ := hph
    have hil := (List.getElem?_eq_some_iff.1 hi).1
    rw [h.crowd.len] at hil
    obtain ⟨d, hd⟩ : ∃ d, M.Ds[i]? = some d := ⟨_, List.getElem?_eq_getElem hil⟩
    obtain ⟨A, cap, hda⟩ := h.crowd.at_ i p d hi hd
    have e : bearsAt M mark k = (d.mark == mark) := by simp [bearsAt, hu, bears, hq, hd]
    rw [e]
    exact bears_desc c4 hda mark
theorem MLie.only0 (h : MLie base w G J M Ps Fs AL) (ho : Only [] w w') : MLie base w' G J M Ps Fs AL := h.only ho Clear.nil (by simp) (by simp)
theorem MLie.old (h : MLie base w G J M Ps Fs AL) {k : Nat} {f : Ft} (hf : Fs[k]? = some f) : ∀ x ∈ f.bl, x < w.heap.size := fun x hx => by
  have hl : k < M.ws.length := by rw [← h.len.2.1]; exact (List.getElem?_eq_some_iff.1 hf).1
  obtain ⟨pw, f', fv, js, h1, h2, h3, h4, h5⟩ := h.at_ (List.getElem?_eq_getElem hl)
  rw [hf] at h2
  cases h2
  exact (h5.lt.2 x hx).2
theorem MLie.box {M' : Ma} {Ps' : List Nat} {AL' : Value} {pb : Nat} {cur : Array Value} {w0 : World} (h : MLie base w G J M Ps Fs AL) (ho : Only [pb] w w') (hB : Blk w pb IntT cur) (hb : base ≤ pb) (h0 : MLie base w0 G J M' Ps' Fs AL') (hn : w0.heap.size ≤ pb) : MLie base w' G J M Ps Fs AL :=
  h.only ho (Clear.one hB (by decide)) (by simp [hb]) (fun k f hf x hx hm => by
    simp only [List.mem_cons, List.not_mem_nil, or_false] at hm
    have := h0.old hf x hx
    omega)
theorem MLie.adv_stuck (h : MLie base w G J M Ps Fs AL) (hu : M.ws[k]? = some u) (hq : u.ph = .desc i n) (hne : (advance M k).1 ≠ 0) : (advance M k).2 = M := by
  obtain ⟨pw, f, fv, js, hpw, hf, hfv, hjs, hw⟩ := h.at_ hu
  obtain ⟨jv, rv, dv, num, hb, hph⟩ := hw.blk
  rw [hq] at hph
  obtain ⟨_, ⟨p, rfl, hi⟩, hnum, _⟩ := hph
  have hil := (List.getElem?_eq_some_iff.1 hi).1
  rw [h.crowd.len] at hil
  obtain ⟨d, hd⟩ : ∃ d, M.Ds[i]? = some d := ⟨_, List.getElem?_eq_getElem hil⟩
  rw [advance_is hu hq hd] at hne ⊢
  obtain ⟨e1, e2⟩ := stepD_stuck hne
  simp only
  rw [e1, e2, advM_stuck hd]
theorem helpC_any (h : MLie base w G J M Ps Fs AL) {pw pb : Nat} (hpw : G.Pw[k]? = some pw) {mark : Int} (hB : Blk w pb IntT #[.int .i64 mark]) :
    Calls Try.prog 47 #[.pointer (some ⟨pw, 0, none⟩), .pointer (some ⟨pb, 0, none⟩)] w fun e w' => e = .returned (.bool (bearsAt M mark k)) ∧ Only [] w w' := by
  have c := hB.cell 0
  have cB := bears_any h hpw mark
  clear h
  go_enter Try.func47, Try.ntmps47
  go_wp2_with (go_at_call 48; (with_reducible refine cB.mono ?_); rintro e w1 ⟨rfl, rfl⟩)
  go_ret
  exact ⟨rfl, Only.refl _ _⟩
theorem helpM_succ (f : Nat) (M : Ma) (mark : Int) : helpM (f + 1) M mark = match M.ws.findIdx? (bears M.Ds mark) with
    | none => M
    | some k => if (advance M k).1 = 0 then (advance M k).2 else helpM f (advance M k).2 (advance M k).1 := rfl
theorem enterHelp (args : Array Value) (w : World) : (callFunc 47 args).run Try.prog w = .ok (.enter 47 args) w := by kernel_rfl
set_option maxRecDepth 100000 in
set_option maxHeartbeats 2000000 in
theorem help_any (h : MLie base w G J M Ps Fs AL) (mark : Int) (hL : M.log.length ≤ 1000000) :
    Calls Try.prog 28 #[.pointer (some ⟨G.pm, 0, none⟩), .int .i64 mark] w fun e w' => e = .returned (.tuple #[]) ∧ (∃ AL', MLie base w' G J (helpM M.ws.length M mark) Ps Fs AL') ∧ Moves base w w' := by
  have hB0 := Blk.new w IntT #[.int .i64 mark]
  have ho0 : Only [] w (w.alloc (.cells #[.int .i64 mark] IntT)) := (Only.refl _ _).alloc _
  have m1 : (w.alloc (.cells #[.int .i64 mark] IntT)).cell? ⟨G.pm, 1, none⟩ = some (.slice G.AW M.ws.length G.cW) := (h.only0 ho0).mach.cell 1
  have hfew := h.few
  have hlen := h.len.1
  have H := Lib.hid h
  have hbase := h.base_le
  clear h
  go_enter Try.func28, Try.ntmps28
  go_wp2_with fail
  go_loopw [10] (fun i wr => ∃ k : Nat, k ≤ M.ws.length ∧ i = .int .i64 k ∧ (∃ mk AL', Blk wr w.heap.size IntT #[.int .i64 mk] ∧ helpM (M.ws.length - k) M mk = helpM M.ws.length M mark ∧ MLie base wr G J M Ps Fs AL') ∧ Moves base w wr) (fun i _ => M.ws.length - (intOf i).toNat)
  case atStart => exact ⟨0, by omega, rfl, ⟨mark, AL, hB0, by simp, H.out.only0 ho0⟩, Moves.of0 ho0⟩
  case round =>
    obtain ⟨k, hk, rfl, ⟨mk, AL', hB, hM, hl⟩, hmv⟩ := hrel
    clear m1 hB0 ho0
    by_cases hlt : k < M.ws.length
    · have hk0 : (0 : Int) ≤ (k : Int) := by omega
      have m1 : wr.cell? ⟨G.pm, 1, none⟩ = some (.slice G.AW M.ws.length G.cW) := hl.mach.cell 1
      have cI := index_any G.cW hl.row (by omega) 47 #[.pointer (some ⟨w.heap.size, 0, none⟩)] (bearsAt M mk) enterHelp (fun j pw W hpw ho => helpC_any (hl.only0 ho) hpw (ho.blk hB (by simp)))
      rw [hlen] at cI
      have HL := Lib.hid hl
      have HB := Lib.hid hB
      have HV := Lib.hid hmv
      have HM := Lib.hid hM
      clear hl hB hmv hM
      go_wp2_with fail
      refine cI.mono ?_
      clear cI
      rintro e w2 ⟨r, rfl, hI, ho2⟩
      rcases find_is hI with ⟨rfl, hF⟩ | ⟨j, u, i, n, rfl, hu, hq, hF⟩
      · go_wp2_with fail
        refine bodyPost_ret (results_none rfl _ _ _) rfl ?_
        have e : M.ws.length - k = (M.ws.length - k - 1) + 1 := by omega
        have hM := HM.out
        rw [e, helpM_succ, hF] at hM
        exact ⟨rfl, ⟨AL', by rw [← hM]; exact HL.out.only0 ho2⟩, HV.out.trans0 ho2⟩
      · have cA := advance_any (HL.out.only0 ho2) hu hq hL
        have hj0 : (0 : Int) ≤ (j : Int) := by omega
        have hF' := Lib.hid hF
        have e : M.ws.length - k = (M.ws.length - k - 1) + 1 := by omega
        have hM := HM.out
        rw [e, helpM_succ, hF] at hM
        simp only at hM
        have hB2 := ho2.blk HB.out (by simp)
        have hV2 := HV.out.trans0 ho2
        have hst : (advance M j).1 ≠ 0 → (advance M j).2 = M := fun hne => HL.out.adv_stuck hu hq hne
        have HM2 := Lib.hid hM
        have HST := Lib.hid hst
        clear hI hF HM HL HB HV ho2 e hM hst hq hu m1
        obtain ⟨x, hx⟩ : ∃ x, Hid ((advance M j).1 = x) := ⟨_, Lib.hid rfl⟩
        rw [hx.out] at cA
        by_cases hx0 : x = 0
        · subst hx0
          go_wp2_with (go_at_call 49; (with_reducible refine cA.mono ?_); clear cA; rintro e w3 ⟨rfl, hl3, hv3⟩; have hB3 := hv3.blk hB2; have b0 : w3.cell? ⟨w.heap.size, 0, none⟩ = some (.int .i64 mk) := hB3.cell 0; have f0 : w3.frozen? ⟨w.heap.size, 0, none⟩ = false := hB3.frozen 0)
          refine bodyPost_ret (results_none rfl _ _ _) rfl ?_
          obtain ⟨AL3, hl3⟩ := hl3
          have hM := HM2.out
          rw [if_pos hx.out] at hM
          have hO : Only [w.heap.size] w3 (w3.setCell ⟨w.heap.size, 0, none⟩ (.int .i64 0)) := (Only.refl _ _).setCell (.inl (by simp)) _
          exact ⟨rfl, ⟨AL3, by rw [← hM]; exact hl3.box hO hB3 hbase H.out (Nat.le_refl _)⟩, (hV2.trans hv3).new hO (Nat.le_refl _)⟩
        · go_wp2_with (go_at_call 49; (with_reducible refine cA.mono ?_); clear cA; rintro e w3 ⟨rfl, hl3, hv3⟩; have hB3 := hv3.blk hB2; have b0 : w3.cell? ⟨w.heap.size, 0, none⟩ = some (.int .i64 mk) := hB3.cell 0; have f0 : w3.frozen? ⟨w.heap.size, 0, none⟩ = false := hB3.frozen 0)
          obtain ⟨AL3, hl3⟩ := hl3
          have hM := HM2.out
          rw [if_neg (by rw [hx.out]; exact hx0), HST.out (by rw [hx.out]; exact hx0), hx.out] at hM
          rw [HST.out (by rw [hx.out]; exact hx0)] at hl3
          have hO : Only [w.heap.size] w3 (w3.setCell ⟨w.heap.size, 0, none⟩ (.int .i64 x)) := (Only.refl _ _).setCell (.inl (by simp)) _
          have hB4 : Blk (w3.setCell ⟨w.heap.size, 0, none⟩ (.int .i64 x)) w.heap.size IntT #[.int .i64 x] := by
            have := hB3.set_ 0 (.int .i64 x)
            simpa using this
          go_roundw
          case rel => exact ⟨k + 1, by omega, by go_num, ⟨x, AL3, hB4, by rw [← hM, show M.ws.length - (k + 1) = M.ws.length - k - 1 by omega], hl3.box hO hB3 hbase H.out (Nat.le_refl _)⟩, (hV2.trans hv3).new hO (Nat.le_refl _)⟩
          case measure => simp [intOf]; omega
    · obtain rfl : k = M.ws.length := by omega
      rw [Nat.sub_self] at hM
      go_wp2
      go_end0
      exact ⟨rfl, ⟨AL', by rw [← hM]; exact hl⟩, hmv⟩
end
end Go.Proofs.Ytleomgmhkoglmaa
