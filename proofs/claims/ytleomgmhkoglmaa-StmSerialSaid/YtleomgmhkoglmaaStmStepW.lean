/- What a step of a machine does (layer 8). -/
import Derived.Test.YtleomgmhkoglmaaStmRunB
import Derived.Test.YtleomgmhkoglmaaWordE
namespace Go.Proofs.Ytleomgmhkoglmaa
open Go.RowKit Go.Maps
section
variable {base : Nat} {w : World} {G : Geo} {J : List (List Jb)} {M : Ma} {Ps : List Nat} {Fs : List Ft} {AL : Value} {k : Nat} {u : Wk}
theorem mhas_yes (h : MLie base w G J M Ps Fs AL) (hk : k < M.ws.length) : Calls Try.prog 23 #[.pointer (some ⟨G.pm, 0, none⟩), .int .i64 k] w fun e w' => e = .returned (.bool true) ∧ w = w' := by
  have m1 : w.cell? ⟨G.pm, 1, none⟩ = some (.slice G.AW M.ws.length G.cW) := h.mach.cell 1
  have h0 : (0 : Int) ≤ (k : Int) := by omega
  have h1 : (k : Int) < (M.ws.length : Int) := by omega
  clear h
  go_enter Try.func23, Try.ntmps23
  go_wp2
  all_goals first
    | (go_ret; exact ⟨by simp [*], rfl⟩)
    | omega
theorem mhas_no (h : MLie base w G J M Ps Fs AL) {x : Int} (hx : x < 0 ∨ (M.ws.length : Int) ≤ x) : Calls Try.prog 23 #[.pointer (some ⟨G.pm, 0, none⟩), .int .i64 x] w fun e w' => e = .returned (.bool false) ∧ w = w' := by
  have m1 : w.cell? ⟨G.pm, 1, none⟩ = some (.slice G.AW M.ws.length G.cW) := h.mach.cell 1
  clear h
  go_enter Try.func23, Try.ntmps23
  go_wp2
  all_goals first
    | (go_ret; exact ⟨by simp <;> omega, rfl⟩)
    | omega
/-- what a step leaves -/
def StepLeaves (base : Nat) (w : World) (G : Geo) (J : List (List Jb)) (r : Bool × Ma) (e : Ending) (w' : World) : Prop := e = .returned (.bool r.1) ∧ MAt base w' G J r.2 ∧ Below base w w'
theorem step_no (h : MLie base w G J M Ps Fs AL) {x : Int} (hx : x < 0 ∨ (M.ws.length : Int) ≤ x) : Calls Try.prog 10 #[.pointer (some ⟨G.pm, 0, none⟩), .int .i64 x] w (StepLeaves base w G J (false, M)) := by
  have cH := mhas_no h hx
  go_enter Try.func10, Try.ntmps10
  go_wp2_with (go_at_call 23; (with_reducible refine cH.mono ?_); rintro e w1 ⟨rfl, rfl⟩)
  go_ret
  exact ⟨rfl, ⟨_, _, _, h⟩, Below.refl _ _⟩
/-- what begin reads of a worker that is idle -/
theorem next_of (h : MLie base w G J M Ps Fs AL) (hk : M.ws[k]? = some u) : ∃ pw f fv js jv rv dv num pb A T cap ct, G.Pw[k]? = some pw ∧ Fs[k]? = some f ∧ G.F[k]? = some fv ∧ J[k]? = some js ∧ WkAt base w M.s.L.length Ps pw f fv js u ∧ Blk w pw WkT #[fv, f.tv, jv, rv, dv, .int .i64 num] ∧ PhAt base w M.s.L.length Ps f js u.told jv rv dv num u.ph ∧ (∃ F fc, fv = .func (.func F) #[] fc) ∧
    (u.told.length ≤ 8 → NextAt base w pw pb A T cap ct js u.told) ∧ jobOf J k u = js[u.told.length]? ∧ js.length ≤ 8 := by
  obtain ⟨pw, f, fv, js, hpw, hf, hfv, hjs, hw⟩ := h.at_ hk
  obtain ⟨jv, rv, dv, num, hb, hph⟩ := hw.blk
  obtain ⟨⟨pb, A, cap, rfl, hB, hj⟩, hjl⟩ := h.feed k fv js hfv hjs
  obtain ⟨T, ct, hT, hN⟩ := RowN.of_owns irow_len (by simpa using hw.told)
  refine ⟨pw, f, _, js, jv, rv, dv, num, pb, A, T, cap, ct, hpw, hf, hfv, hjs, hw, hb, hph, ⟨_, _, rfl⟩, fun ht => ⟨hb.cell 0, ?_, hb.lt, hB, hj, hN.rows, ht, hjl⟩, ?_, hjl⟩
  · rw [← hT]; exact hb.cell 1
  · unfold jobOf
    rw [List.getD_eq_getElem?_getD, hjs]
    rfl
/-- how the walk finds a worker -/
theorem find_wk (h : MLie base w G J M Ps Fs AL) {pw : Nat} (hpw : G.Pw[k]? = some pw) : ∃ g, G.AW = some ⟨g, 0, none⟩ ∧ w.cell? ⟨g, k, none⟩ = some (.pointer (some ⟨pw, 0, none⟩)) ∧ w.cell? ⟨G.pm, 1, none⟩ = some (.slice (some ⟨g, 0, none⟩) M.ws.length G.cW) := by
  obtain ⟨g, cur, hAW, hgb, hgc⟩ := ptr_at h.row hpw
  refine ⟨g, hAW, hgc, ?_⟩
  rw [← hAW]
  exact h.mach.cell 1
set_option maxRecDepth 100000 in
set_option maxHeartbeats 2000000 in
theorem step_idle_no (h : MLie base w G J M Ps Fs AL) (hk : M.ws[k]? = some u) (hp : u.ph = .idle) (hj : jobOf J k u = none) (ht : u.told.length ≤ 8) : Calls Try.prog 10 #[.pointer (some ⟨G.pm, 0, none⟩), .int .i64 k] w (StepLeaves base w G J (false, M)) := by
  have hkl := (List.getElem?_eq_some_iff.1 hk).1
  obtain ⟨pw, f, fv, js, jv, rv, dv, num, pb, A, T, cap, ct, hpw, hf, hfv, hjs, hw, hb, hph, -, hnx, hjo, hjl⟩ := next_of h hk
  rw [hp] at hph
  obtain ⟨rfl, rfl, hrc⟩ := hph
  obtain ⟨g, hAW, hgc, m1⟩ := find_wk h hpw
  have cH := mhas_yes h hkl
  have cL := len_any G.ps G.gS M.s w h.store
  have cB := begin_none (hnx ht) hb (by rw [← hjo]; exact hj) (M.s.L.length : Int)
  have m0 : w.cell? ⟨G.pm, 0, none⟩ = some (.pointer (some ⟨G.ps, 0, none⟩)) := h.mach.cell 0
  have c2 : w.cell? ⟨pw, 2, none⟩ = some .nilFunc := hb.cell 2
  have hfew := h.few
  have hk0 : (0 : Int) ≤ (k : Int) := by omega
  have hk1 : (k : Int) < (M.ws.length : Int) := by omega
  have hq := nilEq
  have HH := Lib.hid (And.intro h (And.intro hk hw))
  clear h hk hw hnx hb
  go_enter Try.func10, Try.ntmps10
  go_wp2_with (first | (go_at_call 23; (with_reducible refine cH.mono ?_); rintro e w1 ⟨rfl, rfl⟩) | (go_at_call 25; (with_reducible refine cL.mono ?_); rintro e w1 ⟨rfl, rfl⟩) | (go_at_call 24; (with_reducible refine cB.mono ?_); rintro e w2 ⟨rfl, hb2, ho2⟩))
  go_ret
  obtain ⟨h, hk, hw⟩ := HH.out
  have hC : Clear w [pw] [OpsT] := Clear.one (hw.blk.choose_spec.choose_spec.choose_spec.choose_spec.1) (by decide)
  have hw2 : WkAt base w2 M.s.L.length Ps pw f fv js u := by
    refine ⟨⟨_, _, _, _, hb2, by rw [hp]; exact ⟨rfl, rfl, hrc⟩⟩, owns_keep hw.told ho2 (fun x hx hm => ?_), hw.own⟩
    obtain ⟨cur, hc⟩ := owns_blk hw.told hx
    obtain ⟨_, _, _, _, q, _⟩ := hw.blk
    exact (Clear.one q (Ts := [IntT]) (by decide)).not hc (by simp) hm
  have h2 := h.worker (u' := u) (f' := f) hk hpw hf hfv hjs ho2 (fun x hx => by simp at hx; exact .inl hx) hw2 (fun x hx => .inl hx)
  rw [setW_self hk] at h2
  exact ⟨rfl, ⟨_, _, _, h2⟩, ho2.to_below h.base_le (by simpa using hw.own)⟩
set_option maxRecDepth 100000 in
set_option maxHeartbeats 2000000 in
theorem step_idle_yes (h : MLie base w G J M Ps Fs AL) (hk : M.ws[k]? = some u) (hp : u.ph = .idle) {j : Jb} (hj : jobOf J k u = some j) (ht : u.told.length ≤ 8) : Calls Try.prog 10 #[.pointer (some ⟨G.pm, 0, none⟩), .int .i64 k] w (StepLeaves base w G J (true, setW M k ⟨u.told, .learn fun _ => none⟩)) := by
  have hkl := (List.getElem?_eq_some_iff.1 hk).1
  obtain ⟨pw, f, fv, js, jv, rv, dv, num, pb, A, T, cap, ct, hpw, hf, hfv, hjs, hw, hb, hph, -, hnx, hjo, hjl⟩ := next_of h hk
  rw [hp] at hph
  obtain ⟨rfl, rfl, hrc⟩ := hph
  obtain ⟨g, hAW, hgc, m1⟩ := find_wk h hpw
  have cH := mhas_yes h hkl
  have cL := len_any G.ps G.gS M.s w h.store
  have hlim := h.lim
  have hjs' : js[u.told.length]? = some j := by rw [← hjo]; exact hj
  have cB := begin_some (base := base) (hnx ht) hb hjs' (M.s.L.length : Int) (by omega) hw.own
  have m0 : w.cell? ⟨G.pm, 0, none⟩ = some (.pointer (some ⟨G.ps, 0, none⟩)) := h.mach.cell 0
  have c2 : w.cell? ⟨pw, 2, none⟩ = some .nilFunc := hb.cell 2
  have hfew := h.few
  have hk0 : (0 : Int) ≤ (k : Int) := by omega
  have hk1 : (k : Int) < (M.ws.length : Int) := by omega
  have hq := nilEq
  have HH := Lib.hid (And.intro h (And.intro hk hw))
  clear h hk hw hnx hb
  go_enter Try.func10, Try.ntmps10
  go_wp2_with (first | (go_at_call 23; (with_reducible refine cH.mono ?_); rintro e w1 ⟨rfl, rfl⟩) | (go_at_call 25; (with_reducible refine cL.mono ?_); rintro e w1 ⟨rfl, rfl⟩) | (go_at_call 24; (with_reducible refine cB.mono ?_); rintro e w2 ⟨v, bt, bm, rfl, hb2, hJ2, hr2, hbt, hbm, ho2⟩))
  go_ret
  obtain ⟨h, hk, hw⟩ := HH.out
  have hbase := h.base_le
  have he : (keysOf M.s.L.length fun _ => none).length = 0 := by
    rw [List.length_eq_zero_iff]
    unfold keysOf
    simp
  have hw2 : WkAt base w2 M.s.L.length Ps pw ⟨f.tv, [(bt, bm)]⟩ fv js ⟨u.told, .learn fun _ => none⟩ := by
    refine ⟨⟨_, _, _, _, hb2, ⟨j, hjs', hJ2⟩, rfl, (fun i c hc => by cases hc), bt, bm, _, rfl, rfl, by omega, by omega, by rw [he]; exact hr2⟩, owns_keep hw.told ho2 (fun x hx hm => ?_), hw.own⟩
    obtain ⟨cur, hc⟩ := owns_blk hw.told hx
    obtain ⟨_, _, _, _, q, _⟩ := hw.blk
    exact (Clear.one q (Ts := [IntT]) (by decide)).not hc (by simp) hm
  have h2 := h.worker (u' := ⟨u.told, .learn fun _ => none⟩) (f' := ⟨f.tv, [(bt, bm)]⟩) hk hpw hf hfv hjs ho2 (fun x hx => by simp at hx; exact .inl hx) hw2 (fun x hx => by
    simp only [Ft.bl, List.mem_append, List.flatMap_cons, List.flatMap_nil, List.append_nil, List.mem_cons, List.not_mem_nil, or_false] at hx
    rcases hx with hx | rfl | rfl
    · exact .inl (by simp only [Ft.bl, List.mem_append]; exact .inl hx)
    · exact .inr hbt
    · exact .inr hbm)
  exact ⟨rfl, ⟨_, _, _, h2⟩, ho2.to_below h.base_le (by simpa using hw.own)⟩
set_option maxRecDepth 100000 in
set_option maxHeartbeats 2000000 in
theorem step_learn (h : MLie base w G J M Ps Fs AL) (hk : M.ws[k]? = some u) {R : Int → Option Cl} (hp : u.ph = .learn R) {M' : Ma} (hrun : ∀ pw, G.Pw[k]? = some pw → Calls Try.prog 26 #[.pointer (some ⟨G.pm, 0, none⟩), .pointer (some ⟨pw, 0, none⟩)] w (RunLeaves base w G J M')) : Calls Try.prog 10 #[.pointer (some ⟨G.pm, 0, none⟩), .int .i64 k] w (StepLeaves base w G J (true, M')) := by
  have hkl := (List.getElem?_eq_some_iff.1 hk).1
  obtain ⟨pw, f, fv, js, jv, rv, dv, num, pb, A, T, cap, ct, hpw, hf, hfv, hjs, hw, hb, hph, -, hnx, hjo, hjl⟩ := next_of h hk
  rw [hp] at hph
  obtain ⟨⟨j, hj', hJ⟩, rfl, -⟩ := hph
  obtain ⟨Gj, caps, rfl⟩ := hJ.func
  obtain ⟨g, hAW, hgc, m1⟩ := find_wk h hpw
  have cH := mhas_yes h hkl
  have cR := hrun pw hpw
  have c2 : w.cell? ⟨pw, 2, none⟩ = some (.func (.func Gj) #[] caps) := hb.cell 2
  have c4 : w.cell? ⟨pw, 4, none⟩ = some (.pointer none) := hb.cell 4
  have hfew := h.few
  have hk0 : (0 : Int) ≤ (k : Int) := by omega
  have hk1 : (k : Int) < (M.ws.length : Int) := by omega
  have hq := jobEq Gj caps
  clear h hk hw hnx hb hrun
  go_enter Try.func10, Try.ntmps10
  go_wp2_with (first | (go_at_call 23; (with_reducible refine cH.mono ?_); rintro e w1 ⟨rfl, rfl⟩) | (go_at_call 26; (with_reducible refine cR.mono ?_); rintro e w2 ⟨rfl, hM2, hb2⟩))
  go_ret
  exact ⟨rfl, hM2, hb2⟩
/-- a worker whose job has a descriptor -/
theorem desc_of (h : MLie base w G J M Ps Fs AL) (hk : M.ws[k]? = some u) {i : Nat} {n : Int} (hp : u.ph = .desc i n) : ∃ pw f js p A cap d Gj caps rv F fc, G.Pw[k]? = some pw ∧ Fs[k]? = some f ∧ G.F[k]? = some (.func (.func F) #[] fc) ∧ J[k]? = some js ∧ WkAt base w M.s.L.length Ps pw f (.func (.func F) #[] fc) js u ∧ M.Ds[i]? = some d ∧ DeskAt w p A cap d ∧
    Blk w pw WkT #[.func (.func F) #[] fc, f.tv, .func (.func Gj) #[] caps, rv, .pointer (some ⟨p, 0, none⟩), .int .i64 n] ∧ (∃ j, js[u.told.length]? = some j ∧ JobAt base w (.func (.func Gj) #[] caps) j) ∧ js.length ≤ 8 ∧ f.rc = [] := by
  obtain ⟨pw, f, fv, js, jv, rv, dv, num, pb, A, T, cap, ct, hpw, hf, hfv, hjs, hw, hb, hph, ⟨F, fc, rfl⟩, hnx, hjo, hjl⟩ := next_of h hk
  rw [hp] at hph
  obtain ⟨⟨j, hj', hJ⟩, ⟨p, rfl, hi⟩, rfl, hrc⟩ := hph
  obtain ⟨Gj, caps, rfl⟩ := hJ.func
  have hil := (List.getElem?_eq_some_iff.1 hi).1
  rw [h.crowd.len] at hil
  obtain ⟨d, hd⟩ : ∃ d, M.Ds[i]? = some d := ⟨_, List.getElem?_eq_getElem hil⟩
  obtain ⟨A2, cap2, hda⟩ := h.crowd.at_ i p d hi hd
  exact ⟨pw, f, js, p, A2, cap2, d, Gj, caps, rv, F, fc, hpw, hf, hfv, hjs, hw, hd, hda, hb, ⟨j, hj', hJ⟩, hjl, hrc⟩
theorem over_is {p : Nat} {A : Option Addr} {cap : Nat} {d : De} {b : Bool} (h : DeskAt w p A cap d) (hb : d.over = b) : Calls Try.prog 27 #[.pointer (some ⟨p, 0, none⟩)] w fun e w' => e = .returned (.bool b) ∧ Only [] w w' := by
  subst hb
  exact (over_any h).mono fun e w' ⟨h1, q, h2⟩ => ⟨h1, by rw [h2]; exact (Only.refl _ _).drewN _⟩
set_option maxRecDepth 100000 in
set_option maxHeartbeats 2000000 in
theorem step_help (h : MLie base w G J M Ps Fs AL) (hk : M.ws[k]? = some u) {i : Nat} {n : Int} (hp : u.ph = .desc i n) {d : De} (hd : M.Ds[i]? = some d) (ho : d.over = false) (hL : M.log.length ≤ 1000000) : Calls Try.prog 10 #[.pointer (some ⟨G.pm, 0, none⟩), .int .i64 k] w (StepLeaves base w G J (true, helpM M.ws.length M d.mark)) := by
  have hkl := (List.getElem?_eq_some_iff.1 hk).1
  obtain ⟨pw, f, js, p, A, cap, d', Gj, caps, rv, F, fc, hpw, hf, hfv, hjs, hw, hd', hda, hb, -, -, -⟩ := desc_of h hk hp
  rw [hd] at hd'
  cases hd'
  obtain ⟨g, hAW, hgc, m1⟩ := find_wk h hpw
  have cH := mhas_yes h hkl
  have cO := over_is hda ho
  have c2 : w.cell? ⟨pw, 2, none⟩ = some (.func (.func Gj) #[] caps) := hb.cell 2
  have c4 : w.cell? ⟨pw, 4, none⟩ = some (.pointer (some ⟨p, 0, none⟩)) := hb.cell 4
  have hfew := h.few
  have hk0 : (0 : Int) ≤ (k : Int) := by omega
  have hk1 : (k : Int) < (M.ws.length : Int) := by omega
  have hq := jobEq Gj caps
  have HH := Lib.hid (And.intro h (And.intro hda hb))
  clear h hk hw hb hda
  go_enter Try.func10, Try.ntmps10
  go_wp2_with (first | (go_at_call 23; (with_reducible refine cH.mono ?_); rintro e w1 ⟨rfl, rfl⟩) | (go_at_call 27; (with_reducible refine cO.mono ?_); rintro e w2 ⟨rfl, ho2⟩; have cM := mark_any (HH.out.2.1.only0 ho2); have c4' : w2.cell? ⟨pw, 4, none⟩ = some (.pointer (some ⟨p, 0, none⟩)) := (ho2.blk HH.out.2.2 (by simp)).cell 4) | (go_at_call 29; (with_reducible refine cM.mono ?_); rintro e w3 ⟨rfl, rfl⟩))
  have cP := help_any (HH.out.1.only0 ho2) d.mark hL
  refine cP.mono ?_
  rintro e w3 ⟨rfl, ⟨AL3, hM3⟩, hmv⟩
  go_wp2_with fail
  go_ret
  have hbase := HH.out.1.base_le
  exact ⟨rfl, ⟨_, _, _, hM3⟩, (ho2.to_below hbase (by simp)).trans (hmv.below' (Nat.le_trans hbase ho2.size))⟩
set_option maxRecDepth 100000 in
set_option maxHeartbeats 2000000 in
theorem step_failed (h : MLie base w G J M Ps Fs AL) (hk : M.ws[k]? = some u) {i : Nat} {n : Int} (hp : u.ph = .desc i n) {d : De} (hd : M.Ds[i]? = some d) (ho : d.over = true) (h2 : d.st = 2) : Calls Try.prog 10 #[.pointer (some ⟨G.pm, 0, none⟩), .int .i64 k] w (StepLeaves base w G J (true, setW M k ⟨u.told, .learn fun _ => none⟩)) := by
  have hkl := (List.getElem?_eq_some_iff.1 hk).1
  obtain ⟨pw, f, js, p, A, cap, d', Gj, caps, rv, F, fc, hpw, hf, hfv, hjs, hw, hd', hda, hb, ⟨j, hj', hJ⟩, hjl, hrc⟩ := desc_of h hk hp
  rw [hd] at hd'
  cases hd'
  obtain ⟨g, hAW, hgc, m1⟩ := find_wk h hpw
  have cH := mhas_yes h hkl
  have cO := over_is hda ho
  have hlim := h.lim
  have c2 : w.cell? ⟨pw, 2, none⟩ = some (.func (.func Gj) #[] caps) := hb.cell 2
  have c4 : w.cell? ⟨pw, 4, none⟩ = some (.pointer (some ⟨p, 0, none⟩)) := hb.cell 4
  have hfew := h.few
  have hk0 : (0 : Int) ≤ (k : Int) := by omega
  have hk1 : (k : Int) < (M.ws.length : Int) := by omega
  have hq := jobEq Gj caps
  have HH := Lib.hid (And.intro h (And.intro hda (And.intro hb (And.intro hk (And.intro hw (And.intro hJ hj'))))))
  clear h hk hw hb hda hJ hj'
  go_enter Try.func10, Try.ntmps10
  go_wp2_with (first | (go_at_call 23; (with_reducible refine cH.mono ?_); rintro e w1 ⟨rfl, rfl⟩) | (go_at_call 27; (with_reducible refine cO.mono ?_); rintro e w2 ⟨rfl, ho2⟩; have cL := len_any G.ps G.gS M.s w2 (HH.out.1.only0 ho2).store; have c4' : w2.cell? ⟨G.pm, 0, none⟩ = some (.pointer (some ⟨G.ps, 0, none⟩)) := (HH.out.1.only0 ho2).mach.cell 0) | (go_at_call 25; (with_reducible refine cL.mono ?_); rintro e w1 ⟨rfl, rfl⟩))
  have hb2 := ho2.blk HH.out.2.2.1 (by simp)
  have cE := end_failed hb2 (HH.out.2.1.only0 ho2) h2 (M.s.L.length : Int) (by omega)
  refine cE.mono ?_
  rintro e w3 ⟨bt, bm, rfl, hb3, hr3, hbt, hbm, ho3⟩
  go_wp2_with fail
  go_ret
  obtain ⟨h, hda, hb, hk, hw, hJ, hj'⟩ := HH.out
  have hbase := h.base_le
  have hM2 := h.only0 ho2
  have hw2 := hw.only ho2 Clear.nil (by simp) (by simp) (by simp)
  have hz2 := ho2.size
  have he : (keysOf M.s.L.length fun _ => none).length = 0 := by
    rw [List.length_eq_zero_iff]
    unfold keysOf
    simp
  have hCp : ∀ Ts, WkT ∉ Ts → Clear w2 [pw] Ts := fun Ts hT => Clear.one hb2 hT
  have hw3 : WkAt base w3 M.s.L.length Ps pw ⟨f.tv, [(bt, bm)]⟩ (.func (.func F) #[] fc) js ⟨u.told, .learn fun _ => none⟩ := by
    refine ⟨⟨_, _, _, _, hb3, ⟨j, hj', (hJ.only ho2 Clear.nil (by simp)).only ho3 (hCp _ (by decide)) (by simpa using hw.own)⟩, rfl, (fun i c hc => by cases hc), bt, bm, _, rfl, rfl, by omega, by omega, by rw [he]; exact hr3⟩, owns_keep hw2.told ho3 (fun x hx hm => ?_), hw.own⟩
    obtain ⟨cur, hc⟩ := owns_blk hw2.told hx
    exact (hCp [IntT] (by decide)).not hc (by simp) hm
  have h3 := hM2.worker (u' := ⟨u.told, .learn fun _ => none⟩) (f' := ⟨f.tv, [(bt, bm)]⟩) hk hpw hf hfv hjs ho3 (fun x hx => by simp at hx; exact .inl hx) hw3 (fun x hx => by
    simp only [Ft.bl, List.mem_append, List.flatMap_cons, List.flatMap_nil, List.append_nil, List.mem_cons, List.not_mem_nil, or_false] at hx
    rcases hx with hx | rfl | rfl
    · exact .inl (by simp only [Ft.bl, List.mem_append]; exact .inl hx)
    · exact .inr hbt
    · exact .inr hbm)
  exact ⟨rfl, ⟨_, _, _, h3⟩, (ho2.to_below hbase (by simp)).trans (ho3.to_below (Nat.le_trans hbase hz2) (by simpa using hw.own))⟩
set_option maxRecDepth 100000 in
set_option maxHeartbeats 2000000 in
theorem step_done (h : MLie base w G J M Ps Fs AL) (hk : M.ws[k]? = some u) {i : Nat} {n : Int} (hp : u.ph = .desc i n) {d : De} (hd : M.Ds[i]? = some d) (ho : d.over = true) (h2 : d.st ≠ 2) : Calls Try.prog 10 #[.pointer (some ⟨G.pm, 0, none⟩), .int .i64 k] w (StepLeaves base w G J (true, setW M k ⟨u.told ++ [toldBy d n], .idle⟩)) := by
  have hkl := (List.getElem?_eq_some_iff.1 hk).1
  obtain ⟨pw, f, js, p, A, cap, d', Gj, caps, rv, F, fc, hpw, hf, hfv, hjs, hw, hd', hda, hb, ⟨j, hj', hJ⟩, hjl, hrc⟩ := desc_of h hk hp
  rw [hd] at hd'
  cases hd'
  obtain ⟨g, hAW, hgc, m1⟩ := find_wk h hpw
  have cH := mhas_yes h hkl
  have cO := over_is hda ho
  have htl : u.told.length < js.length := (List.getElem?_eq_some_iff.1 hj').1
  have c2 : w.cell? ⟨pw, 2, none⟩ = some (.func (.func Gj) #[] caps) := hb.cell 2
  have c4 : w.cell? ⟨pw, 4, none⟩ = some (.pointer (some ⟨p, 0, none⟩)) := hb.cell 4
  have hfew := h.few
  have hk0 : (0 : Int) ≤ (k : Int) := by omega
  have hk1 : (k : Int) < (M.ws.length : Int) := by omega
  have hq := jobEq Gj caps
  have HH := Lib.hid (And.intro h (And.intro hda (And.intro hb (And.intro hk (And.intro hw (And.intro hJ hj'))))))
  clear h hk hw hb hda hJ hj'
  go_enter Try.func10, Try.ntmps10
  go_wp2_with (first | (go_at_call 23; (with_reducible refine cH.mono ?_); rintro e w1 ⟨rfl, rfl⟩) | (go_at_call 27; (with_reducible refine cO.mono ?_); rintro e w2 ⟨rfl, ho2⟩; have cL := len_any G.ps G.gS M.s w2 (HH.out.1.only0 ho2).store; have c4' : w2.cell? ⟨G.pm, 0, none⟩ = some (.pointer (some ⟨G.ps, 0, none⟩)) := (HH.out.1.only0 ho2).mach.cell 0) | (go_at_call 25; (with_reducible refine cL.mono ?_); rintro e w1 ⟨rfl, rfl⟩))
  have hb2 := ho2.blk HH.out.2.2.1 (by simp)
  have hw2 := HH.out.2.2.2.2.1.only ho2 Clear.nil (by simp) (by simp) (by simp)
  have hbase := HH.out.1.base_le
  have hz2 := ho2.size
  have cE := end_done hb2 (HH.out.2.1.only0 ho2) h2 hw2.told (by omega) (Nat.le_trans hbase hz2) (M.s.L.length : Int)
  refine cE.mono ?_
  rintro e w3 ⟨tv', rfl, hb3, ht3, hbl, ho3⟩
  go_wp2_with fail
  go_ret
  obtain ⟨h, hda, hb, hk, hw, hJ, hj'⟩ := HH.out
  have hM2 := h.only0 ho2
  have hw3 : WkAt base w3 M.s.L.length Ps pw ⟨tv', []⟩ (.func (.func F) #[] fc) js ⟨u.told ++ [toldBy d n], .idle⟩ :=
    ⟨⟨_, _, _, _, hb3, rfl, rfl, rfl⟩, by simpa [irow] using ht3, hw.own⟩
  have hSf : ∀ x ∈ pw :: f.tv.ownBlock.toList, x = pw ∨ x ∈ f.bl := fun x hx => by
    rcases List.mem_cons.1 hx with h | h
    · exact .inl h
    · exact .inr (by simp only [Ft.bl, List.mem_append]; exact .inl h)
  have h3 := hM2.worker (u' := ⟨u.told ++ [toldBy d n], .idle⟩) (f' := ⟨tv', []⟩) hk hpw hf hfv hjs ho3 hSf hw3 (fun x hx => by
    simp only [Ft.bl, List.flatMap_nil, List.append_nil] at hx
    rcases hbl x (by simpa using hx) with h | h
    · exact .inl (by simp only [Ft.bl, List.mem_append]; exact .inl (by simpa using h))
    · exact .inr h)
  exact ⟨rfl, ⟨_, _, _, h3⟩, (ho2.to_below hbase (by simp)).trans (ho3.to_below (Nat.le_trans hbase hz2) (fun x hx => by
    rcases hSf x hx with rfl | h
    · exact hw.own
    · exact (hw.lt.2 x h).1))⟩
/-- a step of whoever is there -/
theorem step_yes (h : MAt base w G J M) (hk : k < M.ws.length) (hD : M.Ds.length ≤ 1000000) (hL : M.log.length ≤ 1000000) (ht : ∀ u, M.ws[k]? = some u → u.told.length ≤ 8) (hjob : ∀ u, M.ws[k]? = some u → u.ph ≠ .idle → ∃ j, jobOf J k u = some j) :
    Calls Try.prog 10 #[.pointer (some ⟨G.pm, 0, none⟩), .int .i64 k] w (StepLeaves base w G J (stepM J M k)) := by
  obtain ⟨Ps, Fs, AL, h⟩ := h
  obtain ⟨u, hu⟩ : ∃ u, M.ws[k]? = some u := ⟨_, List.getElem?_eq_getElem hk⟩
  have hsn : ∀ {j : Jb} {R : Int → Option Cl} {i : Int}, (j.run (machD M.s.L.length R) Dt.new).2.lk = some i → inB M.s.L.length i = true ∧ R i = none := fun {j R i} hlk => j.lacks LkOk.new i hlk
  cases hp : u.ph with
  | idle =>
    cases hj : jobOf J k u with
    | none =>
      have e : stepM J M k = (false, M) := by simp only [stepM, hu, hp, hj]
      rw [e]
      exact step_idle_no h hu hp hj (ht u hu)
    | some j =>
      have e : stepM J M k = (true, setW M k ⟨u.told, .learn fun _ => none⟩) := by simp only [stepM, hu, hp, hj]
      rw [e]
      exact step_idle_yes h hu hp hj (ht u hu)
  | learn R =>
    obtain ⟨j, hj⟩ := hjob u hu (by rw [hp]; simp)
    cases hlk : (j.run (machD M.s.L.length R) Dt.new).2.lk with
    | none =>
      have e : stepM J M k = (true, { setW M k ⟨u.told, .desc M.Ds.length (j.run (machD M.s.L.length R) Dt.new).1⟩ with
            Ds := M.Ds ++ [⟨(M.Ds.length : Int) + 1, ents R (j.run (machD M.s.L.length R) Dt.new).2.wr (keysOf M.s.L.length R), 0, 0⟩] }) := by simp only [stepM, hu, hp, hj, hlk]
      rw [e]
      exact step_learn h hu hp fun pw hpw => run_desc h hu hp hj hD hpw hlk
    | some i =>
      obtain ⟨hi, hRi⟩ := hsn hlk
      have hib := inB_yes.1 hi
      obtain ⟨c, hc⟩ : ∃ c, M.s.L[i.toNat]? = some c := ⟨_, List.getElem?_eq_getElem (by omega)⟩
      have hg : M.s.get i = some c := by rw [St.get_pos (by omega)]; exact hc
      by_cases hm : c.mark ≠ 0
      · have e : stepM J M k = (true, helpM M.ws.length M c.mark) := by simp only [stepM, hu, hp, hj, hlk, hg]; rw [if_pos hm]
        rw [e]
        exact step_learn h hu hp fun pw hpw => run_helps h hu hp hj hD hL hpw hlk hg hm hRi hi
      · have e : stepM J M k = (true, setW M k ⟨u.told, .learn (upd R i ⟨c.v, c.ver, c.mark⟩)⟩) := by simp only [stepM, hu, hp, hj, hlk, hg]; rw [if_neg hm]
        rw [e]
        exact step_learn h hu hp fun pw hpw => run_learns h hu hp hj hD hL hpw hlk hg (by omega) hRi hi
  | desc i n =>
    obtain ⟨pw, f, js, p, A, cap, d, Gj, caps, rv, F, fc, hpw, hf, hfv, hjs, hw, hd, hda, hb, -, -, -⟩ := desc_of h hu hp
    by_cases ho : d.over = true
    · by_cases h2 : d.st = 2
      · have e : stepM J M k = (true, setW M k ⟨u.told, .learn fun _ => none⟩) := by simp only [stepM, hu, hp, hd]; rw [if_pos ho, if_pos h2]
        rw [e]
        exact step_failed h hu hp hd ho h2
      · have e : stepM J M k = (true, setW M k ⟨u.told ++ [toldBy d n], .idle⟩) := by simp only [stepM, hu, hp, hd]; rw [if_pos ho, if_neg h2]
        rw [e]
        exact step_done h hu hp hd ho h2
    · have e : stepM J M k = (true, helpM M.ws.length M d.mark) := by simp only [stepM, hu, hp, hd]; rw [if_neg ho]
      rw [e]
      exact step_help h hu hp hd (by simpa using ho) hL
end
end Go.Proofs.Ytleomgmhkoglmaa
