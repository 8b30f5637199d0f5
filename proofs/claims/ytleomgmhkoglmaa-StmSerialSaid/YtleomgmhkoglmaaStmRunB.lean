/- What a run of a worker's job comes to (layer 8): all its ways. -/
import Derived.Test.YtleomgmhkoglmaaStmRun
import Derived.Test.YtleomgmhkoglmaaStmHelp
namespace Go.Proofs.Ytleomgmhkoglmaa
section
open Go.RowKit Go.Maps
theorem countP_add {p : Int → Bool} {i : Int} {l : List Int} (hn : l.Nodup) (hi : i ∈ l) (hp : p i = false) : l.countP (fun x => if x = i then true else p x) = l.countP p + 1 := by
  induction l with
  | nil => simp at hi
  | cons y l ih =>
    rw [List.nodup_cons] at hn
    rw [List.countP_cons, List.countP_cons]
    rcases List.mem_cons.1 hi with rfl | hi
    · have : l.countP (fun x => if x = i then true else p x) = l.countP p := List.countP_congr fun x hx => by
        have : x ≠ i := fun e => hn.1 (e ▸ hx)
        simp [this]
      rw [this, if_pos (by simp), hp]
      simp
    · have hne : y ≠ i := fun e => hn.1 (e ▸ hi)
      rw [ih hn.2 hi]
      simp only [hne, if_false]
      omega
theorem keysOf_add {N : Nat} {R : Int → Option Cl} {i : Int} (c : Cl) (hi : inB N i = true) (hR : R i = none) : (keysOf N (upd R i c)).length = (keysOf N R).length + 1 := by
  unfold keysOf
  rw [← List.countP_eq_length_filter, ← List.countP_eq_length_filter]
  have hb := inB_yes.1 hi
  have e : ∀ x, (upd R i c x).isSome = if x = i then true else (R x).isSome := fun x => by
    by_cases h : x = i
    · subst h; rw [upd_same]; simp
    · rw [upd_other c h]; simp [h]
  simp only [e]
  refine countP_add ?_ (List.mem_map.2 ⟨i.toNat, List.mem_range.2 (by omega), by simp; omega⟩) (by rw [hR]; rfl)
  exact (List.pairwise_map.2 (List.nodup_range.imp fun h e => h (Int.ofNat.inj e)))
theorem sorted_sub {a b : List Int} (ha : a.Pairwise (· < ·)) (hb : b.Pairwise (· < ·)) (hs : ∀ x, x ∈ a → x ∈ b) : a.Sublist b := by
  induction b generalizing a with
  | nil =>
    cases a with
    | nil => exact List.Sublist.refl _
    | cons x a => have := hs x (by simp); simp at this
  | cons y b ih =>
    cases a with
    | nil => exact List.nil_sublist _
    | cons x a =>
      have ha' := List.pairwise_cons.1 ha
      have hb' := List.pairwise_cons.1 hb
      rcases List.mem_cons.1 (hs x (by simp)) with h | h
      · subst h
        refine List.Sublist.cons_cons _ (ih ha'.2 hb'.2 fun z hz => ?_)
        rcases List.mem_cons.1 (hs z (by simp [hz])) with h | h
        · have := ha'.1 z hz; omega
        · exact h
      · have hy := hb'.1 x h
        refine List.Sublist.cons _ (ih ha hb'.2 fun z hz => ?_)
        rcases List.mem_cons.1 (hs z hz) with h1 | h1
        · rcases List.mem_cons.1 hz with h2 | h2
          · omega
          · have := ha'.1 z h2; omega
        · exact h1
theorem sorted_eq {a b : List Int} (ha : a.Pairwise (· < ·)) (hb : b.Pairwise (· < ·)) (hs : ∀ x, x ∈ a → x ∈ b) (hl : a.length = b.length) : a = b := (sorted_sub ha hb hs).eq_of_length hl
theorem keys_are {N : Nat} {R : Int → Option Cl} {ks : List Int} (h : KeysF R (keysOf N R).length ks) (hin : ∀ i c, R i = some c → inB N i = true) : ks = keysOf N R :=
  sorted_eq h.rises keysOf_rises (fun x hx => by
    have := h.has x hx
    obtain ⟨c, hc⟩ := Option.isSome_iff_exists.1 this
    exact keysOf_mem.2 ⟨hin x c hc, this⟩) h.len
section
variable {base : Nat} {w : World} {G : Geo} {J : List (List Jb)} {M : Ma} {Ps : List Nat} {Fs : List Ft} {AL : Value} {k : Nat} {u : Wk} {R : Int → Option Cl} {j : Jb}
theorem Only.below {S : List Nat} {w' : World} (h : Only S w w') (hb : base ≤ w.heap.size) (hS : ∀ x ∈ S, base ≤ x) : Below base w w' := h.to_below hb hS
theorem Moves.below' {w' : World} (h : Moves base w w') (hb : base ≤ w.heap.size) : Below base w w' := by
  obtain ⟨S, h1, h2, h3⟩ := h
  exact h1.to_below hb h3
/-- what run leaves -/
def RunLeaves (base : Nat) (w : World) (G : Geo) (J : List (List Jb)) (M' : Ma) (e : Ending) (w' : World) : Prop := e = .returned (.tuple #[]) ∧ MAt base w' G J M' ∧ Below base w w'
theorem runAt_of (h : MLie base w G J M Ps Fs AL) (hk : M.ws[k]? = some u) (hp : u.ph = .learn R) (hj : jobOf J k u = some j) (hD : M.Ds.length ≤ 1000000) : ∃ pw f fv js bt bm last jv num, G.Pw[k]? = some pw ∧ Fs[k]? = some f ∧ G.F[k]? = some fv ∧ J[k]? = some js ∧ WkAt base w M.s.L.length Ps pw f fv js u ∧ f.rc = [(bt, bm)] ∧ base ≤ bt ∧ base ≤ bm ∧ (∀ i c, R i = some c → inB M.s.L.length i = true) ∧ js[u.told.length]? = some j ∧
    RunAt base w G.pm G.ps (.slice G.AW M.ws.length G.cW) AL M.Ds.length pw fv f.tv jv num j bt bm (keysOf M.s.L.length R).length (keysOf M.s.L.length R).length M.s.L.length last R (j.run (machD M.s.L.length R) Dt.new).1 (j.run (machD M.s.L.length R) Dt.new).2 := by
  obtain ⟨pw, f, fv, js, hpw, hf, hfv, hjs, hw⟩ := h.at_ hk
  obtain ⟨jv, rv, dv, num, hb, hph⟩ := hw.blk
  rw [hp] at hph
  obtain ⟨⟨j', hj', hJ⟩, rfl, hin, bt, bm, last, hrc, rfl, hbt, hbm, hr⟩ := hph
  have e : j' = j := by
    unfold jobOf at hj
    rw [List.getD_eq_getElem?_getD, hjs] at hj
    simp only [Option.getD_some] at hj
    rw [hj'] at hj
    cases hj
    rfl
  subst e
  have hkl : (keysOf M.s.L.length R).length ≤ 1000 := Nat.le_trans keysOf_len h.lim
  exact ⟨pw, f, fv, js, bt, bm, last, jv, num, hpw, hf, hfv, hjs, hw, hrc, hbt, hbm, hin, hj', ⟨h.mach, hb, hJ, hr, rfl, hkl, by omega, h.base_le⟩⟩
theorem run_desc (h : MLie base w G J M Ps Fs AL) (hk : M.ws[k]? = some u) (hp : u.ph = .learn R) (hj : jobOf J k u = some j) (hD : M.Ds.length ≤ 1000000) {pw : Nat} (hpw : G.Pw[k]? = some pw) (hlk : (j.run (machD M.s.L.length R) Dt.new).2.lk = none) :
    Calls Try.prog 26 #[.pointer (some ⟨G.pm, 0, none⟩), .pointer (some ⟨pw, 0, none⟩)] w (RunLeaves base w G J { setW M k ⟨u.told, .desc M.Ds.length (j.run (machD M.s.L.length R) Dt.new).1⟩ with
            Ds := M.Ds ++ [⟨(M.Ds.length : Int) + 1, ents R (j.run (machD M.s.L.length R) Dt.new).2.wr (keysOf M.s.L.length R), 0, 0⟩] }) := by
  obtain ⟨pw', f, fv, js, bt, bm, last, jv, num, hpw', hf, hfv, hjs, hw, hrc, hbt, hbm, hin, hj', hR⟩ := runAt_of h hk hp hj hD
  rw [hpw] at hpw'
  cases hpw'
  refine (run_done hR hlk).mono ?_
  rintro e w' ⟨rfl, w1, last', p, A', cap, ks, hr1, ho1, hK, hda, hpn, ho2, hm2, hw2⟩
  have hks := keys_are hK hin
  subst hks
  obtain ⟨jv0, rv0, dv0, num0, hb0, hph0⟩ := hw.blk
  have q := hb0.uniq hR.hw
  simp only [List.cons.injEq, Array.mk.injEq, and_true, true_and] at q
  have hbtf : ∀ x ∈ [bt], x = pw ∨ x ∈ f.bl := fun x hx => by simp at hx; subst hx; exact .inr (by simp [Ft.bl, hrc])
  have hpbt : pw ∉ [bt] := by simp; exact hR.hw.ne_ hR.hr.blk (by decide)
  have hCbt : Clear w [bt] [OpsT] := Clear.one hR.hr.blk (by decide)
  have htv : ∀ x ∈ f.tv.ownBlock.toList, x ∉ [bt] := fun x hx hm => by
    obtain ⟨cur, hc⟩ := owns_blk hw.told hx
    simp at hm
    subst hm
    exact absurd (hc.uniq hR.hr.blk).1 (by decide)
  have hw1 : WkAt base w1 M.s.L.length Ps pw f fv js u := by
    refine ⟨⟨jv, _, .pointer none, num, ho1.blk hR.hw hpbt, ?_⟩, owns_keep hw.told ho1 htv, hw.own⟩
    rw [hp]
    exact ⟨⟨j, hj', hR.hJ.only ho1 hCbt (by simpa using hbt)⟩, rfl, hin, bt, bm, last', hrc, rfl, hbt, hbm, hr1⟩
  have h1 := h.worker (u' := u) (f' := f) hk hpw hf hfv hjs ho1 hbtf hw1 (fun x hx => .inl hx)
  rw [setW_self hk] at h1
  have hfs : Fs.set k f = Fs := by
    have hl := List.getElem?_eq_some_iff.1 hf
    have := @List.set_getElem_self _ Fs k hl.1
    rw [hl.2] at this
    exact this
  rw [hfs] at h1
  have hmw : pw ∉ [G.pm, pw] ∨ True := .inr trivial
  have hw2' : WkAt base w' M.s.L.length (Ps ++ [p]) pw ⟨f.tv, []⟩ fv js ⟨u.told, .desc M.Ds.length (j.run (machD M.s.L.length R) Dt.new).1⟩ := by
    have hC2 : Clear w1 [G.pm, pw] [OpsT, IntT] := (Clear.one h1.mach (by decide)).app (S' := [pw]) (Clear.one (ho1.blk hR.hw hpbt) (by decide))
    have hb2 : ∀ x ∈ [G.pm, pw], base ≤ x := fun x hx => by
      simp only [List.mem_cons, List.not_mem_nil, or_false] at hx
      rcases hx with rfl | rfl
      · exact h.own.1
      · exact hw.own
    refine ⟨⟨jv, _, _, _, hw2, ⟨j, hj', (hR.hJ.only ho1 hCbt (by simpa using hbt)).only ho2 (hC2.less (by simp)) hb2⟩, ⟨p, rfl, ?_⟩, rfl, rfl⟩, owns_keep hw1.told ho2 (fun x hx hm => ?_), hw.own⟩
    · rw [List.getElem?_append_right (by rw [h.crowd.len]; exact Nat.le_refl _), h.crowd.len]
      simp
    · obtain ⟨cur, hc⟩ := owns_blk hw1.told hx
      exact hC2.not hc (by simp) hm
  have h2 := h1.pushed (u' := ⟨u.told, .desc M.Ds.length (j.run (machD M.s.L.length R) Dt.new).1⟩) (f' := ⟨f.tv, []⟩) hk hpw hf hfv hjs ho2 hm2 hda hpn (Nat.le_trans h.base_le ho1.size) hw2' (fun x hx => by simp [Ft.bl] at hx ⊢; exact .inl hx)
  refine ⟨rfl, ⟨_, _, _, h2⟩, (ho1.to_below h.base_le (by simpa using hbt)).trans (ho2.to_below (Nat.le_trans h.base_le ho1.size) (fun x hx => ?_))⟩
  simp only [List.mem_cons, List.not_mem_nil, or_false] at hx
  rcases hx with rfl | rfl
  · exact h.own.1
  · exact hw.own
end
end
section
open Go.RowKit Go.Maps
section
variable {base : Nat} {w : World} {G : Geo} {J : List (List Jb)} {M : Ma} {Ps : List Nat} {Fs : List Ft} {AL : Value} {k : Nat} {u : Wk} {R : Int → Option Cl} {j : Jb}
/-- the machine behind the record's Run -/
theorem ran_lie (h : MLie base w G J M Ps Fs AL) (hk : M.ws[k]? = some u) (hp : u.ph = .learn R) {pw : Nat} {f : Ft} {fv : Value} {js : List Jb} {bt bm : Nat} {last jv : Value} {num x : Int} {s : Dt} {AWv : Value} {made : Int} {n : Nat} (hpw : G.Pw[k]? = some pw) (hf : Fs[k]? = some f) (hfv : G.F[k]? = some fv) (hjs : J[k]? = some js) (hw : WkAt base w M.s.L.length Ps pw f fv js u) (hrc : f.rc = [(bt, bm)])
    (hbt : base ≤ bt) (hbm : base ≤ bm) (hin : ∀ i c, R i = some c → inB M.s.L.length i = true) (hj' : js[u.told.length]? = some j)
    (hR : RunAt base w G.pm G.ps AWv AL made pw fv f.tv jv num j bt bm n (keysOf M.s.L.length R).length M.s.L.length last R x s) (hn : n = (keysOf M.s.L.length R).length) {w1 : World} (ho1 : Only [bt] w w1) {last' : Value} (hr1 : RecAt w1 bt bm n M.s.L.length last' R (keysOf M.s.L.length R).length) : MLie base w1 G J M Ps Fs AL ∧ Below base w w1 := by
  subst hn
  have hbtf : ∀ x ∈ [bt], x = pw ∨ x ∈ f.bl := fun x hx => by simp at hx; subst hx; exact .inr (by simp [Ft.bl, hrc])
  have hpbt : pw ∉ [bt] := by simp; exact hR.hw.ne_ hR.hr.blk (by decide)
  have hCbt : Clear w [bt] [OpsT] := Clear.one hR.hr.blk (by decide)
  have htv : ∀ x ∈ f.tv.ownBlock.toList, x ∉ [bt] := fun x hx hm => by
    obtain ⟨cur, hc⟩ := owns_blk hw.told hx
    simp at hm
    subst hm
    exact absurd (hc.uniq hR.hr.blk).1 (by decide)
  have hw1 : WkAt base w1 M.s.L.length Ps pw f fv js u := by
    refine ⟨⟨jv, _, .pointer none, num, ho1.blk hR.hw hpbt, ?_⟩, owns_keep hw.told ho1 htv, hw.own⟩
    rw [hp]
    exact ⟨⟨j, hj', hR.hJ.only ho1 hCbt (by simpa using hbt)⟩, rfl, hin, bt, bm, last', hrc, rfl, hbt, hbm, hr1⟩
  have h1 := h.worker (u' := u) (f' := f) hk hpw hf hfv hjs ho1 hbtf hw1 (fun x hx => .inl hx)
  rw [setW_self hk] at h1
  have hfs : Fs.set k f = Fs := by
    have hl := List.getElem?_eq_some_iff.1 hf
    have := @List.set_getElem_self _ Fs k hl.1
    rw [hl.2] at this
    exact this
  rw [hfs] at h1
  exact ⟨h1, ho1.to_below h.base_le (by simpa using hbt)⟩
set_option maxRecDepth 100000 in
set_option maxHeartbeats 2000000 in
theorem run_learns (h : MLie base w G J M Ps Fs AL) (hk : M.ws[k]? = some u) (hp : u.ph = .learn R) (hj : jobOf J k u = some j) (hD : M.Ds.length ≤ 1000000) (hL : M.log.length ≤ 1000000) {pw : Nat} (hpw : G.Pw[k]? = some pw) {i : Int} (hlk : (j.run (machD M.s.L.length R) Dt.new).2.lk = some i) {c : C} (hg : M.s.get i = some c) (hmz : c.mark = 0) (hRi : R i = none) (hi : inB M.s.L.length i = true) :
    Calls Try.prog 26 #[.pointer (some ⟨G.pm, 0, none⟩), .pointer (some ⟨pw, 0, none⟩)] w (RunLeaves base w G J (setW M k ⟨u.told, .learn (upd R i ⟨c.v, c.ver, c.mark⟩)⟩)) := by
  obtain ⟨pw', f, fv, js, bt, bm, last, jv, num, hpw', hf, hfv, hjs, hw, hrc, hbt, hbm, hin, hj', hR⟩ := runAt_of h hk hp hj hD
  rw [hpw] at hpw'
  cases hpw'
  have hcR := Lib.hid fun wa hwa => run_head (wa := wa) hR hwa
  have c3 : (w.alloc (.cells #[.pointer (some ⟨pw, 0, none⟩)] PWT)).cell? ⟨pw, 3, none⟩ = some (.pointer (some ⟨bt, 0, none⟩)) := (hR.hw.alloc _).cell 3
  have hl1 := hR.hw.lt
  have HH := Lib.hid (And.intro h (And.intro hk hp))
  have HW := Lib.hid (And.intro hw (And.intro hR (And.intro hin (And.intro hj' (And.intro hf (And.intro hfv hjs))))))
  have hN := Lib.hid (show (M.s.L.length : Nat) ≤ 1000 from h.lim)
  clear h hk hp hw hR hin hj' hD hj hf hfv hjs
  go_enter Try.func26, Try.ntmps26
  go_wp2_with fail
  have cR := hcR.out _ rfl
  rw [hlk, show (some i).getD 0 = i from rfl, show (!(some i).isSome) = false from rfl] at cR
  refine cR.mono ?_
  clear cR hcR c3
  rintro e w1 ⟨rfl, hR1⟩
  obtain ⟨bd, bw, m, hr1, -⟩ := hR1.hr
  obtain ⟨hM1, hbel⟩ := ran_lie HH.out.1 HH.out.2.1 HH.out.2.2 hpw HW.out.2.2.2.2.1 HW.out.2.2.2.2.2.1 HW.out.2.2.2.2.2.2 HW.out.1 hrc hbt hbm HW.out.2.2.1 HW.out.2.2.2.1 HW.out.2.1 rfl hR1.ho hr1
  have m0 : w1.cell? ⟨G.pm, 0, none⟩ = some (.pointer (some ⟨G.ps, 0, none⟩)) := hR1.hm.cell 0
  have cG := read_any G.ps G.gS M.s i w1 hM1.store
  rw [show readI M.s i = (0, c) by unfold readI; rw [hg]] at cG
  have H1 := Lib.hid (And.intro hM1 (And.intro hr1 (And.intro hR1 hbel)))
  clear hM1 hr1 hR1
  obtain ⟨cv, cr, cm⟩ := c
  go_wp2_with fail
  refine cG.mono ?_
  clear cG
  rintro e w2 ⟨rfl, ho2⟩
  simp only [cV]
  obtain rfl : cm = 0 := hmz
  go_wp2_with fail
  obtain ⟨hM1, hr1, hR1, hbel⟩ := H1.out
  have ho3 : Only [] w1 (w2.alloc (.cells #[.int .u64 cv, .int .u32 cr, .int .i64 0] 84)) := ho2.alloc _
  have hM3 := hM1.only0 ho3
  have hr3 := hr1.only ho3 (by simp) (by simp)
  have hw3 := ho3.blk hR1.hw (by simp)
  have hJ3 := (HW.out.2.1.hJ.only hR1.ho (Clear.one HW.out.2.1.hr.blk (by decide)) (by simpa using hbt)).only ho3 Clear.nil (by simp)
  have ht3 := hM3.at_ HH.out.2.1
  generalize w2.alloc (.cells #[.int .u64 cv, .int .u32 cr, .int .i64 0] 84) = w3 at ho3 hM3 hr3 hw3 hJ3 ht3 ⊢
  have hkl : (keysOf M.s.L.length R).length ≤ 1000 := Nat.le_trans keysOf_len hN.out
  have hsz3 := Nat.le_trans HH.out.1.base_le (Nat.le_trans hR1.ho.size ho3.size)
  refine (learn_any hr3 i ⟨cv, cr, 0⟩ (by unfold maxLen; omega)).mono ?_
  rintro e w4 ⟨rfl, hr4, ho4⟩
  go_wp2_with fail
  go_end0
  have e1 : lrn M.s.L.length R i ⟨cv, cr, 0⟩ = upd R i ⟨cv, cr, 0⟩ := by simp [lrn, hi]
  have e2 : lrnS M.s.L.length R (keysOf M.s.L.length R).length i = (keysOf M.s.L.length R).length + 1 := by simp [lrnS, hi, hRi]
  rw [e1, e2, ← keysOf_add ⟨cv, cr, 0⟩ hi hRi] at hr4
  obtain ⟨pw2, f2, fv2, js2, g1, g2, g3, g4, g5⟩ := ht3
  rw [hpw] at g1
  rw [HW.out.2.2.2.2.1] at g2
  rw [HW.out.2.2.2.2.2.1] at g3
  rw [HW.out.2.2.2.2.2.2] at g4
  cases g1; cases g2; cases g3; cases g4
  have hCm : ∀ Ts, Clear w3 [bm] Ts := fun Ts => Clear.map hr3.own
  have hw4 : WkAt base w4 M.s.L.length Ps pw f fv js ⟨u.told, .learn (upd R i ⟨cv, cr, 0⟩)⟩ := by
    refine ⟨⟨jv, _, .pointer none, num, ho4.blk hw3 ((hCm [WkT]).not hw3 (by simp)), ⟨j, HW.out.2.2.2.1, hJ3.only ho4 (hCm _) (by simpa using hbm)⟩, rfl, fun y c hy => ?_, bt, bm, _, hrc, rfl, hbt, hbm, hr4⟩, owns_keep g5.told ho4 (fun x hx hm => ?_), g5.own⟩
    · by_cases hyi : y = i
      · subst hyi; exact hi
      · rw [upd_other _ hyi] at hy; exact HW.out.2.2.1 y c hy
    · obtain ⟨cur, hc⟩ := owns_blk g5.told hx
      exact (hCm [IntT]).not hc (by simp) hm
  have hM4 := hM3.worker (u' := ⟨u.told, .learn (upd R i ⟨cv, cr, 0⟩)⟩) (f' := f) HH.out.2.1 hpw HW.out.2.2.2.2.1 HW.out.2.2.2.2.2.1 HW.out.2.2.2.2.2.2 ho4 (fun x hx => by simp at hx; subst hx; exact .inr (by simp [Ft.bl, hrc])) hw4 (fun x hx => .inl hx)
  exact ⟨rfl, ⟨_, _, _, hM4⟩, (hbel.trans (ho3.to_below (Nat.le_trans HH.out.1.base_le hR1.ho.size) (by simp))).trans (ho4.to_below hsz3 (by simpa using hbm))⟩
set_option maxRecDepth 100000 in
set_option maxHeartbeats 2000000 in
theorem run_helps (h : MLie base w G J M Ps Fs AL) (hk : M.ws[k]? = some u) (hp : u.ph = .learn R) (hj : jobOf J k u = some j) (hD : M.Ds.length ≤ 1000000) (hL : M.log.length ≤ 1000000) {pw : Nat} (hpw : G.Pw[k]? = some pw) {i : Int} (hlk : (j.run (machD M.s.L.length R) Dt.new).2.lk = some i) {c : C} (hg : M.s.get i = some c) (hmz : c.mark ≠ 0) (hRi : R i = none) (hi : inB M.s.L.length i = true) :
    Calls Try.prog 26 #[.pointer (some ⟨G.pm, 0, none⟩), .pointer (some ⟨pw, 0, none⟩)] w (RunLeaves base w G J (helpM M.ws.length M c.mark)) := by
  obtain ⟨pw', f, fv, js, bt, bm, last, jv, num, hpw', hf, hfv, hjs, hw, hrc, hbt, hbm, hin, hj', hR⟩ := runAt_of h hk hp hj hD
  rw [hpw] at hpw'
  cases hpw'
  have hcR := Lib.hid fun wa hwa => run_head (wa := wa) hR hwa
  have c3 : (w.alloc (.cells #[.pointer (some ⟨pw, 0, none⟩)] PWT)).cell? ⟨pw, 3, none⟩ = some (.pointer (some ⟨bt, 0, none⟩)) := (hR.hw.alloc _).cell 3
  have hl1 := hR.hw.lt
  have HH := Lib.hid (And.intro h (And.intro hk hp))
  have HW := Lib.hid (And.intro hw (And.intro hR (And.intro hin (And.intro hj' (And.intro hf (And.intro hfv hjs))))))
  have hN := Lib.hid (show (M.s.L.length : Nat) ≤ 1000 from h.lim)
  clear h hk hp hw hR hin hj' hD hj hf hfv hjs
  go_enter Try.func26, Try.ntmps26
  go_wp2_with fail
  have cR := hcR.out _ rfl
  rw [hlk, show (some i).getD 0 = i from rfl, show (!(some i).isSome) = false from rfl] at cR
  refine cR.mono ?_
  clear cR hcR c3
  rintro e w1 ⟨rfl, hR1⟩
  obtain ⟨bd, bw, m, hr1, -⟩ := hR1.hr
  obtain ⟨hM1, hbel⟩ := ran_lie HH.out.1 HH.out.2.1 HH.out.2.2 hpw HW.out.2.2.2.2.1 HW.out.2.2.2.2.2.1 HW.out.2.2.2.2.2.2 HW.out.1 hrc hbt hbm HW.out.2.2.1 HW.out.2.2.2.1 HW.out.2.1 rfl hR1.ho hr1
  have m0 : w1.cell? ⟨G.pm, 0, none⟩ = some (.pointer (some ⟨G.ps, 0, none⟩)) := hR1.hm.cell 0
  have cG := read_any G.ps G.gS M.s i w1 hM1.store
  rw [show readI M.s i = (0, c) by unfold readI; rw [hg]] at cG
  have H1 := Lib.hid (And.intro hM1 (And.intro hr1 (And.intro hR1 hbel)))
  clear hM1 hr1 hR1
  obtain ⟨cv, cr, cm⟩ := c
  go_wp2_with fail
  refine cG.mono ?_
  clear cG
  rintro e w2 ⟨rfl, ho2⟩
  simp only [cV]
  have hm' : Hid ((cm != 0) = true) := Lib.hid (by simpa using hmz)
  clear hmz
  go_wp2_with fail
  all_goals first
    | (have hq : (cm != 0) = false := by assumption
       rw [hm'.out] at hq
       cases hq)
    | (obtain ⟨hM1, hr1, hR1, hbel⟩ := H1.out
       have ho3 : Only [] w1 (w2.alloc (.cells #[.int .u64 cv, .int .u32 cr, .int .i64 cm] 84)) := ho2.alloc _
       have hM3 := hM1.only0 ho3
       generalize w2.alloc (.cells #[.int .u64 cv, .int .u32 cr, .int .i64 cm] 84) = w3 at ho3 hM3 ⊢
       refine (help_any hM3 cm hL).mono ?_
       rintro e w4 ⟨rfl, ⟨AL4, hM4⟩, hmv⟩
       go_wp2_with fail
       refine bodyPost_ret (results_none rfl _ _ _) rfl ?_
       have hb1 := Nat.le_trans HH.out.1.base_le hR1.ho.size
       exact ⟨rfl, ⟨_, _, _, hM4⟩, (hbel.trans (ho3.to_below hb1 (by simp))).trans (hmv.below' (Nat.le_trans hb1 ho3.size))⟩)
end
end
end Go.Proofs.Ytleomgmhkoglmaa
