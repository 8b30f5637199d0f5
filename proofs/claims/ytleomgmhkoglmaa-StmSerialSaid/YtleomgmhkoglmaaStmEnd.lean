/- A machine as it is made; steps till no job is under way; how many cells bear a mark (layer 8's statements). -/
import Derived.Test.YtleomgmhkoglmaaStmJobs
import Derived.Test.YtleomgmhkoglmaaStmMath
namespace Go.Proofs.Ytleomgmhkoglmaa
section
open Go.RowKit Go.Maps
/-- a machine at its beginning -/
def startM (s : St) (n : Nat) : Ma := ⟨s, List.replicate n ⟨[], .idle⟩, [], []⟩
theorem startM_at {s : St} {n k : Nat} {u : Wk} (h : (startM s n).ws[k]? = some u) : u = ⟨[], .idle⟩ := by
  simp only [startM, List.getElem?_replicate] at h
  split at h
  · cases h; rfl
  · cases h
theorem startM_len (s : St) (n : Nat) : (startM s n).ws.length = n := by simp [startM]
theorem MGood.start {N n : Nat} {s : St} {J : List (List Jb)} (hs : s.L = List.replicate N ⟨0, 0, 0⟩) (hl : 1 ≤ s.lim) (hN : N ≤ 1000) (hJ : J.length = n) : MGood N J (startM s n) s.L := by
  have hat : ∀ (i : Nat) (c : C), s.L[i]? = some c → c = ⟨0, 0, 0⟩ := fun i c hc => by
    rw [hs, List.getElem?_replicate] at hc
    split at hc
    · cases hc; rfl
    · cases hc
  have hlen : s.L.length = N := by rw [hs]; simp
  refine ⟨⟨?_, ?_, ?_, hlen, hl, hlen, ?_, ?_, fun i c hc => ?_⟩, by rw [startM_len]; exact hJ, hN, ?_, ?_, ?_, ?_, ?_, ?_, ?_, ?_, ?_⟩
  · intro k d hd; simp [startM] at hd
  · intro k d hd; simp [startM] at hd
  · intro k d hd; simp [startM] at hd
  · intro i c hc hm
    rw [hat i c hc] at hm
    exact absurd rfl hm
  · intro k d j e hd; simp [startM] at hd
  · have hc' := hat i c hc
    rw [pend_free (by rw [hc'])]
    exact hc
  · intro i d hd; simp [startM] at hd
  · intro k k' u u' i n n' h1 h2 p1 p2
    rw [startM_at h1] at p1
    cases p1
  · intro k u i n h1 p1
    rw [startM_at h1] at p1
    cases p1
  · intro k u h1
    rw [startM_at h1]
    exact ⟨fun h => absurd rfl h, by simp⟩
  · intro k u R h1 p1
    rw [startM_at h1] at p1
    cases p1
  · intro k u i n d h1 p1
    rw [startM_at h1] at p1
    cases p1
  · intro i x hx; simp [startM] at hx
  · rw [hs]
    simp [startM, valsOf]
  · intro k u h1
    rw [startM_at h1]
    simp [startM, toldOf, tailOf]
section
variable {base : Nat} {w w' : World}
theorem MLie.start {ps gS pm cW : Nat} {AW : Option Addr} {Pw : List Nat} {fvs : List Value} {s : St} {J : List (List Jb)} (h : NewAt w w' ps fvs pm AW cW Pw) (hs : StoreAt w WT ps gS s) (hl : s.L.length ≤ 1000) (hb : base ≤ w.heap.size) (hg : base ≤ gS) (hJ : J.length = fvs.length) (h8 : fvs.length ≤ 8)
    (hF : ∀ (k : Nat) (fv : Value) (js : List Jb), fvs[k]? = some fv → J[k]? = some js → FeedAt base w fv js ∧ js.length ≤ 8) : MLie base w' ⟨pm, ps, gS, AW, cW, Pw, fvs⟩ J (startM s fvs.length) [] (List.replicate fvs.length ⟨.slice none 0 0, []⟩) (.slice none 0 0) := by
  refine ⟨hs.only h.ho (by simp) (by simp), hl, Crowd.nil _ _ _ _ _, by rw [startM_len]; exact h.mach, World.ownsRow_nil _ _ _ _, h.row, h.nodup, ⟨by rw [startM_len]; exact h.len, by rw [startM_len]; simp, by rw [startM_len], by rw [startM_len]; exact hJ⟩, fun k u pw f fv js h1 h2 h3 h4 h5 => ?_, fun k fv js h1 h2 => ⟨(hF k fv js h1 h2).1.only h.ho Clear.nil (by simp), (hF k fv js h1 h2).2⟩, fun k k' f f' hk h1 h2 x hx => ?_, ⟨Nat.le_trans hb h.pm, hg, by simp⟩, by rw [startM_len]; exact h8⟩
  · have hu := startM_at h1
    subst hu
    have hf : f = ⟨.slice none 0 0, []⟩ := by
      rw [List.getElem?_replicate] at h3
      split at h3
      · cases h3; rfl
      · cases h3
    subst hf
    obtain ⟨g1, g2⟩ := h.wk k pw fv h2 h4
    exact ⟨⟨_, _, _, _, g2, rfl, rfl, rfl⟩, World.ownsRow_nil _ _ _ _, Nat.le_trans hb g1⟩
  · have hf : f = ⟨.slice none 0 0, []⟩ := by
      rw [List.getElem?_replicate] at h1
      split at h1
      · cases h1; rfl
      · cases h1
    subst hf
    simp [Ft.bl, Value.ownBlock] at hx
end
end
section
open Go.RowKit Go.Maps
section
variable {base : Nat} {w : World}
set_option maxRecDepth 100000 in
set_option maxHeartbeats 1600000 in
theorem marks_any {p g : Nat} {s : St} (h : StoreAt w WT p g s) (h0 : ∀ (i : Nat) (c : C), s.L[i]? = some c → c.mark = 0) :
    Calls Try.prog 17 #[.pointer (some ⟨p, 0, none⟩)] w fun e w' => e = .returned (.int .i64 0) ∧ Only [] w w' := by
  have hlen := h.ok.len
  have H := Lib.hid (And.intro h h0)
  clear h h0
  go_enter Try.func17, Try.ntmps17
  go_wp2_with fail
  go_loopw [3, 4] (fun n i wr => ∃ k : Nat, k ≤ s.L.length ∧ i = .int .i64 k ∧ n = .int .i64 0 ∧ Only [] w wr) (fun _ i _ => s.L.length - (intOf i).toNat)
  case atStart => exact ⟨0, by omega, rfl, rfl, Only.refl _ _⟩
  case round =>
    obtain ⟨k, hk, rfl, rfl, ho⟩ := hrel
    have hs := H.out.1.only ho (by simp) (by simp)
    have cL := len_any p g s wr hs
    by_cases hlt : k < s.L.length
    · obtain ⟨c, hc⟩ : ∃ c, s.L[k]? = some c := ⟨_, List.getElem?_eq_getElem hlt⟩
      have hm := H.out.2 k c hc
      have cR := read_any p g s k wr hs
      rw [show readI s k = (0, c) by unfold readI; rw [St.get_nat, hc]] at cR
      obtain ⟨cv, cr, cm⟩ := c
      simp only at hm
      subst hm
      clear hs hc
      go_wp2_with (first | (go_at_call 25; (with_reducible refine cL.mono ?_); rintro e w1 ⟨rfl, rfl⟩))
      refine cR.mono ?_
      clear cR
      rintro e w2 ⟨rfl, ho2⟩
      simp only [cV]
      go_wp2_with fail
      go_roundw
      case rel => exact ⟨k + 1, by omega, by go_num, rfl, (ho.trans ho2).alloc _⟩
      case measure => simp [intOf]; omega
    · obtain rfl : k = s.L.length := by omega
      clear hs
      go_wp2_with (first | (go_at_call 25; (with_reducible refine cL.mono ?_); rintro e w1 ⟨rfl, rfl⟩))
      go_ret
      exact ⟨rfl, ho⟩
/-- a machine that goes well, and how many steps it has made at most -/
structure Goes (base : Nat) (w : World) (G : Geo) (J : List (List Jb)) (N : Nat) (t : Nat) (M : Ma) (Wt : List C) : Prop where
  lie : MAt base w G J M
  good : MGood N J M Wt
  ds : M.Ds.length ≤ t
  lg : M.log.length ≤ t
variable {G : Geo} {J : List (List Jb)} {N t : Nat} {M : Ma} {Wt : List C} {k : Nat} {u : Wk}
theorem MAt.toldLe (h : MAt base w G J M) (hg : MGood N J M Wt) (hk : M.ws[k]? = some u) : u.told.length ≤ 8 := by
  obtain ⟨Ps, Fs, AL, h⟩ := h
  obtain ⟨pw, f, fv, js, h1, h2, h3, h4, h5⟩ := h.at_ hk
  have := (hg.job k u hk).2
  rw [List.getD_eq_getElem?_getD, h4] at this
  have h8 := (h.feed k fv js h3 h4).2
  simp only [Option.getD_some] at this
  omega
/-- a step of whoever is there -/
theorem Goes.step (h : Goes base w G J N t M Wt) (hk : k < M.ws.length) (ht : t ≤ 1000000) : Calls Try.prog 10 #[.pointer (some ⟨G.pm, 0, none⟩), .int .i64 k] w (StepLeaves base w G J (stepM J M k)) :=
  step_yes h.lie hk (by have := h.ds; omega) (by have := h.lg; omega) (fun u hu => h.lie.toldLe h.good hu) (fun u hu hne => (h.good.job k u hu).1 hne)
theorem Goes.next (h : Goes base w G J N t M Wt) (hk : k < M.ws.length) {e : Ending} {w' : World} (hl : StepLeaves base w G J (stepM J M k) e w') : ∃ Wt', Goes base w' G J N (t + 1) (stepM J M k).2 Wt' ∧ (stepM J M k).2.ws.length = M.ws.length ∧ ((stepM J M k).1 = true → Moved N M Wt (stepM J M k).2 Wt' ∧ ((∃ u, M.ws[k]? = some u ∧ u.ph ≠ .idle) → Psi N Wt' (stepM J M k).2 + Cph N (stepM J M k).2 + 1 ≤ Psi N Wt M + Cph N M)) ∧
    ((stepM J M k).1 = false → (stepM J M k).2 = M ∧ Wt' = Wt) := by
  obtain ⟨-, hM, -⟩ := hl
  have h1 := h.ds
  have h2 := h.lg
  cases hb : (stepM J M k).1 with
  | true =>
    obtain ⟨W', g1, g2, g3⟩ := h.good.step hk hb
    have g4 := g2.ds
    have g5 := g2.lg
    exact ⟨W', ⟨hM, g1, by omega, by omega⟩, g2.wsl, (fun _ => ⟨g2, g3⟩), (fun h => by cases h)⟩
  | false =>
    have e := stepM_no hb
    rw [e] at hM ⊢
    exact ⟨Wt, ⟨hM, h.good, by omega, by omega⟩, rfl, (fun h => by cases h), fun _ => ⟨rfl, rfl⟩⟩
theorem busy_ph {u : Wk} (h : u.busy = true) : u.ph ≠ .idle := fun e => by simp [Wk.busy, e] at h
theorem busy_no {u : Wk} (h : u.busy = false) : u.ph = .idle := by
  unfold Wk.busy at h
  split at h
  · assumption
  · cases h
theorem Goes.only0 {w' : World} (h : Goes base w G J N t M Wt) (ho : Only [] w w') : Goes base w' G J N t M Wt := ⟨h.lie.only0 ho, h.good, h.ds, h.lg⟩
/-- where end has come to -/
def EndIn (base : Nat) (w wr : World) (G : Geo) (J : List (List Jb)) (N t n D i : Nat) : Prop := ∃ t' M' Wt', Goes base wr G J N t' M' Wt' ∧ M'.ws.length = n ∧ i + (Psi N Wt' M' + Cph N M') ≤ D ∧ t' + (Psi N Wt' M' + Cph N M') ≤ t + D ∧ Below base w wr
/-- .. within a round -/
def EndTo (base : Nat) (w wr : World) (G : Geo) (J : List (List Jb)) (N t n D i j : Nat) (b : Bool) : Prop := ∃ t' M' Wt', Goes base wr G J N t' M' Wt' ∧ M'.ws.length = n ∧ t' + (Psi N Wt' M' + Cph N M') ≤ t + D ∧ Below base w wr ∧
  ((b = false ∧ i + (Psi N Wt' M' + Cph N M') ≤ D ∧ ∀ (k : Nat) (u : Wk), k < j → M'.ws[k]? = some u → u.ph = .idle) ∨ (b = true ∧ i + 1 + (Psi N Wt' M' + Cph N M') ≤ D))
set_option maxRecDepth 100000 in
set_option maxHeartbeats 2000000 in
theorem end_any {n D : Nat} (h : Goes base w G J N t M Wt) (hn : M.ws.length = n) (h8 : n ≤ 8) (hD : Psi N Wt M + Cph N M = D) (hD5 : D ≤ 4000) (ht : t ≤ 900000) :
    Calls Try.prog 11 #[.pointer (some ⟨G.pm, 0, none⟩), .int .i64 n, .int .i64 5000] w fun e w' => e = .returned (.bool true) ∧ (∃ t' M' Wt', Goes base w' G J N t' M' Wt' ∧ M'.ws.length = n ∧ t' ≤ t + D ∧ ∀ (k : Nat) (u : Wk), M'.ws[k]? = some u → u.ph = .idle) ∧ Below base w w' := by
  have H0 : EndIn base w w G J N t n D 0 := ⟨t, M, Wt, h, hn, by omega, by omega, Below.refl _ _⟩
  have HH := Lib.hid H0
  clear h hn hD H0
  go_enter Try.func11, Try.ntmps11
  go_wp2_with fail
  go_loopw [7] (fun i wr => ∃ k : Nat, k ≤ 5000 ∧ i = .int .i64 k ∧ EndIn base w wr G J N t n D k) (fun i _ => 5000 - (intOf i).toNat)
  case atStart => exact ⟨0, by omega, rfl, HH.out⟩
  case round =>
    clear HH
    obtain ⟨i, hi, rfl, hE⟩ := hrel
    obtain ⟨wo, rfl⟩ : ∃ x, x = wr := ⟨_, rfl⟩
    have hi0 : i ≤ D := by obtain ⟨_, _, _, _, _, h1, _⟩ := hE; omega
    have hi1 : (i : Int) < 5000 := by omega
    have HE := Lib.hid hE
    clear hE
    go_wp2_with fail
    go_loopw [8, 9] (fun b j wr => ∃ (q : Bool) (j' : Nat), j' ≤ n ∧ b = .bool q ∧ j = .int .i64 j' ∧ EndTo base w wr G J N t n D i j' q) (fun _ j _ => n - (intOf j).toNat)
    case atStart =>
      obtain ⟨t', M', Wt', h1, h2, h3, h4, h5⟩ := HE.out
      exact ⟨false, 0, by omega, rfl, rfl, t', M', Wt', h1, h2, h4, h5, .inl ⟨rfl, h3, fun k u hk => by omega⟩⟩
    case round =>
      clear HE
      obtain ⟨q, j, hj, rfl, rfl, t', M', Wt', hG, hn, hc, hb, hq⟩ := hrel
      by_cases hlt : j < n
      · obtain ⟨u, hu⟩ : ∃ u, M'.ws[j]? = some u := ⟨_, List.getElem?_eq_getElem (by omega)⟩
        have cB := busy_any hG.lie hu
        have hk1 : (j : Int) < (n : Int) := by omega
        have cS := hG.step (k := j) (by omega) (by omega)
        have HX := Lib.hid (And.intro hG (And.intro hc (And.intro hb (And.intro hq (And.intro hn hu)))))
        clear hG hc hb hq hn hu
        cases hbz : u.busy with
        | true =>
          rw [hbz] at cB
          go_wp2_with (go_at_call 21; (with_reducible refine cB.mono ?_); rintro e w1 ⟨rfl, rfl⟩)
          refine cS.mono ?_
          clear cS cB
          rintro e w2 hL
          obtain ⟨hG, hc, hb, hq, hn, hu⟩ := HX.out
          obtain ⟨Wt2, g1, g2, g3, g4⟩ := hG.next (by omega) hL
          obtain ⟨rfl, hM2, hbel⟩ := hL
          have hst : (stepM J M' j).1 = true := stepM_busy hu (busy_ph hbz)
          have g5 := (g3 hst).2 ⟨u, hu, busy_ph hbz⟩
          have hbel2 := hb.trans hbel
          have hfin : EndTo base w w2 G J N t n D i (j + 1) true := ⟨t' + 1, _, Wt2, g1, by omega, by omega, hbel2, .inr ⟨rfl, by rcases hq with ⟨_, h1, _⟩ | ⟨_, h1⟩ <;> omega⟩⟩
          have HF := Lib.hid hfin
          clear hfin g1 g2 g3 g4 g5 hM2 hbel hbel2 hG hc hb hq hn hu HX
          go_wp2_with fail
          go_roundw
          case rel => exact ⟨true, j + 1, by omega, rfl, by go_num, HF.out⟩
          case measure => simp [intOf]; omega
        | false =>
          rw [hbz] at cB
          clear cS
          go_wp2_with (go_at_call 21; (with_reducible refine cB.mono ?_); rintro e w1 ⟨rfl, rfl⟩)
          go_roundw
          case rel =>
            obtain ⟨hG, hc, hb, hq, hn, hu⟩ := HX.out
            refine ⟨q, j + 1, by omega, rfl, by go_num, t', M', Wt', hG, hn, hc, hb, ?_⟩
            rcases hq with ⟨h1, h2, h3⟩ | h1
            · refine .inl ⟨h1, h2, fun k u' hk hu' => ?_⟩
              by_cases hkj : k = j
              · subst hkj
                rw [hu] at hu'
                cases hu'
                exact busy_no hbz
              · exact h3 k u' (by omega) hu'
            · exact .inr h1
          case measure => simp [intOf]; omega
      · obtain rfl : j = n := by omega
        rcases hq with ⟨rfl, h2, h3⟩ | ⟨rfl, h2⟩
        · go_wp2_with fail
          go_ret
          exact ⟨rfl, ⟨t', M', Wt', hG, hn, by omega, fun k u hk => h3 k u (by have := (List.getElem?_eq_some_iff.1 hk).1; omega) hk⟩, hb⟩
        · have HF : Hid (EndIn base w wr G J N t j D (i + 1)) := Lib.hid ⟨t', M', Wt', hG, hn, by omega, hc, hb⟩
          clear hG hc hb
          go_wp2_with fail
          go_roundw
          case rel => exact ⟨i + 1, by omega, by go_num, HF.out⟩
          case measure => simp [intOf]; omega
end
end
end Go.Proofs.Ytleomgmhkoglmaa
