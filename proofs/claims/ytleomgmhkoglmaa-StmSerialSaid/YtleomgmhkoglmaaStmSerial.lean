/- StmSerial: all is as one job behind the other, in the log's order, walked (layer 8). -/
import Derived.Test.YtleomgmhkoglmaaStmSerialM
import Derived.StillTailTactics
import Derived.Deep.RegionHeld3
namespace Go.Proofs.Ytleomgmhkoglmaa
open Go.RowKit Go.Maps
abbrev U64T : TypeId := 46
section
variable {w : World} {C J : Option Addr} {Ls : List (List (List O))} {Xs : List Int}
set_option maxRecDepth 100000 in
set_option maxHeartbeats 4000000 in
theorem serial_out1 (cp cq n m : Nat) (cells lim : Int) (w : World) (G : cells < 1 ∨ (1 ≤ cells ∧ 20 < cells) ∨ (1 ≤ cells ∧ cells ≤ 20 ∧ lim < 1)) :
    Calls Try.prog 3 #[.int .i64 cells, .int .u32 lim, .slice C n cp, .slice J m cq] w fun e w' => e = .returned (.bool true) ∧ Only [] w w' := by
  rcases G with h1 | ⟨h1, h2⟩ | ⟨h1, h2, h3⟩
  all_goals
    go_enter Try.func3, Try.ntmps3
    go_wp2_with fail
    (with_reducible refine up_any.mono ?_)
    rintro e w1 ⟨rfl, ho1⟩
    go_wp2_with fail
    go_ret
    exact ⟨rfl, ho1⟩
set_option maxRecDepth 100000 in
set_option maxHeartbeats 4000000 in
theorem serial_out2 (cp cq m : Nat) (cells lim : Int) (hC : Ops3 w w.heap.size C Ls) (hl : Ls.length ≤ 9223372036854775807) (hl2 : ∀ (i : Nat) (L : List (List O)), Ls[i]? = some L → L.length ≤ 9223372036854775807) (h1 : 1 ≤ cells) (h6 : cells ≤ 20) (hlim : 1 ≤ lim) (G : 600 < m) :
    Calls Try.prog 3 #[.int .i64 cells, .int .u32 lim, .slice C Ls.length cp, .slice J m cq] w fun e w' => e = .returned (.bool true) ∧ Only [] w w' := by
  have H := Lib.hid (And.intro hC hl2)
  clear hC hl2
  go_enter Try.func3, Try.ntmps3
  go_wp2_with fail
  (with_reducible refine up_any.mono ?_)
  rintro e w1 ⟨rfl, ho1⟩
  go_wp2_with fail
  have cS := small_any cp (H.out.1.only0 ho1) hl H.out.2
  with_reducible refine cS.mono ?_
  clear cS
  rintro e w2 ⟨⟨b, rfl, -⟩, rfl⟩
  cases b
  all_goals
    go_wp2_with fail
    go_ret
    exact ⟨rfl, ho1⟩
/-- where the steps have come to -/
def StepsTo (base : Nat) (w5 wr : World) (G : Geo) (Js : List (List Jb)) (N n k : Nat) : Prop := ∃ t M Wt, Goes base wr G Js N t M Wt ∧ t ≤ k ∧ M.ws.length = n ∧ Below base w5 wr
theorem steps_any {base : Nat} {w5 wr : World} {G : Geo} {Js : List (List Jb)} {N n k : Nat} (hG : StepsTo base w5 wr G Js N n k) (hk : k ≤ 3000) (x : Int) : Calls Try.prog 10 #[.pointer (some ⟨G.pm, 0, none⟩), .int .i64 x] wr fun e w7 => ∃ b : Bool, e = .returned (.bool b) ∧ StepsTo base w5 w7 G Js N n (k + 1) := by
  obtain ⟨t, M, Wt, hGo, ht, hMl, hbel⟩ := hG
  by_cases hin : 0 ≤ x ∧ x < (n : Int)
  · obtain ⟨m, rfl⟩ : ∃ m : Nat, x = m := ⟨x.toNat, by omega⟩
    refine (hGo.step (k := m) (by omega) (by omega)).mono ?_
    rintro e w7 hL
    obtain ⟨Wt', g1, g2, -, -⟩ := hGo.next (by omega) hL
    exact ⟨_, hL.1, t + 1, _, Wt', g1, by omega, by omega, hbel.trans hL.2.2⟩
  · obtain ⟨Ps, Fs, AL, hlie⟩ := hGo.lie
    refine (step_no hlie (by omega)).mono ?_
    rintro e w7 hL
    exact ⟨_, hL.1, t, M, Wt, ⟨hL.2.1, hGo.good, hGo.ds, hGo.lg⟩, by omega, hMl, hbel.trans hL.2.2⟩
/-- a slice's length as the numbers of done jobs -/
def doneL (log : List Lg) (i n : Nat) : List Int := (List.range n).map fun k => ((doneTo log i k : Nat) : Int)
theorem doneL_at {log : List Lg} {i n k : Nat} (h : k < n) : (doneL log i n)[k]? = some ((doneTo log i k : Nat) : Int) := by simp [doneL, h]
theorem doneL_zero {log : List Lg} {n : Nat} : doneL log 0 n = List.replicate n 0 := by
  apply List.ext_getElem?
  intro k
  by_cases h : k < n
  · rw [doneL_at h, List.getElem?_replicate, if_pos h]; rfl
  · rw [List.getElem?_eq_none (by simp [doneL]; omega), List.getElem?_eq_none (by simp; omega)]
theorem doneL_succ {log : List Lg} {i n : Nat} {x : Lg} (h : log[i]? = some x) (hx : x.wk < n) : doneL log (i + 1) n = (doneL log i n).set x.wk (((doneTo log i x.wk : Nat) : Int) + 1) := by
  have hs : ∀ k, doneTo log (i + 1) k = doneTo log i k + if x.wk = k then 1 else 0 := fun k => doneTo_succ (M := ⟨⟨0, []⟩, [], [], log⟩) h
  apply List.ext_getElem?
  intro k
  by_cases hk : k < n
  · rw [doneL_at hk, hs k]
    by_cases e : x.wk = k
    · subst e
      rw [List.getElem?_set_self (by simp [doneL]; omega)]
      simp
    · rw [List.getElem?_set_ne e, doneL_at hk, if_neg e]
      simp
  · rw [List.getElem?_eq_none (by simp [doneL]; omega), List.getElem?_eq_none (by simp [doneL]; omega)]
theorem infoU : (Try.prog.info? 46).map (fun i => (i.zero, i.size, i.bytes)) = some (some (.int .u64 0), 1, 8) := by kernel_rfl
theorem rowU_of {W : World} {g : Nat} {t : TypeId} {L : List Int} (h : Blk W g t (flat u64row L)) : RowU W g t L := ⟨_, h, fun k x hk => by
  have := flat_at (f := u64row) (i := k) (n := 1) (j := 0) (L := L) (fun _ => rfl) hk rfl
  simpa using this⟩
/-- where the walk through the log has come to -/
structure SerAt (w9 wr : World) (N n : Nat) (Ls : List (List (List O))) (log : List Lg) (gp gd i : Nat) : Prop where
  rp : RowU wr gp U64T (valsTo Ls N log i)
  vl : (valsTo Ls N log i).length = N
  rd : Blk wr gd IntT (flat irow (doneL log i n))
  ho : Only [gp, gd] w9 wr
theorem SerAt.old {wE w9 wr : World} {N n : Nat} {log : List Lg} {gp gd i : Nat} (h : SerAt w9 wr N n Ls log gp gd i) (h9 : Only [] wE w9) (hp : wE.heap.size ≤ gp) (hd : wE.heap.size ≤ gd) : Only [] wE wr :=
  h9.then h.ho fun x hx => by
    simp only [List.mem_cons, List.not_mem_nil, or_false] at hx
    rcases hx with rfl | rfl
    · exact .inr hp
    · exact .inr hd
/-- an entry of the log, as it lies -/
theorem SerAt.log {w9 wr : World} {N n : Nat} {log : List Lg} {gp gd i : Nat} {A : Option Addr} {x : Lg} (h : SerAt w9 wr N n Ls log gp gd i) (hr : RowN w9 A LgT Lg.row 4 log) (hp : ∃ cur, Blk w9 gp U64T cur) (hd : ∃ cur, Blk w9 gd IntT cur) (hi : log[i]? = some x) : ∃ g9, A = some ⟨g9, 0, none⟩ ∧ g9 < wr.heap.size ∧
    wr.cell? ⟨g9, i * 4, none⟩ = some (.int .i64 x.wk) ∧ wr.cell? ⟨g9, i * 4 + 1, none⟩ = some (.int .i64 x.job) ∧ wr.cell? ⟨g9, i * 4 + 2, none⟩ = some (.int .i64 x.told) ∧ wr.cell? ⟨g9, i * 4 + 3, none⟩ = some (.bool x.spent) := by
  obtain ⟨g9, cur, hA, hb, hc⟩ := hr i x hi
  obtain ⟨c1, hp⟩ := hp
  obtain ⟨c2, hd⟩ := hd
  have hb' := h.ho.blk hb (apart_of hp hd (t := LgT) (by decide) (by decide) _ _ hb)
  refine ⟨g9, hA, hb'.lt, ?_, ?_, ?_, ?_⟩
  · rw [hb'.cell]; exact hc 0 _ rfl
  · rw [hb'.cell]; exact hc 1 _ rfl
  · rw [hb'.cell]; exact hc 2 _ rfl
  · rw [hb'.cell]; exact hc 3 _ rfl
theorem SerAt.done {w9 wr : World} {N n : Nat} {log : List Lg} {gp gd i k : Nat} (h : SerAt w9 wr N n Ls log gp gd i) (hk : k < n) : wr.cell? ⟨gd, k, none⟩ = some (.int .i64 (doneTo log i k : Nat)) := by
  rw [h.rd.cell]
  have := flat_at (f := irow) (i := k) (n := 1) (j := 0) (L := doneL log i n) (fun _ => rfl) (doneL_at hk) rfl
  simpa using this
theorem blk_ser {w9 : World} {N n : Nat} {log : List Lg} {gp gd : Nat} (h1 : Blk w9 gp U64T (flat u64row (List.replicate N 0))) (h2 : Blk w9 gd IntT (flat irow (List.replicate n 0))) : SerAt w9 w9 N n Ls log gp gd 0 :=
  ⟨rowU_of h1, by simp [valsTo, valsOf], by rw [doneL_zero]; exact h2, Only.refl _ _⟩
theorem rowI_at {W : World} {A : Option Addr} {L : List Int} {k : Nat} {x : Int} (h : RowN W A IntT irow 1 L) (hk : L[k]? = some x) : ∃ g, A = some ⟨g, 0, none⟩ ∧ g < W.heap.size ∧ W.cell? ⟨g, k, none⟩ = some (.int .i64 x) := by
  obtain ⟨g, cur, hA, hb, hc⟩ := h k x hk
  refine ⟨g, hA, hb.lt, ?_⟩
  rw [hb.cell]
  have := hc 0 _ rfl
  simpa using this
theorem done_cell {W : World} {log : List Lg} {gd i n k : Nat} (h : Blk W gd IntT (flat irow (doneL log i n))) (hk : k < n) : W.cell? ⟨gd, k, none⟩ = some (.int .i64 (doneTo log i k : Nat)) := by
  rw [h.cell]
  have := flat_at (f := irow) (i := k) (n := 1) (j := 0) (L := doneL log i n) (fun _ => rfl) (doneL_at hk) rfl
  simpa using this
/-- an entry further -/
theorem SerAt.next {w9 wr wd : World} {N n : Nat} {log : List Lg} {gp gd i : Nat} {x : Lg} (h : SerAt w9 wr N n Ls log gp gd i) (hx : log[i]? = some x) (hwk : x.wk < n) (hjob : x.job = doneTo log i x.wk) (ho : Only [gp] wr wd) (hp : RowU wd gp U64T (valsTo Ls N log (i + 1))) (hl : (valsTo Ls N log (i + 1)).length = N) (hne : gp ≠ gd) :
    SerAt w9 (wd.setCell ⟨gd, x.wk, none⟩ (.int .i64 ((x.job : Int) + 1))) N n Ls log gp gd (i + 1) := by
  have hO : Only [gd] wd (wd.setCell ⟨gd, x.wk, none⟩ (.int .i64 ((x.job : Int) + 1))) := (Only.refl _ _).setCell (.inl (by simp)) _
  refine ⟨hp.only hO (by simpa using hne), hl, ?_, (h.ho.trans (ho.more (by simp +contextual))).trans (hO.more (by simp +contextual))⟩
  have h1 := (ho.blk h.rd (by simp; exact fun e => hne e.symm)).set_ x.wk (.int .i64 ((x.job : Int) + 1))
  have h2 := flat_set (f := irow) (n := 1) (i := x.wk) (j := 0) (L := doneL log i n) (b := ((x.job : Int) + 1)) (v := .int .i64 ((x.job : Int) + 1)) (fun _ => rfl) (doneL_at hwk) (by omega) rfl
  rw [Nat.mul_one, Nat.add_zero] at h2
  rw [h2] at h1
  rw [doneL_succ hx hwk, ← hjob]
  exact h1
set_option maxRecDepth 100000 in
set_option maxHeartbeats 16000000 in
theorem serial_any (cp cq : Nat) (cells lim : Int) (w : World) (hC : Ops3 w w.heap.size C Ls) (hl : Ls.length ≤ 9223372036854775807) (hl2 : ∀ (i : Nat) (L : List (List O)), Ls[i]? = some L → L.length ≤ 9223372036854775807) (hX : Ints w J Xs) (hx : Xs.length ≤ 9223372036854775807) (hlim2 : lim ≤ 4294967295) :
    Calls Try.prog 3 #[.int .i64 cells, .int .u32 lim, .slice C Ls.length cp, .slice J Xs.length cq] w fun e w' => e = .returned (.bool true) ∧ Only [] w w' := by
  by_cases h1 : cells < 1
  · exact serial_out1 cp cq Ls.length Xs.length cells lim w (by omega)
  by_cases h2 : 20 < cells
  · exact serial_out1 cp cq Ls.length Xs.length cells lim w (by omega)
  by_cases h3 : lim < 1
  · exact serial_out1 cp cq Ls.length Xs.length cells lim w (by omega)
  by_cases h4 : 600 < Xs.length
  · exact serial_out2 cp cq Xs.length cells lim hC hl hl2 (by omega) (by omega) (by omega) h4
  replace h1 : 1 ≤ cells := by omega
  replace h2 : cells ≤ 20 := by omega
  replace h3 : 1 ≤ lim := by omega
  replace h4 : Xs.length ≤ 600 := by omega
  obtain ⟨N, rfl⟩ : ∃ N : Nat, cells = N := ⟨cells.toNat, by omega⟩
  have H := Lib.hid (And.intro hC (And.intro hl2 hX))
  clear hC hl2 hX
  go_enter Try.func3, Try.ntmps3
  go_wp2_with fail
  (with_reducible refine up_any.mono ?_)
  rintro e w1 ⟨rfl, ho1⟩
  go_wp2_with fail
  have cS := small_any cp (H.out.1.only0 ho1) hl H.out.2.1
  with_reducible refine cS.mono ?_
  clear cS
  rintro e w2 ⟨⟨b, rfl, hfew⟩, rfl⟩
  cases b
  · clear hfew
    go_wp2_with fail
    go_ret
    exact ⟨rfl, ho1⟩
  have HF := Lib.hid (hfew rfl).2
  have h5 := (hfew rfl).1
  clear hfew
  go_wp2_with fail
  refine (new_good (N : Int) lim w1 h1 (by omega) h3 hlim2).mono ?_
  rintro e w3 ⟨rfl, hs3, ho3⟩
  rw [codeV0]
  simp only [Int.toNat_natCast] at hs3
  have hoA := ho1.trans ho3
  clear ho3
  go_wp2_with fail
  have cJ := jobs_any cp (H.out.1.only0 hoA) h5 HF.out hoA.size
  with_reducible refine cJ.mono ?_
  clear cJ
  rintro e w4 ⟨A, cA, fvs, rfl, hJ⟩
  have hoB := hoA.trans hJ.ho
  have hs4 := hs3.only hJ.ho (by simp) (by simp)
  have hlen := hJ.len
  have cW := new_ok (w := w4) (ps := w1.heap.size + 1) cA hJ.rows (feeds_func hJ) (by omega)
  rw [hlen] at cW
  clear hs3
  go_wp2_with fail
  with_reducible refine cW.mono ?_
  clear cW
  rintro e w5 ⟨pm, AW, cW, Pw, rfl, hN⟩
  have hG := begin_goes hJ HF.out h5 hs4 (by simp; omega) (by simp) h3 hoB.size (by have := ho1.size; omega) hN
  have hoC := hoB.trans hN.ho
  have hpl : w.heap.size ≤ w5.heap.size := hoC.size
  simp only [List.length_replicate] at hG
  have HG : Hid (StepsTo w.heap.size w5 w5 _ (jobsOf Ls) N Ls.length 0) := Lib.hid ⟨0, _, _, hG, by omega, by simp [startM], Below.refl _ _⟩
  have HO := Lib.hid (And.intro hoC (hX5 hoC H.out.2.2))
  clear hJ hN hs4 hoA hoB hoC hG ho1 hlen
  generalize hGe : (⟨pm, w1.heap.size + 1, w1.heap.size, AW, cW, Pw, fvs⟩ : Geo) = G at HG
  obtain rfl : pm = G.pm := by rw [← hGe]
  have hpsG : Hid (w1.heap.size + 1 = G.ps) := Lib.hid (by rw [← hGe])
  clear hGe
  go_wp2_with fail
  go_loopw [14] (fun i wr => ∃ k : Nat, k ≤ Xs.length ∧ i = .int .i64 k ∧ StepsTo w.heap.size w5 wr G (jobsOf Ls) N Ls.length k) (fun i _ => Xs.length - (intOf i).toNat)
  case atStart => exact ⟨0, by omega, rfl, HG.out⟩
  case round =>
    clear HG
    obtain ⟨k, hk, rfl, hG⟩ := hrel
    have hk0 : (0 : Int) ≤ (k : Int) := by omega
    by_cases hlt : k < Xs.length
    · obtain ⟨x, hxk⟩ : ∃ x, Xs[k]? = some x := ⟨_, List.getElem?_eq_getElem hlt⟩
      have hk1 : (k : Int) < (Xs.length : Int) := by omega
      obtain ⟨b, off, rfl, hb, hc⟩ := HO.out.2.2 k x hxk
      have hbel : Below w.heap.size w5 wr := by obtain ⟨_, _, _, _, _, _, h⟩ := hG; exact h
      have hc' : wr.cell? ⟨b, off + k, none⟩ = some (.int .i64 x) := (World.cell?_of_block (hbel.block b hb)).trans hc
      have cS := steps_any hG (by omega) x
      clear hc hG hbel
      go_wp2_with fail
      with_reducible refine cS.mono ?_
      clear cS
      rintro e w7 ⟨b7, rfl, hG7⟩
      have HX := Lib.hid hG7
      clear hG7
      go_wp2_with fail
      go_roundw
      case rel => exact ⟨k + 1, by omega, by go_num, HX.out⟩
      case measure => simp [intOf]; omega
    · obtain rfl : k = Xs.length := by omega
      obtain ⟨t, M, Wt, hGo, ht, hMl, hbel⟩ := hG
      have hD : Psi N Wt M + Cph N M ≤ 4000 := by
        have e1 := hGo.good.Psi_le
        have e2 := Cph_le (N := N) (M := M)
        rw [hMl] at e1 e2
        have e3 : Ls.length * (5 * N + 6) ≤ 5 * 106 := Nat.mul_le_mul h5 (by omega)
        have e4 : (Ls.length + 1) * (5 * N + 6) ≤ 6 * 106 := Nat.mul_le_mul (by omega) (by omega)
        have e5 : Ls.length * ((Ls.length + 1) * (5 * N + 6)) ≤ 5 * (6 * 106) := Nat.mul_le_mul h5 e4
        omega
      have cE := end_any (n := Ls.length) hGo hMl (by omega) rfl hD (by omega)
      have HB := Lib.hid (show Below w.heap.size w5 wr from hbel)
      clear hGo hbel
      go_wp2_with fail
      with_reducible refine cE.mono ?_
      clear cE
      rintro e wE ⟨rfl, ⟨t', M', Wt', hGo, hMl', ht', hidle⟩, hbE⟩
      have hDM : DoneM N Ls M' Wt' := ⟨hGo.good, hidle⟩
      have hoE : Only [] w wE := Only.of_below (((HO.out.1.to_below (Nat.le_refl _) (by simp)).trans HB.out).trans hbE) []
      have hlgb : M'.log.length ≤ 5000 := by have := hGo.lg; omega
      have hmk1 := Lib.hid fun W : World => run_makeN (P := Try.prog) (t := 39) (f := u64row) 0 infoU Try.underlying39 (fun _ => rfl) (by omega) rfl .i64 .i64 (N : Int) (N : Int) (by omega) (by omega) (by omega) (by omega) W
      have hmk2 := Lib.hid fun W : World => run_makeN (P := Try.prog) (t := 24) (f := irow) 0 infoI Try.underlying24 (fun _ => rfl) (by omega) rfl .i64 .i64 (Ls.length : Int) (Ls.length : Int) (by omega) (by omega) (by omega) (by omega) W
      simp only [Int.toNat_natCast] at hmk1 hmk2
      have hb1 := Blk.new wE U64T (flat u64row (List.replicate N 0))
      have hb2 := Blk.new (wE.alloc (.cells (flat u64row (List.replicate N 0)) U64T)) IntT (flat irow (List.replicate Ls.length 0))
      have hb1' := hb1.alloc (.cells (flat irow (List.replicate Ls.length 0)) IntT)
      have hz1 : (wE.alloc (.cells (flat u64row (List.replicate N 0)) U64T)).heap.size = wE.heap.size + 1 := by simp
      rw [hz1] at hb2
      have hoM : Only [] wE ((wE.alloc (.cells (flat u64row (List.replicate N 0)) U64T)).alloc (.cells (flat irow (List.replicate Ls.length 0)) IntT)) := ((Only.refl _ _).alloc _).alloc _
      have cL := log_any (hGo.lie.only0 hoM) (by omega)
      have HE := Lib.hid (And.intro hDM (And.intro hGo.lie (And.intro hoE (And.intro hGo hMl'))))
      have HM := Lib.hid (And.intro hb1' (And.intro hb2 hoM))
      clear hDM hGo hoE hMl' hb1 hb2 hb1' hoM ht' hidle hbE hz1 hD ht hMl
      go_wp2_with fail
      rw [hmk1.out]
      go_wp2_with fail
      rw [hmk2.out]
      go_wp2_with fail
      with_reducible refine cL.mono ?_
      clear cL hmk1 hmk2
      rintro e w9 ⟨A9, c9, rfl, hR9, ho9⟩
      have h9p := ho9.blk HM.out.1 (by simp)
      have h9d := ho9.blk HM.out.2.1 (by simp)
      have hS0 := Lib.hid (blk_ser (Ls := Ls) (log := M'.log) h9p h9d)
      have H9 := Lib.hid (And.intro hR9 (And.intro (show ∃ cur, Blk w9 wE.heap.size U64T cur from ⟨_, h9p⟩) (And.intro (show ∃ cur, Blk w9 (wE.heap.size + 1) IntT cur from ⟨_, h9d⟩) (HM.out.2.2.trans ho9))))
      clear hR9 ho9 h9p h9d HM
      go_wp2_with fail
      go_loopw [18] (fun i wr => ∃ k : Nat, k ≤ M'.log.length ∧ i = .int .i64 k ∧ SerAt w9 wr N Ls.length Ls M'.log wE.heap.size (wE.heap.size + 1) k) (fun i _ => M'.log.length - (intOf i).toNat)
      case atStart => exact ⟨0, by omega, rfl, hS0.out⟩
      case round =>
        clear hS0
        obtain ⟨i, hi, rfl, hS⟩ := hrel
        have hi0 : (0 : Int) ≤ (i : Int) := by omega
        have hoi := hS.old H9.out.2.2.2 (Nat.le_refl _) (Nat.le_succ _)
        by_cases hit : i < M'.log.length
        · obtain ⟨x, hxi⟩ : ∃ x, M'.log[i]? = some x := ⟨_, List.getElem?_eq_getElem hit⟩
          have hi1 : (i : Int) < (M'.log.length : Int) := by omega
          obtain ⟨g9, rfl, hg9, l0, l1, l2, l3⟩ := hS.log H9.out.1 H9.out.2.1 H9.out.2.2.1 hxi
          obtain ⟨L, o, u, hL, ho, hjob, hu, htold, hway⟩ := HE.out.1.entry hxi
          have hwk : x.wk < Ls.length := (List.getElem?_eq_some_iff.1 hL).1
          have hjl : x.job < L.length := (List.getElem?_eq_some_iff.1 ho).1
          have hd0 := hS.done hwk
          rw [← hjob] at hd0
          obtain ⟨bC, offC, A2, cap2, rfl, hbC, hcC, h2⟩ := H.out.1 x.wk L hL
          obtain ⟨b3, off3, A3, cap3, rfl, hb3, hc3, hops, hblk⟩ := h2 x.job o ho
          have hoW : Only [] w wr := HE.out.2.2.1.trans hoi
          have hcC' := (hoW.cell (p := ⟨bC, offC + x.wk, none⟩) hbC (by simp)).trans hcC
          have hx0 : (0 : Int) ≤ (x.wk : Int) := by omega
          have hx1 : (x.wk : Int) < (Ls.length : Int) := by omega
          have hx2 : (0 : Int) ≤ (x.job : Int) := by omega
          have hx3 : (x.job : Int) < (L.length : Int) := by omega
          have hjj : ((x.job : Int) != (x.job : Int)) = false := by simp
          have hB := Blk.new wr LgT #[.int .i64 x.wk, .int .i64 x.job, .int .i64 x.told, .bool x.spent]
          have hoB : Only [] wr (wr.alloc (.cells #[.int .i64 x.wk, .int .i64 x.job, .int .i64 x.told, .bool x.spent] LgT)) := (Only.refl _ _).alloc _
          have hXX := Lib.hid (And.intro hS (And.intro hu (And.intro htold (And.intro hway (And.intro hops (And.intro hblk (And.intro hoW (And.intro hxi (And.intro hjob (And.intro hc3 (And.intro hcC (And.intro hL ho))))))))))))
          have hdz : wE.heap.size + 1 < wr.heap.size := hS.rd.lt
          have hBz : wr.heap.size ≠ wE.heap.size := by omega
          clear hS hu htold hway hops hblk hxi hjob hc3 hcC hL ho h2 hoi hoW
          go_wp2_with fail
          have b0 := hB.cell 0
          have b1 := hB.cell 1
          have b2 := hB.cell 2
          have b3' := hB.cell 3
          simp only [List.getElem?_toArray, List.getElem?_cons_zero, List.getElem?_cons_succ] at b0 b1 b2 b3'
          have d0 := (hoB.cell (p := ⟨wE.heap.size + 1, x.wk, none⟩) hdz (by simp)).trans hd0
          have lC := (hoB.cell (p := ⟨bC, offC + x.wk, none⟩) (by have := hXX.out.2.2.2.2.2.2.1.size; simp; omega) (by simp)).trans hcC'
          have HB2 := Lib.hid (And.intro hB hoB)
          clear hB hoB hd0 hcC' l0 l1 l2 l3
          generalize wr.alloc (.cells #[.int .i64 x.wk, .int .i64 x.job, .int .i64 x.told, .bool x.spent] LgT) = wb at HB2 b0 b1 b2 b3' d0 lC ⊢
          go_quiet (fail)
          have hoX : Only [] wr (wb.drewN nq) := HB2.out.2.drewN nq
          have hBX := HB2.out.1.drewN nq
          replace b0 := (show (wb.drewN nq).cell? _ = _ from b0)
          replace b1 := (show (wb.drewN nq).cell? _ = _ from b1)
          replace b2 := (show (wb.drewN nq).cell? _ = _ from b2)
          replace b3' := (show (wb.drewN nq).cell? _ = _ from b3')
          replace lC := (show (wb.drewN nq).cell? _ = _ from lC)
          clear HB2 d0
          generalize wb.drewN nq = wc at hoX hBX b0 b1 b2 b3' lC ⊢
          have hoc : Only [] wE wc := (hXX.out.1.old H9.out.2.2.2 (Nat.le_refl _) (Nat.le_succ _)).trans hoX
          have HC := Lib.hid (And.intro hoX (And.intro hBX hoc))
          clear hoX hBX hoc
          have ht8 := HE.out.2.2.2.1.lie.toldLe HE.out.2.2.2.1.good hXX.out.2.1
          have htj := (List.getElem?_eq_some_iff.1 hXX.out.2.2.1).1
          rcases hXX.out.2.2.2.1 with ⟨hsp, htl, hvn⟩ | ⟨hsp, htl, hvn⟩
          · rw [hsp] at b3'
            rw [htl] at b2
            have cT := told_any (HE.out.2.1.only0 HC.out.2.2) hXX.out.2.1 (by omega)
            have HV := Lib.hid (And.intro htl hvn)
            clear hsp htl hvn
            obtain ⟨tl, htl⟩ : ∃ tl, Hid (u.told.length = tl) := ⟨_, Lib.hid rfl⟩
            rw [htl.out] at cT ht8 htj
            go_wp2_with fail
            with_reducible refine cT.mono ?_
            clear cT
            rintro e w8 ⟨A8, c8, rfl, hN8, ho8⟩
            obtain ⟨g8, rfl, hg8, hc8⟩ := rowI_at hN8 hXX.out.2.2.1
            rw [HV.out.1] at hc8
            replace b0 := (ho8.cell (p := ⟨wr.heap.size, 0, none⟩) HC.out.2.1.lt (by simp)).trans b0
            replace b1 := (ho8.cell (p := ⟨wr.heap.size, 1, none⟩) HC.out.2.1.lt (by simp)).trans b1
            replace b2 := (ho8.cell (p := ⟨wr.heap.size, 2, none⟩) HC.out.2.1.lt (by simp)).trans b2
            have hoS := HC.out.1.trans ho8
            have hr8 := hoS.blk hXX.out.1.rd (by simp)
            have d0 := done_cell hr8 hwk
            rw [← hXX.out.2.2.2.2.2.2.2.2.1] at d0
            have f0 := hr8.frozen x.wk
            have hw8 := hoS.size
            have HS8 := Lib.hid (hXX.out.1.next hXX.out.2.2.2.2.2.2.2.1 hwk hXX.out.2.2.2.2.2.2.2.2.1 (hoS.more (by simp)) (by rw [HV.out.2]; exact hXX.out.1.rp.only hoS (by simp)) (by rw [HV.out.2]; exact hXX.out.1.vl) (by omega))
            clear hoS hr8 b3' lC HV hN8 ho8
            have hz1 : (0 : Int) ≤ x.wk := by omega
            go_wp2_with fail
            go_roundw
            case rel => exact ⟨i + 1, by omega, by go_num, HS8.out⟩
            case measure => simp [intOf]; omega
          · rw [hsp] at b3'
            obtain ⟨hf8, hf12⟩ := HF.out x.wk L hXX.out.2.2.2.2.2.2.2.2.2.2.2.1
            have hol := hf12 x.job o hXX.out.2.2.2.2.2.2.2.2.2.2.2.2
            obtain ⟨xx, hxx⟩ : ∃ xx, doL machP o 0 (valsTo Ls N M'.log i) = xx := ⟨_, rfl⟩
            rw [hxx] at htl hvn
            have hoW : Only [] w wc := hXX.out.2.2.2.2.2.2.1.trans HC.out.1
            have c3 := (hoW.cell (p := ⟨b3, off3 + x.job, none⟩) hb3 (by simp)).trans hXX.out.2.2.2.2.2.2.2.2.2.1
            have hpb : wE.heap.size < wr.heap.size := by omega
            have cD := do_any (viewP wE.heap.size N N U64T) (w := wc.drew) (cap := cap3) (hXX.out.2.2.2.2.1.only (hoW.drewN 1) (by simp)) (fun k hk => by have := hXX.out.2.2.2.2.2.1 k hk; have := HE.out.2.2.1.size; simp; omega) (by omega) (s0 := valsTo Ls N M'.log i) ⟨hXX.out.1.vl, (hXX.out.1.rp.only HC.out.1 (by simp)).drewN 1⟩
            rw [hxx] at cD
            have HV := Lib.hid (And.intro htl hvn)
            clear hsp htl hvn hf8 hf12 hxx hoW
            go_wp2_with fail
            obtain ⟨wd, rfl⟩ : ∃ y, y = wc := ⟨_, rfl⟩
            go_still_tail 11, (by kernel_rfl)
            change wpList _ _ _ _ _ wd.drew
            replace b0 := (show wd.drew.cell? _ = _ from b0)
            replace b1 := (show wd.drew.cell? _ = _ from b1)
            replace b2 := (show wd.drew.cell? _ = _ from b2)
            replace lC := (show wd.drew.cell? _ = _ from lC)
            replace c3 := (show wd.drew.cell? _ = _ from c3)
            have HC2 : Hid (Only [] wr wd.drew ∧ Blk wd.drew wr.heap.size LgT #[.int .i64 x.wk, .int .i64 x.job, .int .i64 x.told, .bool x.spent] ∧ Only [] wE wd.drew) := Lib.hid ⟨HC.out.1.drew, HC.out.2.1, HC.out.2.2.drew⟩
            clear HC b3'
            generalize wd.drew = we at b0 b1 b2 lC c3 HC2 cD ⊢
            have hnum : wrap64 (xx.1.tmod 1000000) = x.told := HV.out.1.symm
            have HN := Lib.hid hnum
            clear hnum
            have K7 : ∀ W7, Only [wE.heap.size] we W7 → RowU W7 wE.heap.size U64T xx.2 → Hid (RowU W7 wE.heap.size U64T xx.2 ∧ Only [wE.heap.size] wr W7 ∧ Only [] wE W7 ∧ wr.heap.size < W7.heap.size) ∧ W7.cell? ⟨wr.heap.size, 0, none⟩ = some (.int .i64 x.wk) ∧ W7.cell? ⟨wr.heap.size, 1, none⟩ = some (.int .i64 x.job) ∧ W7.cell? ⟨wr.heap.size, 2, none⟩ = some (.int .i64 x.told) := fun W7 h7 r7 => by
              have hB7 := h7.blk HC2.out.2.1 (by simpa using hBz)
              refine ⟨Lib.hid ⟨r7, (HC2.out.1.more (by simp)).trans h7, HC2.out.2.2.then h7 (fun y hy => .inr (by simp at hy; omega)), hB7.lt⟩, ?_, ?_, ?_⟩
              · exact hB7.cell 0
              · exact hB7.cell 1
              · exact hB7.cell 2
            have HK7 := Lib.hid K7
            clear K7
            go_wp2_with (go_at_call 13; (with_reducible refine cD.mono ?_); clear cD b0 b1 b2 lC c3; rintro e w7 ⟨rfl, ⟨km, hlp, hR7⟩, ho7⟩; obtain ⟨HW7, b0, b1, b2⟩ := HK7.out w7 ho7 hR7; have HL7 := Lib.hid hlp; clear ho7 hR7 hlp)
            rw [HN.out]
            have cT := told_any (HE.out.2.1.only0 HW7.out.2.2.1) hXX.out.2.1 (by omega)
            obtain ⟨tl, htl⟩ : ∃ tl, Hid (u.told.length = tl) := ⟨_, Lib.hid rfl⟩
            rw [htl.out] at cT ht8 htj
            with_reducible refine cT.mono ?_
            clear cT
            rintro e w8 ⟨A8, c8, rfl, hN8, ho8⟩
            obtain ⟨g8, rfl, hg8, hc8⟩ := rowI_at hN8 hXX.out.2.2.1
            replace b0 := (ho8.cell (p := ⟨wr.heap.size, 0, none⟩) HW7.out.2.2.2 (by simp)).trans b0
            replace b1 := (ho8.cell (p := ⟨wr.heap.size, 1, none⟩) HW7.out.2.2.2 (by simp)).trans b1
            replace b2 := (ho8.cell (p := ⟨wr.heap.size, 2, none⟩) HW7.out.2.2.2 (by simp)).trans b2
            have hoS : Only [wE.heap.size] wr w8 := HW7.out.2.1.trans (ho8.more (by simp))
            have hr8 := hoS.blk hXX.out.1.rd (by simp)
            have d0 := done_cell hr8 hwk
            rw [← hXX.out.2.2.2.2.2.2.2.2.1] at d0
            have f0 := hr8.frozen x.wk
            have HS8 := Lib.hid (hXX.out.1.next hXX.out.2.2.2.2.2.2.2.1 hwk hXX.out.2.2.2.2.2.2.2.2.1 hoS (by rw [HV.out.2]; exact HW7.out.1.only ho8 (by simp)) (by rw [HV.out.2]; exact HL7.out) (by omega))
            have hw8 := hoS.size
            clear hoS hr8 HV hN8 ho8 HW7 HC2 HK7
            have hz1 : (0 : Int) ≤ x.wk := by omega
            go_wp2_with fail
            go_roundw
            case rel => exact ⟨i + 1, by omega, by go_num, HS8.out⟩
            case measure => simp [intOf]; omega
        · obtain rfl : i = M'.log.length := by omega
          obtain ⟨Ps, Fs, AL, hlie⟩ := HE.out.2.1.only0 hoi
          have hlen : M'.s.L.length = N := HE.out.1.good.inv.len
          have cV := values_any G.ps G.gS M'.s wr hlie.store
          rw [← hpsG.out, hlen] at cV
          have HS := Lib.hid hS
          have HI := Lib.hid hoi
          have hLn := Lib.hid hlen
          clear hlie hS hoi hlen
          obtain ⟨wz, rfl⟩ : ∃ y, y = wr := ⟨_, rfl⟩
          go_wp2_with fail
          with_reducible refine cV.mono ?_
          clear cV
          rintro e wv ⟨rfl, hbv, hov⟩
          have hvlt : wz.heap.size < wv.heap.size := hbv.lt
          have HV := Lib.hid (And.intro (HS.out.rp.only hov (by simp)) (And.intro (hov.blk HS.out.rd (by simp)) (And.intro hbv (And.intro (HI.out.trans hov) HS.out.vl))))
          clear hbv hov HS HI
          go_wp2_with fail
          go_loopw [23] (fun i wr => ∃ k : Nat, k ≤ N ∧ i = .int .i64 k ∧ Only [] wv wr) (fun i _ => N - (intOf i).toNat)
          case atStart => exact ⟨0, by omega, rfl, Only.refl _ _⟩
          case round =>
            obtain ⟨k, hk, rfl, ho⟩ := hrel
            have hk0 : (0 : Int) ≤ (k : Int) := by omega
            by_cases hkt : k < N
            · obtain ⟨c, hc⟩ : ∃ c, M'.s.L[k]? = some c := ⟨_, List.getElem?_eq_getElem (by rw [hLn.out]; exact hkt)⟩
              obtain ⟨hm, hv⟩ := HE.out.1.cell hc
              have v0 : wr.cell? ⟨wz.heap.size, k, none⟩ = some (.int .u64 c.v) := by
                rw [(ho.blk HV.out.2.2.1 (by simp)).cell]
                have := flat_at (f := u64row) (i := k) (n := 1) (j := 0) (L := M'.s.L.map fun c => c.v) (a := c.v) (fun _ => rfl) (by rw [List.getElem?_map, hc]; rfl) rfl
                simpa using this
              have cP := fun n => pread_is N (wr.drewN n) ((HV.out.1.only ho (by simp)).drewN n).wds (atL_in hv)
              rw [HV.out.2.2.2.2] at cP
              have HR := Lib.hid cP
              have hk1 : (k : Int) < (N : Int) := by omega
              have HO4 := Lib.hid ho
              clear cP hc hm hv ho
              go_wp2_with fail
              go_big_quiet ((go_at_call 16; exact Calls.quiet_of_same (HR.out _)))
              go_wp2_with fail
              exact ⟨⟨k + 1, by omega, by go_num, HO4.out.drewN nq⟩, by simp [intOf]; omega⟩
            · obtain rfl : k = N := by omega
              have HO4 := Lib.hid ho
              clear ho
              obtain ⟨wy, rfl⟩ : ∃ y, y = wr := ⟨_, rfl⟩
              go_wp2_with fail
              go_loopw [24, 25] (fun lv i wr => ∃ (j : Nat) (b : Bool), j ≤ Ls.length ∧ i = .int .i64 j ∧ lv = .bool b ∧ Hid (b = leftTo Ls M'.log j) ∧ Only [] wy wr) (fun _ i _ => Ls.length - (intOf i).toNat)
              case atStart => exact ⟨0, false, by omega, rfl, rfl, Lib.hid rfl, Only.refl _ _⟩
              case round =>
                obtain ⟨j, b, hj, rfl, rfl, hb, ho⟩ := hrel
                have hoE4 : Only [] wE wr := (HV.out.2.2.2.1.trans HO4.out).trans ho
                have hj0 : (0 : Int) ≤ (j : Int) := by omega
                by_cases hjt : j < Ls.length
                · have hj1 : (j : Int) < (Ls.length : Int) := by omega
                  obtain ⟨L, hL⟩ : ∃ L, Ls[j]? = some L := ⟨_, List.getElem?_eq_getElem hjt⟩
                  obtain ⟨u, hu⟩ : ∃ u, M'.ws[j]? = some u := ⟨_, List.getElem?_eq_getElem (by rw [HE.out.2.2.2.2]; exact hjt)⟩
                  obtain ⟨bC, offC, A2, cap2, rfl, hbC, hcC, -⟩ := H.out.1 j L hL
                  have ht8 := HE.out.2.2.2.1.lie.toldLe HE.out.2.2.2.1.good hu
                  have hdt : doneTo M'.log M'.log.length j = u.told.length := by rw [doneTo_all, HE.out.1.told hu]
                  have hll := H.out.2.1 j L hL
                  have cT := told_any (HE.out.2.1.only0 hoE4.drew) hu (by omega)
                  obtain ⟨tl, htl⟩ : ∃ tl, Hid (u.told.length = tl) := ⟨_, Lib.hid rfl⟩
                  rw [htl.out] at cT ht8 hdt
                  have hnx : leftTo Ls M'.log (j + 1) = (leftTo Ls M'.log j || decide (tl < L.length)) := by rw [leftTo_succ hL, hdt]
                  have hrd : ∀ W, Only [] wr W → Only [] wr W ∧ W.cell? ⟨wE.heap.size + 1, j, none⟩ = some (.int .i64 tl) := fun W hW => by
                    refine ⟨hW, ?_⟩
                    have h1 := done_cell (hW.blk (ho.blk (HO4.out.blk HV.out.2.1 (by simp)) (by simp)) (by simp)) hjt
                    rw [hdt] at h1
                    exact h1
                  have HD := Lib.hid hrd
                  have hcL : ∀ W, Only [] wr W → W.cell? ⟨bC, offC + j, none⟩ = some (.slice A2 L.length cap2) := fun W hW => (((HE.out.2.2.1.trans hoE4).trans hW).cell (p := ⟨bC, _, none⟩) hbC (by simp)).trans hcC
                  have HL := Lib.hid hcL
                  have HNX := Lib.hid hnx
                  have HO5 := Lib.hid ho
                  have htt : ((tl : Int) != (tl : Int)) = false := by simp
                  have hoy : Only [] wr wr.drew := (Only.refl _ _).drew
                  clear hrd hcL hnx ho hoE4 hL hu hcC hdt
                  go_wp2_with fail
                  go_region_held3 (fun W => Only [] wr W ∧ W.cell? ⟨wE.heap.size + 1, j, none⟩ = some (.int .i64 tl))
                    (first | exact HD.out _ hoy | exact HD.out _ hoz)
                    (first | (go_at_call 14; (with_reducible refine cT.mono ?_); clear cT; rintro e w6 ⟨A6, c6, rfl, -, ho6⟩; have hoz := hoy.trans ho6))
                  have d6 := (HD.out w6 hoz).2
                  have l6 := HL.out w6 hoz
                  have HZ := Lib.hid hoz
                  clear hoz hoy ho6 HD HL
                  cases b
                  · go_wp2_with fail
                    go_quiet (fail)
                    go_wp2_with fail
                    exact ⟨⟨j + 1, decide (tl < L.length), by omega, by go_num, by simp, Lib.hid (by rw [HNX.out, ← hb.out]; rfl), (HO5.out.trans HZ.out).drewN nq⟩, by simp [intOf]; omega⟩
                  · go_wp2_with fail
                    go_quiet (fail)
                    go_wp2_with fail
                    exact ⟨⟨j + 1, true, by omega, by go_num, rfl, Lib.hid (by rw [HNX.out, ← hb.out]; rfl), (HO5.out.trans HZ.out).drewN nq⟩, by simp [intOf]; omega⟩
                · obtain rfl : j = Ls.length := by omega
                  obtain ⟨Ps, Fs, AL, hlie⟩ := HE.out.2.1.only0 hoE4
                  have cM := marks_any hlie.store (fun i c hc => (HE.out.1.cell hc).1)
                  rw [← hpsG.out] at cM
                  have HO6 := Lib.hid hoE4
                  clear hlie ho hoE4
                  go_wp2_with fail
                  with_reducible refine cM.mono ?_
                  clear cM
                  rintro e w6 ⟨rfl, ho6⟩
                  have cI := idle_any (HE.out.2.1.only0 (HO6.out.trans ho6)) (fun k u hu => HE.out.2.2.2.1.lie.toldLe HE.out.2.2.2.1.good hu)
                  rw [HE.out.1.left, ← hb.out] at cI
                  go_wp2_with fail
                  with_reducible refine cI.mono ?_
                  clear cI
                  rintro e w7 ⟨rfl, ho7⟩
                  cases b
                  all_goals
                    go_wp2_with fail
                    go_ret
                    exact ⟨rfl, ((HE.out.2.2.1.trans HO6.out).trans ho6).trans ho7⟩
end
end Go.Proofs.Ytleomgmhkoglmaa
