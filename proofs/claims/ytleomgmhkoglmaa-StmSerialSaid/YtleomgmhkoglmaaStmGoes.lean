/- StmGoes: of so many steps in a row one makes the log longer, or ends a job, walked (layer 8). -/
import Derived.Test.YtleomgmhkoglmaaStmUp
import Derived.Test.YtleomgmhkoglmaaIntsA
import Derived.Deep.DeepCutAuto
namespace Go.Proofs.Ytleomgmhkoglmaa
open Go.RowKit Go.Maps
theorem bound_is {n N : Nat} (h1 : 1 ≤ n) (h3 : n ≤ 3) (hN : N ≤ 6) : wrap64 (wrap64 ((n : Int) * ((n : Int) + 2)) * (3 * (N : Int) + 10)) = ((n * (n + 2) * (3 * N + 10) : Nat) : Int) := by
  have h : ∀ (a : Fin 4) (b : Fin 7), 1 ≤ a.val → wrap64 (wrap64 ((a.val : Int) * ((a.val : Int) + 2)) * (3 * (b.val : Int) + 10)) = ((a.val * (a.val + 2) * (3 * b.val + 10) : Nat) : Int) := by decide +kernel
  exact h ⟨n, by omega⟩ ⟨N, by omega⟩ h1
theorem bound_big {n N : Nat} (h1 : 1 ≤ n) : n * (5 * N + 6) + 1 ≤ n * (n + 2) * (3 * N + 10) := by
  have h2 : n * 3 ≤ n * (n + 2) := Nat.mul_le_mul_left n (by omega)
  have h3 : n * 3 * (3 * N + 10) ≤ n * (n + 2) * (3 * N + 10) := Nat.mul_le_mul_right _ h2
  have h4 : n * 3 * (3 * N + 10) = n * (9 * N + 30) := by rw [Nat.mul_assoc]; congr 1; omega
  have h5 : n * (5 * N + 6) + n * 1 ≤ n * (9 * N + 30) := by rw [← Nat.mul_add]; exact Nat.mul_le_mul_left n (by omega)
  omega
/-- the numbers of a worker's jobs' tellings, the first j of them together -/
def toldTo (M : Ma) (j : Nat) : Nat := ((M.ws.take j).map fun u => u.told.length).sum
theorem toldTo_succ {M : Ma} {j : Nat} {u : Wk} (h : M.ws[j]? = some u) : toldTo M (j + 1) = toldTo M j + u.told.length := by
  unfold toldTo
  rw [List.take_add_one, h]
  simp
theorem toldTo_all {M : Ma} : toldTo M M.ws.length = toldSum M := by
  unfold toldTo toldSum
  rw [List.take_length]
/-- what Ls' jobs are -/
def jobsOf (Ls : List (List (List O))) : List (List Jb) := Ls.map fun L => L.map Jb.ops
theorem jobsOf_at {Ls : List (List (List O))} {k : Nat} {js : List Jb} (h : (jobsOf Ls)[k]? = some js) : ∃ L, Ls[k]? = some L ∧ js = L.map Jb.ops := by
  unfold jobsOf at h
  rw [List.getElem?_map] at h
  cases hk : Ls[k]? with
  | none => rw [hk] at h; cases h
  | some L => rw [hk] at h; cases h; exact ⟨L, rfl, rfl⟩
section
variable {w : World} {C J : Option Addr} {Ls : List (List (List O))} {Xs : List Int}
theorem feeds_func {base : Nat} {w' : World} {A : Option Addr} {fvs : List Value} (h : JobsAt base w w' Ls A fvs) : ∀ (i : Nat) (v : Value), fvs[i]? = some v → ∃ F fc, v = .func (.func F) #[] fc := fun i v hv => by
  have hl := (List.getElem?_eq_some_iff.1 hv).1
  rw [h.len] at hl
  obtain ⟨_, _, _, hf, _⟩ := h.feed i v _ hv (List.getElem?_eq_getElem hl)
  exact ⟨_, _, hf⟩
/-- a machine as the statements make it -/
theorem begin_goes {base : Nat} {w4 w5 : World} {A : Option Addr} {fvs : List Value} {ps gS pm cW : Nat} {AW : Option Addr} {Pw : List Nat} {s : St} (hj : JobsAt base w w4 Ls A fvs) (hf : Few Ls) (hl : Ls.length ≤ 5) (hs : StoreAt w4 WT ps gS s) (hN : s.L.length ≤ 1000) (hz : s.L = List.replicate s.L.length ⟨0, 0, 0⟩) (hlim : 1 ≤ s.lim) (hb : base ≤ w4.heap.size) (hg : base ≤ gS) (hn : NewAt w4 w5 ps fvs pm AW cW Pw) :
    Goes base w5 ⟨pm, ps, gS, AW, cW, Pw, fvs⟩ (jobsOf Ls) s.L.length 0 (startM s Ls.length) s.L := by
  have hlen := hj.len
  have h := MLie.start (J := jobsOf Ls) hn hs hN hb hg (by simp [jobsOf, hlen]) (by omega) (fun k fv js hk hjs => by
    obtain ⟨L, hL, rfl⟩ := jobsOf_at hjs
    exact ⟨hj.feed k fv L hk hL, by simpa using (hf k L hL).1⟩)
  rw [hlen] at h
  exact ⟨⟨_, _, _, h⟩, MGood.start hz hlim hN (by simp [jobsOf]), by simp [startM], by simp [startM]⟩
set_option maxRecDepth 100000 in
set_option maxHeartbeats 4000000 in
theorem goes_out1 (cp cq n m : Nat) (cells : Int) (w : World) (G : cells < 1 ∨ (1 ≤ cells ∧ 6 < cells)) :
    Calls Try.prog 4 #[.int .i64 cells, .slice C n cp, .slice J m cq] w fun e w' => e = .returned (.bool true) ∧ Only [] w w' := by
  rcases G with h1 | ⟨h1, h2⟩
  all_goals
    go_enter Try.func4, Try.ntmps4
    go_wp2_with fail
    (with_reducible refine up_any.mono ?_)
    rintro e w1 ⟨rfl, ho1⟩
    go_wp2_with fail
    go_ret
    exact ⟨rfl, ho1⟩
set_option maxRecDepth 100000 in
set_option maxHeartbeats 4000000 in
theorem goes_out2 (cp cq m : Nat) (cells : Int) (hC : Ops3 w w.heap.size C Ls) (hl : Ls.length ≤ 9223372036854775807) (hl2 : ∀ (i : Nat) (L : List (List O)), Ls[i]? = some L → L.length ≤ 9223372036854775807) (h1 : 1 ≤ cells) (h6 : cells ≤ 6)
    (G : 3000 < m ∨ (m ≤ 3000 ∧ Ls.length = 0) ∨ (m ≤ 3000 ∧ Ls.length ≠ 0 ∧ 3 < Ls.length)) :
    Calls Try.prog 4 #[.int .i64 cells, .slice C Ls.length cp, .slice J m cq] w fun e w' => e = .returned (.bool true) ∧ Only [] w w' := by
  have H := Lib.hid (And.intro hC hl2)
  clear hC hl2
  rcases G with h1' | ⟨h1', h2'⟩ | ⟨h1', h2', h3'⟩
  all_goals
    go_enter Try.func4, Try.ntmps4
    go_wp2_with fail
    (with_reducible refine up_any.mono ?_)
    rintro e w1 ⟨rfl, ho1⟩
    go_wp2_with fail
    have cS := small_any cp (H.out.1.only0 ho1) hl H.out.2
    first | rw [h2'] at cS | skip
    with_reducible refine cS.mono ?_
    clear cS
    rintro e w2 ⟨⟨b, rfl, -⟩, rfl⟩
    cases b
    all_goals
      go_wp2_with fail
      go_ret
      exact ⟨rfl, ho1⟩
theorem hX5 {w5 : World} (ho : Only [] w w5) (h : Ints w J Xs) : Ints w5 J Xs ∧ ∀ (k : Nat) (x : Int), Xs[k]? = some x → ∃ b off, J = some ⟨b, off, none⟩ ∧ b < w.heap.size ∧ w5.cell? ⟨b, off + k, none⟩ = some (.int .i64 x) := ⟨h.only ho, fun k x hk => by
  obtain ⟨b, off, h1, h2, h3⟩ := h.at_ k x hk
  exact ⟨b, off, h1, h2, (ho.cell (p := ⟨b, _, none⟩) h2 (by simp)).trans h3⟩⟩
/-- where the statement's steps have come to -/
def GoesTo (base : Nat) (w5 wr : World) (G : Geo) (Js : List (List Jb)) (N n k : Nat) (r h : Nat) : Prop := ∃ t M Wt, Goes base wr G Js N t M Wt ∧ t ≤ k ∧ M.ws.length = n ∧ prog M = h ∧ r + Psi N Wt M ≤ n * (5 * N + 6) ∧ Below base w5 wr
/-- .. behind a step that was done -/
def GoesOn (base : Nat) (w5 wr : World) (G : Geo) (Js : List (List Jb)) (N n k : Nat) (r h : Nat) : Prop := ∃ t M Wt, Goes base wr G Js N t M Wt ∧ t ≤ k ∧ M.ws.length = n ∧ ((prog M = h ∧ r + 1 + Psi N Wt M ≤ n * (5 * N + 6)) ∨ (h + 1 ≤ prog M ∧ Psi N Wt M ≤ n * (5 * N + 6))) ∧ Below base w5 wr
theorem goes_step {base : Nat} {w5 wr : World} {G : Geo} {Js : List (List Jb)} {N n k r h m : Nat} (hG : GoesTo base w5 wr G Js N n k r h) (hm : m < n) (hk : k ≤ 3000) : Calls Try.prog 10 #[.pointer (some ⟨G.pm, 0, none⟩), .int .i64 m] wr fun e w7 =>
    (e = .returned (.bool false) ∧ GoesTo base w5 w7 G Js N n (k + 1) r h) ∨ (e = .returned (.bool true) ∧ GoesOn base w5 w7 G Js N n (k + 1) r h) := by
  obtain ⟨t, M, Wt, hGo, ht, hMl, hpr, hrr, hbel⟩ := hG
  refine (hGo.step (k := m) (by omega) (by omega)).mono ?_
  rintro e w7 hL
  obtain ⟨Wt', g1, g2, g3, g4⟩ := hGo.next (by omega) hL
  obtain ⟨rfl, hM7, hb7⟩ := hL
  cases hb : (stepM Js M m).1 with
  | false =>
    obtain ⟨e1, e2⟩ := g4 hb
    subst e2
    refine .inl ⟨rfl, t + 1, _, _, g1, by omega, by omega, ?_, ?_, hbel.trans hb7⟩
    · rw [e1]; exact hpr
    · rw [e1]; exact hrr
  | true =>
    obtain ⟨hmv, -⟩ := g3 hb
    refine .inr ⟨rfl, t + 1, _, _, g1, by omega, by omega, ?_, hbel.trans hb7⟩
    have h1 := g1.good.Psi_le
    rw [g2, hMl] at h1
    rcases hmv.yes with ⟨h2, h3⟩ | h2
    · exact .inl ⟨by omega, by omega⟩
    · exact .inr ⟨by omega, h1⟩
set_option maxRecDepth 100000 in
set_option maxHeartbeats 8000000 in
theorem goes_any (cp cq : Nat) (cells : Int) (w : World) (hC : Ops3 w w.heap.size C Ls) (hl : Ls.length ≤ 9223372036854775807) (hl2 : ∀ (i : Nat) (L : List (List O)), Ls[i]? = some L → L.length ≤ 9223372036854775807) (hX : Ints w J Xs) (hx : Xs.length ≤ 9223372036854775807) :
    Calls Try.prog 4 #[.int .i64 cells, .slice C Ls.length cp, .slice J Xs.length cq] w fun e w' => e = .returned (.bool true) ∧ Only [] w w' := by
  by_cases h1 : cells < 1
  · exact goes_out1 cp cq Ls.length Xs.length cells w (by omega)
  by_cases h2 : 6 < cells
  · exact goes_out1 cp cq Ls.length Xs.length cells w (by omega)
  by_cases h3 : 3000 < Xs.length
  · exact goes_out2 cp cq Xs.length cells hC hl hl2 (by omega) (by omega) (by omega)
  by_cases h4 : Ls.length = 0
  · exact goes_out2 cp cq Xs.length cells hC hl hl2 (by omega) (by omega) (by omega)
  by_cases h5 : 3 < Ls.length
  · exact goes_out2 cp cq Xs.length cells hC hl hl2 (by omega) (by omega) (by omega)
  replace h1 : 1 ≤ cells := by omega
  replace h2 : cells ≤ 6 := by omega
  replace h3 : Xs.length ≤ 3000 := by omega
  replace h4 : 1 ≤ Ls.length := by omega
  replace h5 : Ls.length ≤ 3 := by omega
  obtain ⟨N, rfl⟩ : ∃ N : Nat, cells = N := ⟨cells.toNat, by omega⟩
  have hbd := bound_is (n := Ls.length) (N := N) h4 h5 (by omega)
  have hbg := bound_big (n := Ls.length) (N := N) h4
  have H := Lib.hid (And.intro hC (And.intro hl2 hX))
  have HB := Lib.hid (And.intro hbd hbg)
  clear hC hl2 hX hbd hbg
  have hn0 : ((Ls.length : Int) == 0) = false := by rw [beq_eq_false_iff_ne]; omega
  go_enter Try.func4, Try.ntmps4
  go_wp2_with fail
  (with_reducible refine up_any.mono ?_)
  rintro e w1 ⟨rfl, ho1⟩
  go_wp2_with fail
  have cS := small_any cp (H.out.1.only0 ho1) hl H.out.2.1
  with_reducible refine cS.mono ?_
  clear cS
  rintro e w2 ⟨⟨b, rfl, hfew⟩, rfl⟩
  cases b
  · clear hfew
    go_wp2_with fail
    go_ret
    exact ⟨rfl, ho1⟩
  have HF := Lib.hid (hfew rfl).2
  clear hfew
  go_wp2_with fail
  refine (new_good (N : Int) 100000 w1 h1 (by omega) (by omega) (by omega)).mono ?_
  rintro e w3 ⟨rfl, hs3, ho3⟩
  rw [codeV0]
  simp only [Int.toNat_natCast] at hs3
  have hoA := ho1.trans ho3
  clear ho3
  go_wp2_with fail
  have cJ := jobs_any cp (H.out.1.only0 hoA) (by omega) HF.out hoA.size
  with_reducible refine cJ.mono ?_
  clear cJ
  rintro e w4 ⟨A, cA, fvs, rfl, hJ⟩
  have hoB := hoA.trans hJ.ho
  have hs4 := hs3.only hJ.ho (by simp) (by simp)
  have hlen := hJ.len
  have cW := new_ok (w := w4) (ps := w1.heap.size + 1) cA hJ.rows (feeds_func hJ) (by omega)
  rw [hlen] at cW
  clear hs3
  go_wp2_with fail
  with_reducible refine cW.mono ?_
  clear cW
  rintro e w5 ⟨pm, AW, cW, Pw, rfl, hN⟩
  have hG := begin_goes hJ HF.out (by omega) hs4 (by simp; omega) (by simp) (by simp) hoB.size (by have := ho1.size; omega) hN
  have hoC := hoB.trans hN.ho
  have hpl : w.heap.size ≤ w5.heap.size := hoC.size
  simp only [List.length_replicate] at hG
  have HG := Lib.hid hG
  have HO := Lib.hid (And.intro hoC (hX5 hoC H.out.2.2))
  clear hJ hN hs4 hoA hoB hoC hG ho1 hlen
  generalize hGe : (⟨pm, w1.heap.size + 1, w1.heap.size, AW, cW, Pw, fvs⟩ : Geo) = G at HG
  obtain rfl : pm = G.pm := by rw [← hGe]
  clear hGe
  go_wp2_with fail
  rw [HB.out.1]
  obtain ⟨bd, hbd⟩ : ∃ bd, Hid (Ls.length * (Ls.length + 2) * (3 * N + 10) = bd) := ⟨_, Lib.hid rfl⟩
  rw [hbd.out]
  have hbg : Hid (Ls.length * (5 * N + 6) + 1 ≤ bd) := Lib.hid (by rw [← hbd.out]; exact HB.out.2)
  have hbx : Hid (bd ≤ 1000000) := Lib.hid (by
    rw [← hbd.out]
    have e1 : Ls.length * (Ls.length + 2) ≤ 3 * 5 := Nat.mul_le_mul (by omega) (by omega)
    have e2 : Ls.length * (Ls.length + 2) * (3 * N + 10) ≤ 3 * 5 * 28 := Nat.mul_le_mul e1 (by omega)
    omega)
  clear hbd HB
  obtain ⟨n, hn⟩ : ∃ n, Hid (Ls.length = n) := ⟨_, Lib.hid rfl⟩
  have hGt : GoesTo w.heap.size w5 w5 G (jobsOf Ls) N Ls.length 0 0 0 := ⟨0, _, _, HG.out, by omega, by simp [startM], by simp [prog, startM, toldSum], by
    have h1 := HG.out.good.Psi_le
    simpa [startM] using h1, Below.refl _ _⟩
  have HT := Lib.hid hGt
  clear hGt HG
  go_loopw [13, 14, 15] (fun rv hv i wr => ∃ k r h : Nat, k ≤ Xs.length ∧ i = .int .i64 k ∧ rv = .int .i64 r ∧ hv = .int .i64 h ∧ GoesTo w.heap.size w5 wr G (jobsOf Ls) N Ls.length k r h) (fun _ _ i _ => Xs.length - (intOf i).toNat)
  case atStart => exact ⟨0, 0, 0, by omega, rfl, rfl, rfl, HT.out⟩
  case round =>
    clear HT
    obtain ⟨k, r, h, hk, rfl, rfl, rfl, hG⟩ := hrel
    have hk0 : (0 : Int) ≤ (k : Int) := by omega
    by_cases hlt : k < Xs.length
    · obtain ⟨x, hxk⟩ : ∃ x, Xs[k]? = some x := ⟨_, List.getElem?_eq_getElem hlt⟩
      have hk1 : (k : Int) < (Xs.length : Int) := by omega
      obtain ⟨b, off, rfl, hb, hc⟩ := HO.out.2.2 k x hxk
      have hG' := hG
      obtain ⟨t, M, Wt, hGo, ht, hMl, hpr, hrr, hbel⟩ := hG
      have hc' : wr.cell? ⟨b, off + k, none⟩ = some (.int .i64 x) := (World.cell?_of_block (hbel.block b hb)).trans hc
      clear hc
      by_cases hin : 0 ≤ x ∧ x < (Ls.length : Int)
      · obtain ⟨m, rfl⟩ : ∃ m : Nat, x = m := ⟨x.toNat, by omega⟩
        have cS := goes_step hG' (m := m) (by omega) (by omega)
        have hrb : r + 1 ≤ bd := by have := hbg.out; omega
        have hbx' := hbx.out
        clear hGo ht hMl hpr hrr hbel hG' hin
        go_wp2_with fail
        with_reducible refine cS.mono ?_
        clear cS hc'
        rintro e w7 (⟨rfl, hG7⟩ | ⟨rfl, hG7⟩)
        · have HX := Lib.hid hG7
          clear hG7
          go_wp2_with fail
          go_roundw
          case rel => exact ⟨k + 1, r, h, by omega, by go_num, rfl, rfl, HX.out⟩
          case measure => simp [intOf]; omega
        · obtain ⟨t, M, Wt, hGo, ht, hMl, hpr, hbel⟩ := hG7
          have hlg := hGo.lg
          have cL := log_any hGo.lie (by omega)
          have HX := Lib.hid (And.intro hGo (And.intro ht (And.intro hMl (And.intro hpr hbel))))
          clear hGo ht hMl hpr hbel
          obtain ⟨lg, hlgl⟩ : ∃ lg, Hid (M.log.length = lg) := ⟨_, Lib.hid rfl⟩
          rw [hlgl.out] at cL hlg
          have hlg3 : lg ≤ 3001 := by have := HX.out.2.1; omega
          go_wp2_with fail
          with_reducible refine cL.mono ?_
          clear cL
          rintro e w8 ⟨A8, c8, rfl, -, ho8⟩
          go_wp2_with fail
          have HO8 := Lib.hid ho8
          clear ho8
          obtain ⟨wo, rfl⟩ : ∃ x, x = wr := ⟨_, rfl⟩
          go_loopw [16, 17] (fun nv i wr => ∃ j q : Nat, j ≤ Ls.length ∧ i = .int .i64 j ∧ nv = .int .i64 q ∧ (Hid (q = lg + toldTo M j) ∧ q ≤ lg + 8 * j) ∧ Only [] w7 wr) (fun _ i _ => Ls.length - (intOf i).toNat)
          case atStart => exact ⟨0, lg, by omega, rfl, rfl, ⟨Lib.hid (by simp [toldTo]), by omega⟩, HO8.out⟩
          case round =>
            clear HO8
            obtain ⟨j, q, hj, rfl, rfl, ⟨hq, hqb⟩, ho⟩ := hrel
            have hj0 : (0 : Int) ≤ (j : Int) := by omega
            by_cases hjt : j < Ls.length
            · have hj1 : (j : Int) < (Ls.length : Int) := by omega
              obtain ⟨hGo, ht, hMl, hpr, hbel⟩ := HX.out
              obtain ⟨u, hu⟩ : ∃ u, M.ws[j]? = some u := ⟨_, List.getElem?_eq_getElem (by omega)⟩
              have ht8 := hGo.lie.toldLe hGo.good hu
              have cT := told_any (hGo.lie.only0 ho) hu (by omega)
              have HU := Lib.hid hu
              clear hGo ht hMl hpr hbel hu
              obtain ⟨tl, htl⟩ : ∃ tl, Hid (u.told.length = tl) := ⟨_, Lib.hid rfl⟩
              rw [htl.out] at cT ht8
              go_wp2_with fail
              with_reducible refine cT.mono ?_
              clear cT
              rintro e w9 ⟨A9, c9, rfl, -, ho9⟩
              have hoo := ho.trans ho9
              clear ho ho9
              go_wp2_with fail
              go_roundw
              case rel => exact ⟨j + 1, q + tl, by omega, by go_num, by go_num, ⟨Lib.hid (by rw [toldTo_succ HU.out, htl.out, hq.out]; omega), by omega⟩, hoo⟩
              case measure => simp [intOf]; omega
            · obtain rfl : j = Ls.length := by omega
              obtain ⟨hGo, ht, hMl, hpr, hbel⟩ := HX.out
              have hqp : q = prog M := by
                have e := toldTo_all (M := M)
                rw [hMl] at e
                rw [hq.out, e, ← hlgl.out]
                rfl
              have hb9 : Below w.heap.size w5 wr := hbel.trans (ho.to_below (Nat.le_trans hpl hbel.size) (by simp))
              have hgo9 := hGo.only0 ho
              have hbg' := hbg.out
              have hpos : 0 < bd := by omega
              have hcase : (q = h ∧ Hid (GoesTo w.heap.size w5 wr G (jobsOf Ls) N Ls.length (k + 1) (r + 1) h) ∧ r + 1 < bd) ∨ (h < q ∧ Hid (GoesTo w.heap.size w5 wr G (jobsOf Ls) N Ls.length (k + 1) 0 q)) := by
                rcases hpr with ⟨h6, h7⟩ | ⟨h6, h7⟩
                · exact .inl ⟨by omega, Lib.hid ⟨t, M, Wt, hgo9, ht, hMl, h6, h7, hb9⟩, by omega⟩
                · exact .inr ⟨by omega, Lib.hid ⟨t, M, Wt, hgo9, ht, hMl, hqp.symm, by omega, hb9⟩⟩
              clear hGo ht hMl hpr hbel hqp hb9 hgo9 hq ho hbg'
              rcases hcase with ⟨rfl, hF, hlb⟩ | ⟨hlq, hF⟩
              · have hlb' : ((r : Int) + 1) < (bd : Int) := by omega
                go_wp2_with fail
                go_roundw
                case rel => exact ⟨k + 1, r + 1, q, by omega, by go_num, by go_num, rfl, hF.out⟩
                case measure => simp [intOf]; omega
              · have hlq' : (h : Int) < (q : Int) := by omega
                have hpos' : (0 : Int) < (bd : Int) := by omega
                go_wp2_with fail
                go_roundw
                case rel => exact ⟨k + 1, 0, q, by omega, by go_num, rfl, rfl, hF.out⟩
                case measure => simp [intOf]; omega
      · have cN : Calls Try.prog 10 #[.pointer (some ⟨G.pm, 0, none⟩), .int .i64 x] wr (StepLeaves w.heap.size wr G (jobsOf Ls) (false, M)) := by
          obtain ⟨Ps, Fs, AL, hlie⟩ := hGo.lie
          exact step_no hlie (by omega)
        have HX := Lib.hid (And.intro hGo (And.intro ht (And.intro hMl (And.intro hpr (And.intro hrr hbel)))))
        clear hGo ht hMl hpr hrr hbel hin
        go_wp2_with fail
        with_reducible refine cN.mono ?_
        clear cN
        rintro e w7 ⟨rfl, hM7, hb7⟩
        go_wp2_with fail
        go_roundw
        case rel =>
          obtain ⟨hGo, ht, hMl, hpr, hrr, hbel⟩ := HX.out
          exact ⟨k + 1, r, h, by omega, by go_num, rfl, rfl, t, M, Wt, ⟨hM7, hGo.good, hGo.ds, hGo.lg⟩, by omega, hMl, hpr, hrr, hbel.trans hb7⟩
        case measure => simp [intOf]; omega
    · obtain rfl : k = Xs.length := by omega
      obtain ⟨t, M, Wt, hGo, ht, hMl, hpr, hrr, hbel⟩ := hG
      have HX := Lib.hid hbel
      clear hGo hbel hrr
      go_wp2_with fail
      go_ret
      have hz := HO.out.1.size
      exact ⟨rfl, Only.of_below ((HO.out.1.to_below (Nat.le_refl _) (by simp)).trans HX.out) []⟩
end
end Go.Proofs.Ytleomgmhkoglmaa
