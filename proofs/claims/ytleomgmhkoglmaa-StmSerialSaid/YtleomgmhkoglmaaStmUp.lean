/- The document's example, as mathematics, and walked (layer 8's statements). -/
import Derived.Test.YtleomgmhkoglmaaStmMath
import Derived.Test.YtleomgmhkoglmaaStmEnd
import Derived.Test.YtleomgmhkoglmaaStmJobs
import Derived.Lib.IfaceEq
import Derived.Lib.IfaceNeq
namespace Go.Proofs.Ytleomgmhkoglmaa
section
open Go.RowKit
def upJ : List (List Jb) := [[.add], [.add]]
def upM : Nat → Ma
  | 0 => ⟨⟨9, [⟨0, 0, 0⟩]⟩, [⟨[], .idle⟩, ⟨[], .idle⟩], [], []⟩
  | i + 1 => (stepM upJ (upM i) (i % 2)).2
def idleB (u : Wk) : Bool := match u.ph with
  | .idle => true
  | _ => false
set_option maxRecDepth 1000000 in
theorem upM_end : (upM 40).s.L.map C.v = [2] ∧ (upM 40).log.length = 2 ∧ (upM 40).ws.map (fun u => u.told.length) = [1, 1] ∧ (upM 40).ws.map idleB = [true, true] ∧ (upM 40).s.lim = 9 := by decide +kernel
end
section
open Go.RowKit Go.Maps
theorem upJ_feed {k : Nat} {js : List Jb} (h : upJ[k]? = some js) : js = [.add] := by
  match k, h with
  | 0, h => cases h; rfl
  | 1, h => cases h; rfl
  | k + 2, h => simp [upJ] at h
theorem startM_up : startM ⟨9, List.replicate 1 ⟨0, 0, 0⟩⟩ 2 = upM 0 := rfl
set_option maxRecDepth 1000000 in
theorem up_idle : (!(List.range (upM 40).ws.length).any (wantsAt upJ (upM 40))) = true := by decide +kernel
set_option maxRecDepth 1000000 in
theorem up_more : (upM 40).s.L.length = 1 ∧ (upM 40).ws.length = 2 ∧ ((upM 40).ws.map Wk.busy) = [false, false] ∧ (stepM upJ (upM 40) 0).1 = false := by decide +kernel
theorem two_at {M : Ma} (hl : M.ws.length = 2) (h1 : M.ws.map Wk.busy = [false, false]) (h2 : (M.ws.map fun u => u.told.length) = [1, 1]) {k : Nat} (hk : k < 2) : ∃ u, M.ws[k]? = some u ∧ u.busy = false ∧ u.told.length = 1 := by
  obtain ⟨u, hu⟩ : ∃ u, M.ws[k]? = some u := ⟨_, List.getElem?_eq_getElem (by omega)⟩
  have e1 : (M.ws.map Wk.busy)[k]? = some u.busy := by rw [List.getElem?_map, hu]; rfl
  have e2 : (M.ws.map (fun u => u.told.length))[k]? = some u.told.length := by rw [List.getElem?_map, hu]; rfl
  rw [h1] at e1
  rw [h2] at e2
  refine ⟨u, hu, ?_, ?_⟩
  · match k, hk with
    | 0, _ => simpa using e1.symm
    | 1, _ => simpa using e1.symm
  · match k, hk with
    | 0, _ => simpa using e2.symm
    | 1, _ => simpa using e2.symm
theorem up_wk {k : Nat} (hk : k < 2) : ∃ u, (upM 40).ws[k]? = some u ∧ u.busy = false ∧ u.told.length = 1 := two_at up_more.2.1 up_more.2.2.1 upM_end.2.2.1 hk
section
variable {base : Nat} {w : World}
/-- a row of one's own, of values -/
theorem rows_lit {W : World} {g : Nat} {t : TypeId} {vs : List Value} (h : Blk W g t vs.toArray) : RowsAt W (some ⟨g, 0, none⟩) vrow 1 vs := fun k v hk => ⟨g, 0, rfl, h.lt, fun j u hj => by
  cases j with
  | zero =>
    cases hj
    rw [h.cell]
    simpa using hk
  | succ j => simp [vrow] at hj⟩
theorem listAdd_any {g : Nat} {cap : Nat} (h : Blk w g JobT #[.func (.func 20) #[] #[]]) :
    Calls Try.prog 19 #[.slice (some ⟨g, 0, none⟩) 1 cap] w fun e w' => ∃ fv, e = .returned fv ∧ FeedAt base w' fv [.add] ∧ Only [] w w' :=
  list_any (base := base) (js := [.add]) cap (rows_lit (vs := [.func (.func 20) #[] #[]]) h) rfl (fun i v j hv hj => by
    cases i with
    | zero => cases hv; cases hj; exact rfl
    | succ i => simp at hv) (by simp)
theorem mark_step {t : Nat} {G : Geo} {M : Ma} {Wt : List C} {k : Nat} (h : Goes base w G upJ 1 t M Wt) (hk : k < M.ws.length) (ht : t ≤ 1000) : Calls Try.prog 10 #[.pointer (some ⟨G.pm, 0, none⟩), .int .i64 k] w fun e w' => e = .returned (.bool (stepM upJ M k).1) ∧ (∃ Wt', Goes base w' G upJ 1 (t + 1) (stepM upJ M k).2 Wt') ∧ (stepM upJ M k).2.ws.length = M.ws.length ∧ Below base w w' := by
  refine (h.step hk (by omega)).mono ?_
  rintro e w' hL
  obtain ⟨Wt', g1, g2, -, -⟩ := h.next hk hL
  exact ⟨hL.1, ⟨Wt', g1⟩, g2, hL.2.2⟩
set_option maxRecDepth 100000 in
set_option maxHeartbeats 4000000 in
theorem up_any : Calls Try.prog 5 #[] w fun e w' => e = .returned (.bool true) ∧ Only [] w w' := by
  have cN := new_good 1 9 w (by omega) (by omega) (by omega) (by omega)
  have hq := fun (c a : Int) (W : World) => Lib.run_eql_iface_int (P := Try.prog) W (t := 29) (tx := 60) (k := .i64) c a Try.underlying29 (by kernel_rfl) Try.underlying60
  go_enter Try.func5, Try.ntmps5
  go_wp2_with (go_at_call 7; (with_reducible refine cN.mono ?_); clear cN; rintro e w1 ⟨rfl, hs1, ho1⟩; simp only [codeV0])
  have hb2 := Blk.new w1 FeedT #[.nilFunc]
  have ho2 : Only [] w1 (w1.alloc (.cells #[.nilFunc] FeedT)) := (Only.refl _ _).alloc _
  have cA := new_nil (w := w1.alloc (.cells #[.nilFunc] FeedT)) (b := w1.heap.size) (off := 0) (cap := 1) (ps := w.heap.size + 1) (hb2.cell 0) hb2.lt
  refine cA.mono ?_
  clear cA hb2
  rintro e w2 ⟨rfl, ho3⟩
  have hs2 := hs1.only (ho2.trans ho3) (by simp) (by simp)
  have hoA := ho1.trans (ho2.trans ho3)
  clear ho2 ho3 hs1
  go_wp2_with fail
  have hb3 := Blk.new w2 JobT #[.func (.func 20) #[] #[]]
  have ho3 : Only [] w2 (w2.alloc (.cells #[.func (.func 20) #[] #[]] JobT)) := (Only.refl _ _).alloc _
  refine (listAdd_any (base := w.heap.size) (cap := 1) hb3).mono ?_
  clear hb3
  rintro e w3 ⟨fv1, rfl, hf1, ho4⟩
  have hs3 := hs2.only (ho3.trans ho4) (by simp) (by simp)
  have hoB := hoA.trans (ho3.trans ho4)
  clear ho3 ho4 hs2 hoA
  go_wp2_with fail
  have hb4 := Blk.new w3 JobT #[.func (.func 20) #[] #[]]
  have ho4 : Only [] w3 (w3.alloc (.cells #[.func (.func 20) #[] #[]] JobT)) := (Only.refl _ _).alloc _
  refine (listAdd_any (base := w.heap.size) (cap := 1) hb4).mono ?_
  clear hb4
  rintro e w4 ⟨fv2, rfl, hf2, ho5⟩
  have hs4 := hs3.only (ho4.trans ho5) (by simp) (by simp)
  have hf1 := hf1.only (ho4.trans ho5) Clear.nil (by simp)
  have hoC := hoB.trans (ho4.trans ho5)
  clear ho4 ho5 hs3 hoB
  have hf1' := hf1
  obtain ⟨pb1, A1, cp1, rfl, -, -⟩ := hf1'
  have hf2' := hf2
  obtain ⟨pb2, A2, cp2, rfl, -, -⟩ := hf2'
  go_wp2_with fail
  have hb5 := Blk.new w4 FeedT #[.func (.func 39) #[] #[.pointer (some ⟨pb1, 0, none⟩)], .func (.func 39) #[] #[.pointer (some ⟨pb2, 0, none⟩)]]
  have ho5 : Only [] w4 (w4.alloc (.cells #[.func (.func 39) #[] #[.pointer (some ⟨pb1, 0, none⟩)], .func (.func 39) #[] #[.pointer (some ⟨pb2, 0, none⟩)]] FeedT)) := (Only.refl _ _).alloc _
  generalize w4.alloc (.cells #[.func (.func 39) #[] #[.pointer (some ⟨pb1, 0, none⟩)], .func (.func 39) #[] #[.pointer (some ⟨pb2, 0, none⟩)]] FeedT) = w5 at hb5 ho5 ⊢
  have hs5 := hs4.only ho5 (by simp) (by simp)
  have hf1 := hf1.only ho5 Clear.nil (by simp)
  have hf2 := hf2.only ho5 Clear.nil (by simp)
  have hoD := hoC.trans ho5
  clear ho5 hs4 hoC
  have cW := new_ok (ps := w.heap.size + 1) 2 (rows_lit hb5) (fun i v hv => by
    match i, hv with
    | 0, hv => cases hv; exact ⟨_, _, rfl⟩
    | 1, hv => cases hv; exact ⟨_, _, rfl⟩
    | i + 2, hv => simp at hv) (by simp)
  refine cW.mono ?_
  clear cW
  rintro e w6 ⟨pm, AW, cW, Pw, rfl, hNew⟩
  have hlie := MLie.start (base := w.heap.size) (J := upJ) hNew hs5 (by simp) hoD.size (Nat.le_refl _) rfl (by simp) (fun k fv js hk hj => by
    have e := upJ_feed hj
    subst e
    match k, hk with
    | 0, hk => cases hk; exact ⟨hf1, by simp⟩
    | 1, hk => cases hk; exact ⟨hf2, by simp⟩
    | k + 2, hk => simp at hk)
  have hgo : Goes w.heap.size w6 ⟨pm, w.heap.size + 1, w.heap.size, AW, cW, Pw, _⟩ upJ 1 0 (upM 0) [⟨0, 0, 0⟩] := ⟨⟨_, _, _, hlie⟩, MGood.start (s := ⟨9, List.replicate 1 ⟨0, 0, 0⟩⟩) (n := 2) rfl (by simp) (by simp) rfl, by simp [upM], by simp [upM]⟩
  have hoE := hoD.trans hNew.ho
  clear hNew hlie hf1 hf2 hs5 hb5 hoD
  generalize hG : (⟨pm, w.heap.size + 1, w.heap.size, AW, cW, Pw, _⟩ : Geo) = G at hgo
  have hpm : pm = G.pm := by rw [← hG]
  have hps : w.heap.size + 1 = G.ps := by rw [← hG]
  have hgs : w.heap.size = G.gS := by rw [← hG]
  clear hG
  subst hpm
  go_wp2_with fail
  have HG := Lib.hid hgo
  have HO := Lib.hid (And.intro hoE (And.intro hps hgs))
  clear hgo hoE hps hgs
  go_loopw [7] (fun i wr => ∃ k : Nat, k ≤ 40 ∧ i = .int .i64 k ∧ (∃ Wt, Goes w.heap.size wr G upJ 1 k (upM k) Wt) ∧ (upM k).ws.length = 2 ∧ Below w.heap.size w6 wr) (fun i _ => 40 - (intOf i).toNat)
  case atStart => exact ⟨0, by omega, rfl, ⟨_, HG.out⟩, rfl, Below.refl _ _⟩
  case round =>
    clear HG
    obtain ⟨k, hk, rfl, ⟨Wt, hG⟩, hn, hb⟩ := hrel
    have hk0 : (0 : Int) ≤ (k : Int) := by omega
    by_cases hlt : k < 40
    · have hlt' : (k : Int) < 40 := by omega
      have cS := mark_step (k := k % 2) hG (by omega) (by omega)
      rw [show ((k % 2 : Nat) : Int) = (k : Int) % 2 by omega] at cS
      have HB := Lib.hid hb
      clear hG hb
      go_wp2_with fail
      with_reducible refine cS.mono ?_
      clear cS
      rintro e w7 ⟨rfl, hG7, hn7, hb7⟩
      go_wp2_with fail
      go_roundw
      case rel => exact ⟨k + 1, by omega, by go_num, hG7, hn7.trans hn, HB.out.trans hb7⟩
      case measure => simp [intOf]; omega
    · obtain rfl : k = 40 := by omega
      generalize hM : upM 40 = M at *
      obtain ⟨hoE, hps, hgs⟩ := HO.out
      obtain ⟨hv, hlg, -, -, -⟩ := upM_end
      obtain ⟨hl1, -, -, hst⟩ := up_more
      have hid := up_idle
      obtain ⟨u0, hu0, hz0, ht0⟩ := up_wk (k := 0) (by omega)
      obtain ⟨u1, hu1, hz1, ht1⟩ := up_wk (k := 1) (by omega)
      rw [hM] at hv hlg hl1 hst hid hu0 hu1
      have hpp : G.gS + 1 = G.ps := by omega
      obtain ⟨Ps, Fs, AL, hlie⟩ := hG.lie
      have cV := values_any G.ps G.gS M.s wr hlie.store
      rw [← hpp, hv, hl1] at cV
      have htl : ∀ (k : Nat) (u : Wk), M.ws[k]? = some u → u.told.length ≤ 8 := fun k u hu => hG.lie.toldLe hG.good hu
      have HX := Lib.hid (And.intro hoE (And.intro hb (And.intro hG htl)))
      clear hlie hoE hb hG htl HO hps hgs hf1 hf2 hpp
      go_wp2_with fail
      with_reducible refine cV.mono ?_
      clear cV
      rintro e w7 ⟨rfl, hbv, ho7⟩
      have cI := idle_any (HX.out.2.2.1.lie.only0 ho7) HX.out.2.2.2
      rw [hid] at cI
      go_wp2_with fail
      with_reducible refine cI.mono ?_
      clear cI
      rintro e w8 ⟨rfl, ho8⟩
      have v0 : w8.cell? ⟨wr.heap.size, 0, none⟩ = some (.int .u64 2) := (ho8.blk hbv (by simp)).cell 0
      have hoa := ho7.trans ho8
      have cL := log_any (HX.out.2.2.1.lie.only0 hoa) (by omega)
      rw [hlg] at cL
      clear hbv ho7 ho8
      go_wp2_with fail
      with_reducible refine cL.mono ?_
      clear cL
      rintro e w9 ⟨A9, c9, rfl, -, ho9⟩
      have hob := hoa.trans ho9
      have cT := told_any (HX.out.2.2.1.lie.only0 hob) hu1 (by omega)
      rw [ht1, show ((1 : Nat) : Int) = 1 from rfl] at cT
      go_wp2_with fail
      with_reducible refine cT.mono ?_
      clear cT
      rintro e w10 ⟨A10, c10, rfl, -, ho10⟩
      have hoc := hob.trans ho10
      have cB := busy_any (HX.out.2.2.1.lie.only0 hoc) hu0
      rw [hz0, show ((0 : Nat) : Int) = 0 from rfl] at cB
      have cS := mark_step (k := 0) (HX.out.2.2.1.only0 hoc) (by omega) (by omega)
      rw [hst, show ((0 : Nat) : Int) = 0 from rfl] at cS
      go_wp2_with fail
      with_reducible refine cB.mono ?_
      clear cB
      rintro e w11 ⟨rfl, rfl⟩
      go_wp2_with fail
      with_reducible refine cS.mono ?_
      clear cS
      rintro e w12 ⟨rfl, -, -, hb12⟩
      go_wp2_with fail
      go_ret
      have hz := HX.out.1.size
      exact ⟨rfl, Only.of_below ((((HX.out.1.to_below (Nat.le_refl _) (by simp)).trans HX.out.2.1).trans (hoc.to_below (Nat.le_trans hz HX.out.2.1.size) (by simp))).trans hb12) []⟩
end
end
end Go.Proofs.Ytleomgmhkoglmaa
