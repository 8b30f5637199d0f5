/- The example at the statements' head comes out true (layer 6). -/
import Derived.Test.YtbjookkbbdphnaaTxRun
import Derived.Test.YtbjookkbbdphnaaTxEnts
namespace Go.Proofs.Ytbjookkbbdphnaa
open Go.RowKit Go.Maps
theorem meth_dread (n : Nat) (v : Value) (w : World) : Sem.run Try.prog (method (n + 1) 64 v "Read") w = .ok (71, v) w := by kernel_rfl
theorem meth_dwrite (n : Nat) (v : Value) (w : World) : Sem.run Try.prog (method (n + 1) 64 v "Write") w = .ok (72, v) w := by kernel_rfl
theorem nil_dwrite (n : Nat) (a : Addr) (w : World) : Sem.run Try.prog (nilAhead (n + 1) 64 (.pointer (some a)) "Write") w = .ok (some false) w := by kernel_rfl
theorem nil_dread (n : Nat) (a : Addr) (w : World) : Sem.run Try.prog (nilAhead (n + 1) 64 (.pointer (some a)) "Read") w = .ok (some false) w := by kernel_rfl
section
variable {w : World} {bt bm n bd bw m sz : Nat} {cells : Int} {last : Value} {R : Int → Option Cl} {s : Dt}
set_option maxRecDepth 100000 in
theorem up1_any (hr : RecAt w bt bm n cells last R sz) (hd : DraftAt w bd bw bt m s false) :
    Calls Try.prog 18 #[.iface 64 (.pointer (some ⟨bd, 0, none⟩))] w fun e w' => e = .returned (.tuple #[]) ∧ DraftAt w' bd bw bt m (rdD cells R s 3).2 false ∧ Only [bd] w w' := by
  have mR := fun (n : Nat) (w : World) => meth_dread n (.pointer (some ⟨bd, 0, none⟩)) w
  have cR := dread_any hr hd 3
  go_enter Try.func18, Try.ntmps18
  go_wp2_with fail
  refine cR.mono ?_
  rintro e w1 ⟨rfl, hd1, ho1⟩
  go_wp2
  go_end0
  exact ⟨rfl, hd1, ho1⟩
set_option maxRecDepth 100000 in
set_option maxHeartbeats 800000 in
theorem up2_any (hr : RecAt w bt bm n cells last R sz) (hd : DraftAt w bd bw bt m s false) (hm : m < maxLen) {x y : Int} {s1 s2 : Dt} (hx : rdD cells R s 3 = (x, s1)) (hy : IntKind.u64.wrap (x + 1) = y) (hs2 : wrD cells R s1 3 y = s2) :
    Calls Try.prog 19 #[.iface 64 (.pointer (some ⟨bd, 0, none⟩))] w fun e w' => e = .returned (.tuple #[]) ∧ DraftAt w' bd bw bt (m + 1) s2 false ∧ Only [bd, bw] w w' := by
  have mR := fun (n : Nat) (w : World) => meth_dread n (.pointer (some ⟨bd, 0, none⟩)) w
  have mW := fun (n : Nat) (w : World) => meth_dwrite n (.pointer (some ⟨bd, 0, none⟩)) w
  have nW := fun (n : Nat) (w : World) => nil_dwrite n ⟨bd, 0, none⟩ w
  have hne := hr.ne hd
  have hr' : RecAt w.drew bt bm n cells last R sz := hr.drewN 1
  have hd' : DraftAt w.drew bd bw bt m s false := hd.drewN 1
  have cR := dread_any hr' hd' 3
  rw [hx] at cR
  have N := Lib.hid hne
  have M := Lib.hid hm
  have S2 := Lib.hid hs2
  have HX := Lib.hid hx
  clear hne hm hs2 hx
  go_enter Try.func19, Try.ntmps19
  go_wp2_with fail
  go_region_held3 (fun W => True ∧ True) (exact ⟨trivial, trivial⟩)
    (first | (go_at_call 71; (with_reducible refine cR.mono ?_); rintro e w1 ⟨rfl, hd1, ho1⟩; have hr1 := hr'.only ho1 (by have := N.out; simp; exact this.2.2.1) (by have := N.out; simp; exact fun e => this.2.2.2.2 e.symm); have cW := dwrite_any hr1 hd1 3 y M.out)
           | (go_at_call 72; (with_reducible refine cW.mono ?_); rintro e w2 ⟨rfl, hd2, ho2⟩))
  all_goals
    go_wp2
    go_end0
    rw [S2.out] at hd2
    exact ⟨rfl, hd2, (((Only.refl [bd, bw] w).drewN 1).trans (ho1.more (by simp +contextual))).trans ho2⟩
end
theorem enters18 (args : Array Value) (w : World) : (callFunc 18 args).run Try.prog w = .ok (.enter 18 args) w := by kernel_rfl
theorem enters19 (args : Array Value) (w : World) : (callFunc 19 args).run Try.prog w = .ok (.enter 19 args) w := by kernel_rfl
def upC : Cl := ⟨8, 2, 0⟩
def upR : Int → Option Cl := upd (fun _ => none) 3 upC
def upS : Dt := ⟨upd (fun _ => none) 3 9, none⟩
theorem up_R : lrn 5 (fun _ => none) 3 upC = upR := by simp [lrn, inB, upR]
theorem up_sz : lrnS 5 (fun _ => none) 0 3 = 1 := by simp [lrnS, inB]
theorem up_lk : (rdD 5 (fun _ => none) Dt.new 3).2.lk = some 3 := by simp [rdD, inB, needD, Dt.new]
theorem up_rd : rdD 5 upR Dt.new 3 = (8, Dt.new) := by simp [rdD, inB, valD', needD, Dt.new, upR, upd, upC]
theorem up_wr : wrD 5 upR Dt.new 3 9 = upS := by simp [wrD, inB, needD, Dt.new, upR, upS, upd]
theorem up_keys {ks : List Int} (h : KeysF upR 1 ks) : ks = [3] := by
  have h1 := h.len
  match ks, h1 with
  | [x], _ =>
    have h2 := h.has x (by simp)
    by_cases e : x = 3
    · rw [e]
    · simp [upR, upd, e] at h2
theorem up_ents : ents upR upS.wr [3] = [⟨3, 2, 8, 9, true⟩] := by simp [ents, ent, upS, upd, clOf, upR, upC]
set_option maxRecDepth 100000 in
set_option maxHeartbeats 1000000 in
theorem up_any (w : World) : Calls Try.prog 5 #[] w fun e w' => e = .returned (.bool true) ∧ Only [] w w' := by
  go_enter Try.func5, Try.ntmps5
  go_wp2_with fail
  refine (txNew_any w 5 (by omega)).mono ?_
  rintro e w1 ⟨rfl, hr1, ho1⟩
  go_wp2_with fail
  have hs1 := ho1.size
  refine (Run_any hr1 18 #[] [] [] (fun s _ => s.lk = some 3) (fun _ _ _ h _ => h) (by simp) (by simp) enters18 (fun bd bw wa _ _ hra hda _ => ?_)).mono ?_
  · exact (up1_any hra hda).mono fun e w' ⟨he, hd1, ho1⟩ => ⟨he, 0, _, hd1, ho1.more (by simp +contextual), up_lk⟩
  rintro e w2 ⟨bd, bw, m, s, rfl, -, -, hr2, -, ho2, hs⟩
  rw [hs]
  simp only [Option.getD_some, Option.isSome_some, Bool.not_true]
  have hO2 : Only [] w w2 := ho1.then ho2 (fun x hx => .inr (by simp at hx; omega))
  clear hs m s hr1 ho2 ho1
  go_wp2_with fail
  have cL := learn_any hr2 3 upC (by unfold maxLen; omega)
  rw [up_R, up_sz] at cL
  refine cL.mono ?_
  clear cL
  rintro e w3 ⟨rfl, hr3, ho3⟩
  have hO3 : Only [] w w3 := hO2.then ho3 (fun x hx => .inr (by simp at hx; omega))
  have hs3 := hO3.size
  clear hr2 hO2 ho3
  go_wp2_with fail
  refine (Run_any hr3 19 #[] [] [] (fun s _ => s = upS) (fun _ _ _ h _ => h) (by simp) (by simp) enters19 (fun bd bw wa _ _ hra hda _ => ?_)).mono ?_
  · exact (up2_any hra hda (by unfold maxLen; omega) up_rd (by decide) up_wr).mono fun e w' ⟨he, hd1, ho1⟩ => ⟨he, 1, _, hd1, ho1, rfl⟩
  rintro e w4 ⟨bd4, bw4, m4, s4, rfl, -, -, hr4, hd4, ho4, rfl⟩
  have hO4 : Only [] w w4 := hO3.then ho4 (fun x hx => .inr (by simp at hx; omega))
  clear hr3 hO3 ho4
  simp only [upS, Option.getD_none, Option.isSome_none, Bool.not_false]
  go_wp2_with fail
  refine (entries_any hr4 hd4 rfl (by omega)).mono ?_
  rintro e w5 ⟨v, ks, rfl, hK, hrow, ho5⟩
  obtain rfl := up_keys hK
  rw [up_ents] at hrow
  obtain ⟨A, cap, rfl, hc⟩ := row_cells En.row_len hrow
  obtain ⟨b, rfl, hb1, hb2, hcc⟩ := hc 0 _ rfl
  have hr5 := hr4.only ho5 (by simp) (by simp)
  have hO5 := hO4.trans ho5
  have x1 := hcc 1 _ rfl
  have x3 := hcc 3 _ rfl
  have x4 := hcc 4 _ rfl
  rw [Nat.zero_mul, Nat.zero_add] at x1 x3 x4
  clear hc hcc hrow hr4 hd4 ho5 hO4 hK
  go_wp2_with (go_at_call 14; (with_reducible refine (reads_any hr5).mono ?_); rintro e w' ⟨rfl, rfl⟩)
  go_ret
  exact ⟨rfl, hO5⟩
end Go.Proofs.Ytbjookkbbdphnaa
