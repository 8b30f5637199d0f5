/- What a job does on any view, and a worker's job on its record (layer 8). -/
import Derived.Test.YtleomgmhkoglmaaStmA
import Derived.Test.YtleomgmhkoglmaaStmView
namespace Go.Proofs.Ytleomgmhkoglmaa
open Go.RowKit Go.Maps
theorem enterOps (args : Array Value) (w : World) : (callFunc 22 args).run Try.prog w = .ok (.enter 22 args) w := by kernel_rfl
theorem enterAdd (args : Array Value) (w : World) : (callFunc 20 args).run Try.prog w = .ok (.enter 20 args) w := by kernel_rfl
section
variable {σ : Type} {M : Mach σ} {T : TypeId} {v : Value} {fR fW : FuncId} {Mem : Nat → World → σ → Prop} {S : List Nat}
set_option maxRecDepth 100000 in
set_option maxHeartbeats 1000000 in
theorem jobOps_any (V : ViewOk M T v fR fW Mem S) {w : World} {pb : Nat} {A : Option Addr} {L : List O} {cap : Nat} {s0 : σ} (hB : Blk w pb OpsT #[.slice A L.length cap]) (hL : Ops w A L) (hS : ∀ k, k ∈ blkO A L → k ∉ S) (hlen : L.length ≤ 40) (h0 : Mem L.length w s0) :
    Calls Try.prog 22 #[.iface T v, .pointer (some ⟨pb, 0, none⟩)] w fun e w' => e = .returned (.int .i64 (Jb.run M (.ops L) s0).1) ∧ (∃ k, Mem k w' (Jb.run M (.ops L) s0).2) ∧ Only S w w' := by
  have c := hB.cell 0
  have cD := do_any V (cap := cap) hL hS hlen h0
  simp only [Jb.run]
  obtain ⟨xx, hxx⟩ : ∃ xx, doL M L 0 s0 = xx := ⟨_, rfl⟩
  rw [hxx] at cD ⊢
  clear hxx hL hB h0
  go_enter Try.func22, Try.ntmps22
  go_wp2_with (go_at_call 13; (with_reducible refine cD.mono ?_); clear cD; rintro e w1 ⟨rfl, hm1, ho1⟩)
  go_ret
  exact ⟨rfl, hm1, ho1⟩
set_option maxRecDepth 100000 in
set_option maxHeartbeats 1000000 in
theorem jobAdd_any (V : ViewOk M T v fR fW Mem S) {w : World} {s0 : σ} (h0 : Mem 1 w s0) :
    Calls Try.prog 20 #[.iface T v] w fun e w' => e = .returned (.int .i64 (Jb.run M .add s0).1) ∧ (∃ k, Mem k w' (Jb.run M .add s0).2) ∧ Only S w w' := by
  have mR := V.mR
  have mW := V.mW
  have nR := V.nR
  have nW := V.nW
  have eR := V.eR
  have eW := V.eW
  simp only [Jb.run]
  obtain ⟨x, s1, hrd⟩ : ∃ x s1, M.rd s0 0 = (x, s1) := ⟨_, _, rfl⟩
  have cR := V.rd _ w.drew s0 0 (V.drew _ _ _ h0)
  rw [hrd] at cR ⊢
  simp only at cR ⊢
  obtain ⟨s2, hwr⟩ : ∃ s2, M.wr s1 0 (put64 x 1) = s2 := ⟨_, rfl⟩
  rw [hwr]
  obtain ⟨y, s3, hrd2⟩ : ∃ y s3, M.rd s2 0 = (y, s3) := ⟨_, _, rfl⟩
  rw [hrd2]
  have hR := Lib.hid hrd
  have hR2 := Lib.hid hrd2
  have hW : Hid (M.wr s1 0 (IntKind.u64.wrap (x + 1)) = s2) := Lib.hid hwr
  have hV := Lib.hid V
  clear hrd hrd2 hwr V
  go_enter Try.func20, Try.ntmps20
  go_wp2_with fail
  have hoy : Only S w w.drew := (Only.refl _ _).drew
  go_region_held3 (fun W => Only S w W ∧ True)
    (first | exact ⟨hoy, trivial⟩ | exact ⟨hoz, trivial⟩ | exact ⟨hox, trivial⟩)
    (first | ((with_reducible refine cR.mono ?_); clear cR; rintro e w1 ⟨rfl, hm1, ho1⟩; have hox := hoy.trans ho1; have cW := hV.out.wr 0 w1 s1 0 (IntKind.u64.wrap (x + 1)) hm1; rw [hW.out] at cW) | ((with_reducible refine cW.mono ?_); clear cW; rintro e w2 ⟨rfl, hm2, ho2⟩; have hoz := hox.trans ho2))
  all_goals
    have cR2 := hV.out.rd 0 w2 s2 0 hm2
    rw [hR2.out] at cR2
    simp only at cR2
    go_wp2_with fail
    refine cR2.mono ?_
    clear cR2
    rintro e w3 ⟨rfl, hm3, ho3⟩
    go_wp2_with fail
    go_ret
    exact ⟨rfl, ⟨0, hm3⟩, hoz.trans ho3⟩
end
/-- a job on a run's view -/
theorem job_any {base : Nat} {w : World} {bt bm n bd bw sz : Nat} {cells : Int} {last : Value} {R : Int → Option Cl} {jv : Value} {j : Jb} (hr : RecAt w bt bm n cells last R sz) (hd : DraftAt w bd bw bt 0 Dt.new false) (hJ : JobAt base w jv j) (hmw : bm ≠ bw) (hbd : base ≤ bd) (hbw : base ≤ bw) :
    ∃ G caps, jv = .func (.func G) #[] caps ∧ (∀ (args : Array Value) (w : World), (callFunc G args).run Try.prog w = .ok (.enter G args) w) ∧ Calls Try.prog G (#[.iface 104 (.pointer (some ⟨bd, 0, none⟩))] ++ caps) w fun e w' =>
      e = .returned (.int .i64 (j.run (machD cells R) Dt.new).1) ∧ (∃ m, DraftAt w' bd bw bt m (j.run (machD cells R) Dt.new).2 false) ∧ Only [bd, bw] w w' := by
  have V := viewD bt bm n bd bw cells last R sz hmw
  cases j with
  | ops L =>
    obtain ⟨pb, A, cap, rfl, h1, h2, h3, h4⟩ := hJ
    refine ⟨_, _, rfl, enterOps, (jobOps_any V h1 h2 (fun k hk hs => ?_) (by omega) ⟨hr, 0, by omega, hd⟩).mono ?_⟩
    · have := h3 k hk
      simp only [List.mem_cons, List.not_mem_nil, or_false] at hs
      omega
    · rintro e w' ⟨rfl, ⟨k, _, m, _, hd'⟩, ho⟩
      exact ⟨rfl, ⟨m, hd'⟩, ho⟩
  | add =>
    obtain rfl := hJ
    refine ⟨_, _, rfl, enterAdd, (jobAdd_any V ⟨hr, 0, by omega, hd⟩).mono ?_⟩
    rintro e w' ⟨rfl, ⟨k, _, m, _, hd'⟩, ho⟩
    exact ⟨rfl, ⟨m, hd'⟩, ho⟩
theorem enterRun (args : Array Value) (w : World) : (callFunc 42 args).run Try.prog w = .ok (.enter 42 args) w := by kernel_rfl
set_option maxRecDepth 100000 in
set_option maxHeartbeats 1000000 in
theorem run1_any {base : Nat} {w : World} {bt bm n bd bw sz : Nat} {cells : Int} {last : Value} {R : Int → Option Cl} {jv : Value} {j : Jb} (hr : RecAt w bt bm n cells last R sz) (hd : DraftAt w bd bw bt 0 Dt.new false) (hJ : JobAt base w jv j) (hmw : bm ≠ bw) (hbd : base ≤ bd) (hbw : base ≤ bw)
    {p1 p2 pw : Nat} {x0 : Int} (h1 : w.cell? ⟨p1, 0, none⟩ = some (.pointer (some ⟨pw, 0, none⟩))) (hw : w.cell? ⟨pw, 2, none⟩ = some jv) (h2 : Blk w p2 IntT #[.int .i64 x0]) (hp2 : p2 ≠ bd ∧ p2 ≠ bw) :
    Calls Try.prog 42 #[.iface 104 (.pointer (some ⟨bd, 0, none⟩)), .pointer (some ⟨p1, 0, none⟩), .pointer (some ⟨p2, 0, none⟩)] w fun e w' => e = .returned (.tuple #[]) ∧
      ∃ m s, DraftAt w' bd bw bt m s false ∧ Only [bd, bw, p2] w w' ∧ s = (j.run (machD cells R) Dt.new).2 ∧ Blk w' p2 IntT #[.int .i64 (j.run (machD cells R) Dt.new).1] := by
  obtain ⟨Gj, caps, rfl, hE, cJ⟩ := job_any hr hd hJ hmw hbd hbw
  obtain ⟨xx, hxx⟩ : ∃ xx, j.run (machD cells R) Dt.new = xx := ⟨_, rfl⟩
  rw [hxx] at cJ ⊢
  clear hxx hJ hr hd
  go_enter Try.func42, Try.ntmps42
  go_wp2_with fail
  refine cJ.mono ?_
  clear cJ
  rintro e w1 ⟨rfl, ⟨m1, hd1⟩, ho1⟩
  have h3 := ho1.blk h2 (by simpa using hp2)
  have hf2 : w1.frozen? ⟨p2, 0, none⟩ = false := h3.frozen _
  have c3 : w1.cell? ⟨p2, 0, none⟩ = some (.int .i64 x0) := h3.cell 0
  go_wp2
  go_end0
  have ho2 : Only [p2] w1 (w1.setCell ⟨p2, 0, none⟩ (.int .i64 xx.1)) := (Only.refl _ _).setCell (p := ⟨p2, 0, none⟩) (.inl (by simp)) _
  exact ⟨rfl, m1, _, hd1.only ho2 (by simp; exact fun e => hp2.1 e.symm) (by simp; exact fun e => hp2.2 e.symm), (ho1.more (by simp only [List.mem_cons, List.not_mem_nil, or_false]; omega)).trans (ho2.more (by simp only [List.mem_cons, List.not_mem_nil, or_false]; omega)), rfl, by simpa using h3.set_ 0 (.int .i64 xx.1)⟩
end Go.Proofs.Ytleomgmhkoglmaa
