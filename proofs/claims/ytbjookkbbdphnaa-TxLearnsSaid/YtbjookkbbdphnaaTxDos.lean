/- What Do of layer 6's statements does on a record's view and on plain words; the function that TxLearns runs. -/
import Derived.Test.YtbjookkbbdphnaaTxDo
import Derived.Test.YtbjookkbbdphnaaTxUp
import Derived.Test.YtbjookkbbdphnaaPlain
namespace Go.Proofs.Ytbjookkbbdphnaa
open Go.RowKit Go.Maps
/-- a run's view, with room for k writes of 40 -/
def MemD (bt bm n bd bw : Nat) (cells : Int) (last : Value) (R : Int → Option Cl) (sz : Nat) (k : Nat) (w : World) (s : Dt) : Prop :=
  RecAt w bt bm n cells last R sz ∧ ∃ m, m + k ≤ 40 ∧ DraftAt w bd bw bt m s false
theorem enterDR (args : Array Value) (w : World) : (callFunc 71 args).run Try.prog w = .ok (.enter 71 args) w := by kernel_rfl
theorem enterDW (args : Array Value) (w : World) : (callFunc 72 args).run Try.prog w = .ok (.enter 72 args) w := by kernel_rfl
theorem viewD (bt bm n bd bw : Nat) (cells : Int) (last : Value) (R : Int → Option Cl) (sz : Nat) (hmw : bm ≠ bw) :
    ViewOk (machD cells R) 64 (.pointer (some ⟨bd, 0, none⟩)) 71 72 (MemD bt bm n bd bw cells last R sz) [bd, bw] where
  mR := fun n w => meth_dread n _ w
  mW := fun n w => meth_dwrite n _ w
  nR := fun n w => nil_dread n _ w
  nW := fun n w => nil_dwrite n _ w
  eR := enterDR
  eW := enterDW
  rd := fun k w s i ⟨hr, m, hm, hd⟩ => (dread_any hr hd i).mono fun e w' ⟨he, hd', ho⟩ => by
    have hne := hr.ne hd
    exact ⟨he, ⟨hr.only ho (by simp; exact hne.2.2.1) (by simp; exact fun e => hne.2.2.2.2 e.symm), m, hm, hd'⟩, ho.more (by simp +contextual)⟩
  wr := fun k w s i x ⟨hr, m, hm, hd⟩ => (dwrite_any hr hd i x (by unfold maxLen; omega)).mono fun e w' ⟨he, hd', ho⟩ => by
    have hne := hr.ne hd
    exact ⟨he, ⟨hr.only ho (by simp; exact ⟨hne.2.2.1, hne.2.1⟩) (by simp; exact ⟨fun e => hne.2.2.2.2 e.symm, hmw⟩), m + 1, by omega, hd'⟩, ho⟩
  less := fun k j w s ⟨hr, m, hm, hd⟩ hj => ⟨hr, m, by omega, hd⟩
  drew := fun k w s ⟨hr, m, hm, hd⟩ => ⟨hr.drewN 1, m, hm, hd.drewN 1⟩
theorem meth_pread (n : Nat) (v : Value) (w : World) : Sem.run Try.prog (method (n + 1) 50 v "Read") w = .ok (16, v) w := by kernel_rfl
theorem meth_pwrite (n : Nat) (v : Value) (w : World) : Sem.run Try.prog (method (n + 1) 50 v "Write") w = .ok (69, v) w := by kernel_rfl
theorem nil_pread (n : Nat) (v : Value) (w : World) : Sem.run Try.prog (nilAhead (n + 1) 50 v "Read") w = .ok (some false) w := by kernel_rfl
theorem nil_pwrite (n : Nat) (v : Value) (w : World) : Sem.run Try.prog (nilAhead (n + 1) 50 v "Write") w = .ok (some false) w := by kernel_rfl
theorem enterPR (args : Array Value) (w : World) : (callFunc 16 args).run Try.prog w = .ok (.enter 16 args) w := by kernel_rfl
theorem enterPW (args : Array Value) (w : World) : (callFunc 69 args).run Try.prog w = .ok (.enter 69 args) w := by kernel_rfl
/-- plain words of one's own -/
def MemP (g nn : Nat) (t : TypeId) (_ : Nat) (w : World) (L : List Int) : Prop := L.length = nn ∧ RowU w g t L
theorem viewP (g nn cap : Nat) (t : TypeId) :
    ViewOk machP 50 (.slice (some ⟨g, 0, none⟩) nn cap) 16 69 (MemP g nn t) [g] where
  mR := fun n w => meth_pread n _ w
  mW := fun n w => meth_pwrite n _ w
  nR := fun n w => nil_pread n _ w
  nW := fun n w => nil_pwrite n _ w
  eR := enterPR
  eW := enterPW
  rd := fun k w L i ⟨hl, hr⟩ => by
    subst hl
    exact (pread_any cap w hr.wds i).mono fun e w' ⟨he, hw⟩ => by subst hw; exact ⟨he, ⟨rfl, hr⟩, Only.refl _ _⟩
  wr := fun k w L i x ⟨hl, hr⟩ => by
    subst hl
    exact (pwrite_any cap w hr i x).mono fun e w' ⟨he, hw⟩ => by subst hw; exact ⟨he, ⟨setL_length L i x, hr.wr i x⟩, wrW_only _ _ _ _ _⟩
  less := fun k j w L h _ => h
  drew := fun k w L ⟨hl, hr⟩ => ⟨hl, hr.drewN 1⟩
theorem enters10 (args : Array Value) (w : World) : (callFunc 10 args).run Try.prog w = .ok (.enter 10 args) w := by kernel_rfl
section
variable {w : World} {bt bm n bd bw sz : Nat} {cells : Int} {last : Value} {R : Int → Option Cl} {p1 p2 cap : Nat} {A : Option Addr} {L : List O} {t0 : Int}
set_option maxRecDepth 100000 in
set_option maxHeartbeats 1000000 in
theorem learns1_any (hr : RecAt w bt bm n cells last R sz) (hd : DraftAt w bd bw bt 0 Dt.new false) (h1 : w.cell? ⟨p1, 0, none⟩ = some (.slice A L.length cap)) (h1lt : p1 < w.heap.size) (h2 : Blk w p2 34 #[.int .u64 t0])
    (hL : Ops w A L) (hS : ∀ k, k ∈ blkO A L → k ≠ bd ∧ k ≠ bw) (hp2 : p2 ≠ bd ∧ p2 ≠ bw) (hmw : bm ≠ bw) (hl : L.length ≤ 40) :
    Calls Try.prog 10 #[.iface 64 (.pointer (some ⟨bd, 0, none⟩)), .pointer (some ⟨p1, 0, none⟩), .pointer (some ⟨p2, 0, none⟩)] w fun e w' => e = .returned (.tuple #[]) ∧
      ∃ m s, DraftAt w' bd bw bt m s false ∧ Only [bd, bw, p2] w w' ∧ s = (doL (machD cells R) L 0 Dt.new).2 ∧ Blk w' p2 34 #[.int .u64 (doL (machD cells R) L 0 Dt.new).1] := by
  have cD := do_any (viewD bt bm n bd bw cells last R sz hmw) (cap := cap) hL (by simpa using hS) hl ⟨hr, 0, by omega, hd⟩
  obtain ⟨xx, hxx⟩ : ∃ xx, doL (machD cells R) L 0 Dt.new = xx := ⟨_, rfl⟩
  rw [hxx] at cD ⊢
  clear hxx
  go_enter Try.func10, Try.ntmps10
  go_wp2_with (go_at_call 11; (with_reducible refine cD.mono ?_); clear cD; rintro e w1 ⟨rfl, ⟨k1, hr1, m1, -, hd1⟩, ho1⟩; have h3 := ho1.blk h2 (by simpa using hp2); have hf2 : w1.frozen? ⟨p2, 0, none⟩ = false := h3.frozen _; have c3 : w1.cell? ⟨p2, 0, none⟩ = some (.int .u64 t0) := h3.cell 0)
  go_end0
  have ho2 : Only [p2] w1 (w1.setCell ⟨p2, 0, none⟩ (.int .u64 xx.1)) := (Only.refl _ _).setCell (p := ⟨p2, 0, none⟩) (.inl (by simp)) _
  exact ⟨rfl, m1, _, hd1.only ho2 (by simp; exact fun e => hp2.1 e.symm) (by simp; exact fun e => hp2.2 e.symm), (ho1.more (by simp only [List.mem_cons, List.not_mem_nil, or_false]; omega)).trans (ho2.more (by simp only [List.mem_cons, List.not_mem_nil, or_false]; omega)), rfl, by simpa using h3.set_ 0 (.int .u64 xx.1)⟩
end
end Go.Proofs.Ytbjookkbbdphnaa
