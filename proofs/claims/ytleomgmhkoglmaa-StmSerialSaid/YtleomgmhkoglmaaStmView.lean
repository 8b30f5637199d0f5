/- A record's view and plain words, as views that a function of deeds runs on (layers 5, 6). -/
import Derived.Test.YtleomgmhkoglmaaTxDo
import Derived.Test.YtleomgmhkoglmaaTxRunB
import Derived.Test.YtleomgmhkoglmaaPlain
namespace Go.Proofs.Ytleomgmhkoglmaa
open Go.RowKit Go.Maps
theorem meth_dread (n : Nat) (v : Value) (w : World) : Sem.run Try.prog (method (n + 1) 104 v "Read") w = .ok (113, v) w := by kernel_rfl
theorem meth_dwrite (n : Nat) (v : Value) (w : World) : Sem.run Try.prog (method (n + 1) 104 v "Write") w = .ok (114, v) w := by kernel_rfl
theorem nil_dwrite (n : Nat) (a : Addr) (w : World) : Sem.run Try.prog (nilAhead (n + 1) 104 (.pointer (some a)) "Write") w = .ok (some false) w := by kernel_rfl
theorem nil_dread (n : Nat) (a : Addr) (w : World) : Sem.run Try.prog (nilAhead (n + 1) 104 (.pointer (some a)) "Read") w = .ok (some false) w := by kernel_rfl
/-- a run's view, with room for k writes of 40 -/
def MemD (bt bm n bd bw : Nat) (cells : Int) (last : Value) (R : Int → Option Cl) (sz : Nat) (k : Nat) (w : World) (s : Dt) : Prop :=
  RecAt w bt bm n cells last R sz ∧ ∃ m, m + k ≤ 40 ∧ DraftAt w bd bw bt m s false
theorem enterDR (args : Array Value) (w : World) : (callFunc 113 args).run Try.prog w = .ok (.enter 113 args) w := by kernel_rfl
theorem enterDW (args : Array Value) (w : World) : (callFunc 114 args).run Try.prog w = .ok (.enter 114 args) w := by kernel_rfl
theorem viewD (bt bm n bd bw : Nat) (cells : Int) (last : Value) (R : Int → Option Cl) (sz : Nat) (hmw : bm ≠ bw) :
    ViewOk (machD cells R) 104 (.pointer (some ⟨bd, 0, none⟩)) 113 114 (MemD bt bm n bd bw cells last R sz) [bd, bw] where
  mR := fun n w => meth_dread n _ w
  mW := fun n w => meth_dwrite n _ w
  nR := fun n w => nil_dread n _ w
  nW := fun n w => nil_dwrite n _ w
  eR := enterDR
  eW := enterDW
  rd := fun k w s i ⟨hr, m, hm, hd⟩ => (dread_any hr hd i).mono fun e w' ⟨he, hd', ho⟩ => by
    have hne := hr.ne hd
    exact ⟨he, ⟨hr.only ho (by simp; exact hne.2.2.1) (by simp; exact fun e => hne.2.2.2.2 e.symm), m, hm, hd'⟩, ho.more (by simp +contextual)⟩
  wr := fun k w s i x ⟨hr, m, hm, hd⟩ => (dwrite_any hr hd i x (by unfold maxLen; omega)).mono fun e w' ⟨he, hd', ho⟩ => by
    have hne := hr.ne hd
    exact ⟨he, ⟨hr.only ho (by simp; exact ⟨hne.2.2.1, hne.2.1⟩) (by simp; exact ⟨fun e => hne.2.2.2.2 e.symm, hmw⟩), m + 1, by omega, hd'⟩, ho⟩
  less := fun k j w s ⟨hr, m, hm, hd⟩ hj => ⟨hr, m, by omega, hd⟩
  drew := fun k w s ⟨hr, m, hm, hd⟩ => ⟨hr.drewN 1, m, hm, hd.drewN 1⟩
theorem meth_pread (n : Nat) (v : Value) (w : World) : Sem.run Try.prog (method (n + 1) 40 v "Read") w = .ok (16, v) w := by kernel_rfl
theorem meth_pwrite (n : Nat) (v : Value) (w : World) : Sem.run Try.prog (method (n + 1) 40 v "Write") w = .ok (110, v) w := by kernel_rfl
theorem nil_pread (n : Nat) (v : Value) (w : World) : Sem.run Try.prog (nilAhead (n + 1) 40 v "Read") w = .ok (some false) w := by kernel_rfl
theorem nil_pwrite (n : Nat) (v : Value) (w : World) : Sem.run Try.prog (nilAhead (n + 1) 40 v "Write") w = .ok (some false) w := by kernel_rfl
theorem enterPR (args : Array Value) (w : World) : (callFunc 16 args).run Try.prog w = .ok (.enter 16 args) w := by kernel_rfl
theorem enterPW (args : Array Value) (w : World) : (callFunc 110 args).run Try.prog w = .ok (.enter 110 args) w := by kernel_rfl
/-- plain words of one's own -/
def MemP (g nn : Nat) (t : TypeId) (_ : Nat) (w : World) (L : List Int) : Prop := L.length = nn ∧ RowU w g t L
theorem viewP (g nn cap : Nat) (t : TypeId) :
    ViewOk machP 40 (.slice (some ⟨g, 0, none⟩) nn cap) 16 110 (MemP g nn t) [g] where
  mR := fun n w => meth_pread n _ w
  mW := fun n w => meth_pwrite n _ w
  nR := fun n w => nil_pread n _ w
  nW := fun n w => nil_pwrite n _ w
  eR := enterPR
  eW := enterPW
  rd := fun k w L i ⟨hl, hr⟩ => by
    subst hl
    exact (pread_any cap w hr.wds i).mono fun e w' ⟨he, hw⟩ => by subst hw; exact ⟨he, ⟨rfl, hr⟩, Only.refl _ _⟩
  wr := fun k w L i x ⟨hl, hr⟩ => by
    subst hl
    exact (pwrite_any cap w hr i x).mono fun e w' ⟨he, hw⟩ => by subst hw; exact ⟨he, ⟨setL_length L i x, hr.wr i x⟩, wrW_only _ _ _ _ _⟩
  less := fun k j w L h _ => h
  drew := fun k w L ⟨hl, hr⟩ => ⟨hl, hr.drewN 1⟩
end Go.Proofs.Ytleomgmhkoglmaa
