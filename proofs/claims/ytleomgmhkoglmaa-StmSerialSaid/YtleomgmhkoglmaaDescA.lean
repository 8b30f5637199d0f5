/- What Status, Over, Mark, become of package desc do to a descriptor that lies in memory (layer 7). -/
import Derived.Test.YtleomgmhkoglmaaDescM
import Derived.Test.YtleomgmhkoglmaaWordC
namespace Go.Proofs.Ytleomgmhkoglmaa
open Go.RowKit
abbrev DT : TypeId := 100
abbrev ET : TypeId := 113
/-- a descriptor of package desc -/
abbrev DeskAt (w : World) (p : Nat) (A : Option Addr) (cap : Nat) (d : De) : Prop := DescAt w DT ET En.row 5 p A cap d
section
variable {w : World} {p : Nat} {A : Option Addr} {cap : Nat} {d : De}
theorem status_any (h : DeskAt w p A cap d) : Calls Try.prog 50 #[.pointer (some ⟨p, 0, none⟩)] w fun e w' => e = .returned (.int .i64 d.st) ∧ w = w' := by
  have c := h.c2
  go_enter Try.func50, Try.ntmps50
  go_wp2
  go_ret
  exact ⟨rfl, rfl⟩
theorem mark_any (h : DeskAt w p A cap d) : Calls Try.prog 29 #[.pointer (some ⟨p, 0, none⟩)] w fun e w' => e = .returned (.int .i64 d.mark) ∧ w = w' := by
  have c := h.c0
  go_enter Try.func29, Try.ntmps29
  go_wp2
  go_ret
  exact ⟨rfl, rfl⟩
set_option maxHeartbeats 1000000 in
theorem over_any (h : DeskAt w p A cap d) : Calls Try.prog 27 #[.pointer (some ⟨p, 0, none⟩)] w fun e w' => e = .returned (.bool d.over) ∧ ∃ q, w' = w.drewN q := by
  have c1 := h.c1
  have c2 := h.c2
  have c3 := h.c3
  by_cases h0 : d.st = 0
  · have hd : (d.st != 0) = false := by simp [h0]
    have e : d.over = false := by simp [De.over, h0]
    clear h h0
    go_enter Try.func27, Try.ntmps27
    go_wp2
    go_quiet (fail)
    go_wp2
    go_ret
    exact ⟨by rw [e]; rfl, _, rfl⟩
  · have hd : (d.st != 0) = true := by simp [h0]
    have e : d.over = ((d.pos : Int) == (d.L.length : Int)) := by
      rw [Bool.eq_iff_iff]
      simp [De.over, h0]
      omega
    clear h h0
    obtain ⟨b, hb⟩ : ∃ b, ((d.pos : Int) == (d.L.length : Int)) = b := ⟨_, rfl⟩
    rw [hb] at e
    go_enter Try.func27, Try.ntmps27
    go_wp2
    go_quiet (fail)
    go_wp2
    go_ret
    exact ⟨by rw [e]; rfl, _, rfl⟩
theorem become_any (h : DeskAt w p A cap d) (x : Int) (hx : 0 ≤ x ∧ x ≤ 3) : Calls Try.prog 64 #[.pointer (some ⟨p, 0, none⟩), .int .i64 x] w fun e w' =>
    e = .returned (.tuple #[]) ∧ DeskAt w' p A cap { d with st := x, pos := 0 } ∧ Only [p] w w' := by
  have f2 := h.head.frozen 2
  have f3 := h.head.frozen 3
  have c2 := h.c2
  have c3 := h.c3
  go_enter Try.func64, Try.ntmps64
  go_wp2
  go_end0
  have ho : Only [p] w ((w.setCell ⟨p, 2, none⟩ (.int .i64 x)).setCell ⟨p, 3, none⟩ (.int .i64 0)) := ((Only.refl _ _).setCell (by simp) _).setCell (by simp) _
  refine ⟨rfl, h.turn (st := x) (pos := 0) ho (by decide) ?_ ⟨h.ok.mark, hx.1, hx.2, by simp, h.ok.len⟩, ho⟩
  have := (h.head.set_ 2 (.int .i64 x)).set_ 3 (.int .i64 0)
  simpa using this
end
end Go.Proofs.Ytleomgmhkoglmaa
