/- What a step of package desc does (layer 7). -/
import Derived.Test.YtleomgmhkoglmaaDescRel
import Derived.Test.YtleomgmhkoglmaaDescRsv
namespace Go.Proofs.Ytleomgmhkoglmaa
open Go.RowKit
section
variable {w : World} {p ps g : Nat} {A : Option Addr} {cap : Nat} {d : De} {s : St}
set_option maxRecDepth 100000 in
set_option maxHeartbeats 2000000 in
theorem step_desk (h : DeskAt w p A cap d) (hs : StoreAt w WT ps g s) :
    Calls Try.prog 59 #[.pointer (some ⟨p, 0, none⟩), .pointer (some ⟨ps, 0, none⟩)] w fun r w' =>
      r = .returned (.int .i64 (stepD d s).1) ∧ DeskAt w' p A cap (stepD d s).2.1 ∧ StoreAt w' WT ps g (stepD d s).2.2 ∧ Only [p, g] w w' := by
  have cO := over_any h
  have hov : d.over = (d.st != 0 && d.pos == d.L.length) := rfl
  have H := Lib.hid (And.intro h hs)
  have hpl := h.ok.pos
  have hll := h.ok.len
  clear h hs
  by_cases ho : d.over = true
  · rw [ho] at cO
    have hR : stepD d s = (0, d, s) := by
      simp [hov] at ho
      have hn : d.L[d.pos]? = none := List.getElem?_eq_none (by omega)
      simp only [stepD, hn]
      rw [if_neg ho.1]
    clear hov ho
    go_enter Try.func59, Try.ntmps59
    go_wp2_with (go_at_call 27; (with_reducible refine cO.mono ?_); clear cO; rintro r w1 ⟨rfl, q, hw⟩; have hE : Only [] w w1 := (by rw [hw]; exact (Only.refl _ _).drewN _); clear hw)
    go_ret
    rw [hR]
    exact ⟨rfl, H.out.1.only0 hE, H.out.2.only hE (by simp) (by simp), hE.in0⟩
  · replace ho : d.over = false := by simpa using ho
    rw [ho] at cO
    rw [hov] at ho
    clear hov
    go_enter Try.func59, Try.ntmps59
    go_wp2_with (go_at_call 27; (with_reducible refine cO.mono ?_); clear cO; rintro r w1 ⟨rfl, q, hw⟩; have hE : Only [] w w1 := (by rw [hw]; exact (Only.refl _ _).drewN _); have h1 := H.out.1.only0 hE; have hs1 := H.out.2.only hE (by simp) (by simp); clear hw; have c1 := h1.c1; have c2 := h1.c2; have c3 := h1.c3)
    · -- its entries are gone through once more
      have h0 : d.st ≠ 0 := by
        have h : (d.st != 0) = true := by assumption
        simpa using h
      have hk : d.pos < d.L.length := by
        simp [h0] at ho
        omega
      obtain ⟨e, he⟩ : ∃ e, d.L[d.pos]? = some e := ⟨_, List.getElem?_eq_getElem hk⟩
      have hR : stepD d s = (0, { d with pos := d.pos + 1 }, relD d e s) := by
        simp only [stepD, he]
        rw [if_neg h0]
      refine (release_desk h1 hs1 he h0).mono ?_
      rintro r w2 ⟨rfl, h2, hs2, ho2⟩
      clear c1 c2 c3 H h1 hs1
      go_wp2_with fail
      go_ret
      rw [hR]
      exact ⟨rfl, h2, hs2, hE.in0.trans ho2⟩
    · have h0 : d.st = 0 := by
        have h : (d.st != 0) = false := by assumption
        simpa using h
      by_cases hk : d.pos < d.L.length
      · obtain ⟨e, he⟩ : ∃ e, d.L[d.pos]? = some e := ⟨_, List.getElem?_eq_getElem hk⟩
        have hR : stepD d s = rsvD d e s := by
          simp only [stepD, he]
          rw [if_pos h0]
        have hb : ((d.pos : Int) == (d.L.length : Int)) = false := by simp; omega
        obtain ⟨wo, hwo⟩ : ∃ x, x = w1 := ⟨_, rfl⟩
        clear ho
        go_big_quiet (fail)
        have cR := reserve_desk (h1.drewN nq) (hs1.drewN nq) he
        clear c1 c2 c3 H h1 hs1 hwo
        go_wp2_with fail
        refine cR.mono ?_
        clear cR
        rintro r w2 ⟨rfl, h2, hs2, ho2⟩
        go_wp2_with fail
        go_ret
        rw [hR]
        exact ⟨rfl, h2, hs2, (hE.drewN nq).in0.trans ho2⟩
      · have hn : d.L[d.pos]? = none := List.getElem?_eq_none (by omega)
        have hR : stepD d s = (0, { d with st := 1, pos := 0 }, s) := by
          simp only [stepD, hn]
          rw [if_pos h0]
        have hb : ((d.pos : Int) == (d.L.length : Int)) = true := by simp; omega
        clear ho
        go_big_quiet (fail)
        have cR := become_any (h1.drewN nq) 1 (by decide)
        have HX := Lib.hid (And.intro h1 hs1)
        clear c1 c2 c3 H h1 hs1
        go_wp2_with fail
        refine cR.mono ?_
        clear cR
        rintro r w2 ⟨rfl, h2, ho2⟩
        go_wp2_with fail
        go_ret
        rw [hR]
        obtain ⟨h1, hs1⟩ := HX.out
        exact ⟨rfl, h2, (hs1.drewN nq).only ho2 (by simp; rintro rfl; exact absurd (hs1.head.uniq h1.head).1 (by decide)) (by simp; rintro rfl; exact absurd (hs1.body.uniq h1.head).1 (by decide)), (hE.drewN nq).in0.trans ho2.inl⟩
end
end Go.Proofs.Ytleomgmhkoglmaa
