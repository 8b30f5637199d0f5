/- What Reserve, Release, Put of the document's own store do (layer 1). -/
import Derived.Test.YtgkjkmdenmighaaWordC
namespace Go.Proofs.Ytgkjkmdenmighaa
open Go.RowKit

abbrev RT : TypeId := 34

set_option maxHeartbeats 400000 in
theorem rhas_any (p g : Nat) (s : St) (i : Int) (w : World) (h : StoreAt w RT p g s) :
    Calls Try.prog 30 #[.pointer (some ⟨p, 0, none⟩), .int .i64 i] w fun e w' => e = .returned (.bool (decide (0 ≤ i) && decide (i < s.L.length))) ∧ w = w' := by
  have hc := h.cell0
  have hn := h.ok.len
  clear h
  go_enter Try.func30, Try.ntmps30
  go_wp2
  all_goals go_ret
  · have h : 0 ≤ i := by assumption
    exact ⟨by simp [h], rfl⟩
  · have h : i < 0 := by assumption
    exact ⟨by simp; omega, rfl⟩
theorem rhas_no (p g : Nat) (s : St) (i : Int) (w : World) (h : StoreAt w RT p g s) (hr : i < 0 ∨ (s.L.length : Int) ≤ i) :
    Calls Try.prog 30 #[.pointer (some ⟨p, 0, none⟩), .int .i64 i] w fun e w' => e = .returned (.bool false) ∧ w = w' :=
  (rhas_any p g s i w h).mono fun _ _ ⟨he, hw⟩ => ⟨by rw [he]; congr 2; simp; omega, hw⟩
theorem rhas_yes (p g : Nat) (s : St) (i : Int) (w : World) (h : StoreAt w RT p g s) (hr : ¬ (i < 0 ∨ (s.L.length : Int) ≤ i)) :
    Calls Try.prog 30 #[.pointer (some ⟨p, 0, none⟩), .int .i64 i] w fun e w' => e = .returned (.bool true) ∧ w = w' :=
  (rhas_any p g s i w h).mono fun _ _ ⟨he, hw⟩ => ⟨by rw [he]; congr 2; simp; omega, hw⟩

set_option maxHeartbeats 800000 in
theorem rreserve_any (p g : Nat) (s : St) (i ver mark : Int) (w : World) (h : StoreAt w RT p g s) :
    Calls Try.prog 24 #[.pointer (some ⟨p, 0, none⟩), .int .i64 i, .int .u32 ver, .int .i64 mark] w fun e w' => e = .returned (.int .i64 (rsvI s i ver mark).1) ∧ StoreAt w' RT p g (rsvI s i ver mark).2 ∧ Only [g] w w' := by
  by_cases hr : i < 0 ∨ (s.L.length : Int) ≤ i
  · go_enter Try.func24, Try.ntmps24
    go_wp2_with (go_at_call 30; refine (rhas_no p g s _ _ h hr).mono ?_; rintro e w' ⟨rfl, rfl⟩)
    go_ret
    have hg := St.get_none hr
    exact ⟨by simp [rsvI, hg], by simpa [rsvI, hg] using h, Only.refl _ _⟩
  · obtain ⟨k, c, rfl, hk, hc⟩ := St.get_some hr
    have hcell := h.cell0
    have h0 := h.at0 hc
    have hm := h.at2 hc
    have hv := h.at1 hc
    have hf : w.frozen? ⟨g, k * 3 + 2, none⟩ = false := h.body.frozen _
    have hlen := h.ok.len
    have hp := h.head.lt
    have hg := h.body.lt
    go_enter Try.func24, Try.ntmps24
    go_wp2_with (go_at_call 30; refine (rhas_yes p g s _ _ h hr).mono ?_; rintro e w' ⟨rfl, rfl⟩)
    all_goals go_ret
    all_goals go_light
    all_goals clear hcell hm hv hf
    all_goals (simp only [rsvI, St.get_nat, hc])
    · rw [if_pos (by assumption)]; exact ⟨rfl, h, Only.refl _ _⟩
    · have h1 : (c.ver != ver) = true := by assumption
      rw [if_neg (by omega), if_neg (by omega), if_pos (by simpa using h1)]; exact ⟨rfl, h.only ((Only.refl [] _).alloc _) (by simp) (by simp), (Only.refl _ _).alloc _⟩
    · have h1 : (c.ver != ver) = false := by assumption
      rw [if_neg (by omega), if_neg (by omega), if_neg (by simpa using h1)]
      exact ⟨rfl, (h.put (by decide) hc (c' := { c with mark := mark }) 2 _ (by omega) rfl (h.ok.cells _ c hc)).only ((Only.refl [] _).alloc _) (by simp) (by simp), ((Only.refl _ _).setCell (by simp) _).alloc _⟩
    · have h1 : (c.mark != 0) = true ∧ (c.mark != mark) = true := by assumption
      simp only [bne_iff_ne] at h1
      rw [if_neg (by omega), if_pos h1]; exact ⟨rfl, h.only ((Only.refl [] _).alloc _) (by simp) (by simp), (Only.refl _ _).alloc _⟩
    · have h1 : (c.mark != 0) = false ∨ (c.mark != mark) = false := by assumption
      have h2 : (c.ver != ver) = true := by assumption
      simp only [bne_eq_false_iff_eq] at h1
      rw [if_neg (by omega), if_neg (by omega), if_pos (by simpa using h2)]; exact ⟨rfl, h.only ((Only.refl [] _).alloc _) (by simp) (by simp), (Only.refl _ _).alloc _⟩
    · have h1 : (c.mark != 0) = false ∨ (c.mark != mark) = false := by assumption
      have h2 : (c.ver != ver) = false := by assumption
      simp only [bne_eq_false_iff_eq] at h1
      rw [if_neg (by omega), if_neg (by omega), if_neg (by simpa using h2)]
      exact ⟨rfl, (h.put (by decide) hc (c' := { c with mark := mark }) 2 _ (by omega) rfl (h.ok.cells _ c hc)).only ((Only.refl [] _).alloc _) (by simp) (by simp), ((Only.refl _ _).setCell (by simp) _).alloc _⟩

set_option maxHeartbeats 800000 in
theorem rrelease_any (p g : Nat) (s : St) (i mark : Int) (w : World) (h : StoreAt w RT p g s) :
    Calls Try.prog 23 #[.pointer (some ⟨p, 0, none⟩), .int .i64 i, .int .i64 mark] w fun e w' => e = .returned (.int .i64 (relI s i mark).1) ∧ StoreAt w' RT p g (relI s i mark).2 ∧ Only [g] w w' := by
  by_cases hr : i < 0 ∨ (s.L.length : Int) ≤ i
  · go_enter Try.func23, Try.ntmps23
    go_wp2_with (go_at_call 30; refine (rhas_no p g s _ _ h hr).mono ?_; rintro e w' ⟨rfl, rfl⟩)
    go_ret
    have hg := St.get_none hr
    exact ⟨by simp [relI, hg], by simpa [relI, hg] using h, Only.refl _ _⟩
  · obtain ⟨k, c, rfl, hk, hc⟩ := St.get_some hr
    have hcell := h.cell0
    have hm := h.at2 hc
    have hf : w.frozen? ⟨g, k * 3 + 2, none⟩ = false := h.body.frozen _
    have hlen := h.ok.len
    go_enter Try.func23, Try.ntmps23
    go_wp2_with (go_at_call 30; refine (rhas_yes p g s _ _ h hr).mono ?_; rintro e w' ⟨rfl, rfl⟩)
    all_goals go_ret
    all_goals go_light
    all_goals clear hcell hm hf
    all_goals (simp only [relI, St.get_nat, hc])
    · have h1 : mark < 1 ∨ (c.mark != mark) = true := by assumption
      simp only [bne_iff_ne] at h1
      rw [if_pos h1]; exact ⟨rfl, h, Only.refl _ _⟩
    · have h1 : 1 ≤ mark ∧ (c.mark != mark) = false := by assumption
      simp only [bne_eq_false_iff_eq] at h1
      rw [if_neg (by omega)]
      exact ⟨rfl, h.put (by decide) hc 2 _ (by omega) rfl (h.ok.cells _ c hc), (Only.refl _ _).setCell (by simp) _⟩
    · rw [if_pos (by omega)]; exact ⟨rfl, h, Only.refl _ _⟩

set_option maxHeartbeats 1000000 in
theorem rput_any (p g : Nat) (s : St) (i mark v : Int) (w : World) (h : StoreAt w RT p g s) :
    Calls Try.prog 22 #[.pointer (some ⟨p, 0, none⟩), .int .i64 i, .int .i64 mark, .int .u64 v] w fun e w' => e = .returned (.int .i64 (putI s i mark v).1) ∧ StoreAt w' RT p g (putI s i mark v).2 ∧ Only [g] w w' := by
  by_cases hr : i < 0 ∨ (s.L.length : Int) ≤ i
  · go_enter Try.func22, Try.ntmps22
    go_wp2_with (go_at_call 30; refine (rhas_no p g s _ _ h hr).mono ?_; rintro e w' ⟨rfl, rfl⟩)
    go_ret
    have hg := St.get_none hr
    exact ⟨by simp [putI, hg], by simpa [putI, hg] using h, Only.refl _ _⟩
  · obtain ⟨k, c, rfl, hk, hc⟩ := St.get_some hr
    have hcell := h.cell0
    have hl := h.cell1
    have h0 := h.at0 hc
    have h1 := h.at1 hc
    have h2 := h.at2 hc
    have hf0 : w.frozen? ⟨g, k * 3, none⟩ = false := h.body.frozen _
    have hf1 : w.frozen? ⟨g, k * 3 + 1, none⟩ = false := h.body.frozen _
    have hf2 : w.frozen? ⟨g, k * 3 + 2, none⟩ = false := h.body.frozen _
    have hlen := h.ok.len
    obtain ⟨hv0, hv1⟩ := h.ok.cells _ _ hc
    have hv2 := h.ok.lim1
    have hne := h.ne (by decide)
    have hne' := hne.symm
    by_cases hm : mark < 1 ∨ c.mark ≠ mark
    · have e : putI s k mark v = (12, s) := by simp only [putI, St.get_nat, hc]; rw [if_pos hm]
      have E := Lib.hid e
      clear e
      by_cases hm1 : mark < 1
      · go_enter Try.func22, Try.ntmps22
        go_wp2_with (go_at_call 30; refine (rhas_yes p g s _ _ h hr).mono ?_; rintro e w' ⟨rfl, rfl⟩)
        go_ret
        rw [E.out]
        exact ⟨rfl, h, Only.refl _ _⟩
      · have hd : (c.mark != mark) = true := by simp; omega
        clear hm
        go_enter Try.func22, Try.ntmps22
        go_wp2_with (go_at_call 30; refine (rhas_yes p g s _ _ h hr).mono ?_; rintro e w' ⟨rfl, rfl⟩)
        go_ret
        rw [E.out]
        exact ⟨rfl, h, Only.refl _ _⟩
    · have hd1 : ¬ mark < 1 := by omega
      have hd2 : (c.mark != mark) = false := by simp; omega
      have HM := Lib.hid hm
      clear hm
      by_cases hL : c.ver = s.lim
      · have hd : (c.ver == s.lim) = true := by simpa using hL
        have HL := Lib.hid hL
        clear hL
        go_enter Try.func22, Try.ntmps22
        go_wp2_with (go_at_call 30; refine (rhas_yes p g s _ _ h hr).mono ?_; rintro e w' ⟨rfl, rfl⟩)
        go_quiet (fail)
        go_wp2
        go_ret
        go_light
        have e : putI s k mark v = (11, s) := by simp only [putI, St.get_nat, hc]; rw [if_neg HM.out, if_pos HL.out]
        rw [e]
        exact ⟨rfl, h.drewN _, (Only.refl _ _).drewN _⟩
      · have hd : (c.ver == s.lim) = false := by simpa using hL
        have hlt : c.ver < s.lim := by omega
        have hn : c.ver + 1 ≤ 4294967295 := by omega
        clear hL
        go_enter Try.func22, Try.ntmps22
        go_wp2_with (go_at_call 30; refine (rhas_yes p g s _ _ h hr).mono ?_; rintro e w' ⟨rfl, rfl⟩)
        go_quiet (fail)
        go_wp2
        go_region
        all_goals go_wp2
        go_ret
        go_light
        have e : putI s k mark v = (0, s.put k ⟨v, c.ver + 1, 0⟩) := by simp only [putI, St.get_nat, hc]; rw [if_neg HM.out, if_neg (by omega)]
        rw [e]
        refine ⟨rfl, ?_, ((((((Only.refl _ _).drewN _).setCell (by simp) _).setCell (by simp) _).setCell (by simp) _).drew)⟩
        have g1 := (h.drewN nq).put (by decide) hc (c' := ⟨c.v, c.ver, 0⟩) 2 (.int .i64 0) (by omega) rfl (h.ok.cells _ c hc)
        have g2 := g1.put (by decide) (St.put_at hc) (c' := ⟨v, c.ver, 0⟩) 0 (.int .u64 v) (by omega) rfl (h.ok.cells _ c hc)
        have g3 := g2.put (by decide) (St.put_at (St.put_at hc)) (c' := ⟨v, c.ver + 1, 0⟩) 1 (.int .u32 (c.ver + 1)) (by omega) rfl ⟨by simp; omega, by simp [St.put]; omega⟩
        rw [St.put_put, St.put_put] at g3
        exact ⟨g3.head, g3.body, g3.ok⟩

end Go.Proofs.Ytgkjkmdenmighaa
