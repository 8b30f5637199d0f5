/- Link of the document's state (layer 10). -/
import Derived.Test.YtffoajakkghlbaaJ18
import Derived.Test.YtffoajakkghlbaaJ4
namespace Go.Proofs.Ytffoajakkghlbaa
open Go.RowKit
theorem nums_cons {w : World} {base : Nat} {t : TypeId} {v : Value} {L : List Int} {x : Int} (h : w.ownsRow base t 1 v (1 + L.length) ([.int .i64 x] ++ L.flatMap irow')) : ∃ A cp, v = .slice A (L.length + 1) cp ∧ RowN w A t irow' 1 (x :: L) := by
  have e : 1 + L.length = (x :: L).length := by simp [Nat.add_comm]
  rw [e] at h
  exact RowN.of_owns (L := x :: L) irow'_len (by simpa [irow'] using h)
section
variable {w : World} {p gs go : Nat} {S : RSt}
set_option maxRecDepth 100000 in
set_option maxHeartbeats 2000000 in
theorem rlink_ok (h : RefM w p gs go S) (hs : S.Short) (a b : Nat) (ha : a < 96) (hb : b < 96) (hab : a ≠ b) (hp : S.par a < 0) :
    Calls Try.prog 45 #[.pointer (some ⟨p, 0, none⟩), .int .i64 a, .int .i64 b] w fun e w' => e = .returned (.int .i64 0) ∧ RefM w' p gs go { S with par := setF S.par a b, kids := setF S.kids b ((a : Int) :: S.kids b) } ∧ Only [gs] w w' := by
  obtain ⟨iI, hi0, hi1, hi2, hi3⟩ := info_parts infoIt
  obtain ⟨cs, c0⟩ := h.cSlots
  have c1 := h.cPar ha
  have f1 := h.frozenS (a * 8 + 6)
  have hpz := h.ltP
  have hgz := h.ltS
  have h1 := h.setPar (by decide) (by decide) (by decide) ha b
  have o1 : Only [gs] w (w.setCell ⟨gs, a * 8 + 6, none⟩ (.int .i64 b)) := (Only.refl _ _).setCell (.inl (by simp)) _
  have sA := Lib.hid (rslot_is (slotOk_yes.2 (show 0 ≤ (a : Int) ∧ (a : Int) < 96 by omega)))
  have sB := Lib.hid (rslot_is (slotOk_yes.2 (show 0 ≤ (b : Int) ∧ (b : Int) < 96 by omega)))
  have hne : ((a : Int) == (b : Int)) = false := by simp; omega
  have HB := Lib.hid (And.intro h1 o1)
  clear h h1 o1
  go_enter Try.func45, Try.ntmps45
  go_wp2_with fail
  (with_reducible refine (sA.out _).mono ?_)
  rintro e w1 ⟨rfl, rfl⟩
  go_wp2_with fail
  (with_reducible refine (sB.out _).mono ?_)
  rintro e w1 ⟨rfl, rfl⟩
  go_upto_region 8 with fail
  clear c0 c1 f1 hpz hgz
  obtain ⟨w2, hw2⟩ : ∃ w2, w2 = w1.setCell ⟨gs, a * 8 + 6, none⟩ (.int .i64 b) := ⟨_, rfl⟩
  rw [← hw2] at HB ⊢
  clear hw2
  obtain ⟨h2, o2⟩ := HB.out
  obtain ⟨cs2, c0⟩ := h2.cSlots
  obtain ⟨A, cp, cK, hR⟩ := h2.cKids hb
  have hpz := h2.ltP
  have hgz := h2.ltS
  have hlen : (S.kids b).length ≤ 500 := hs b
  have hRW := Lib.hid fun W (ho : Only [] w2 W) => hR.only ho (fun _ _ _ => by simp)
  have HH := Lib.hid fun W (ho : Only [] w2 W) => h2.only0 ho
  have hoB : Only [] w2 (w2.drew.alloc (.cells #[.int .i64 a] ItT)) := ((Only.refl [] w2).drewN 1).alloc _
  have hbI : (b : Int) < 96 := by omega
  clear h2 o2 hR
  go_region_law (first | (refine step_append_nums _ (by rfl) _ _ _ (by rfl) w2.heap.size ItT ItT iI (.int .i64 0) Try.underlying30 hi0 hi1 hi2 hi3 rfl w2.heap.size 1 [.int .i64 a] (by rfl) (World.ownsRow_lit w2.drew #[.int .i64 a] 1 (Nat.le_refl _) (by unfold maxLen; omega) rfl) A (S.kids b) cp (by rfl) (hRW.out _ hoB) (by omega) (by omega) (by simp) ?_; intro v5 w5 hrow5 hgrow5; obtain ⟨A5, cp5, rfl, hR5⟩ := nums_cons hrow5; have ho5 := only_grows hoB hgrow5 (fun j hj => by injection hj with hj; omega); have hr5 := HH.out w5 ho5; have hz5 := ho5.size; have k0 := ho5.cell (p := ⟨p, 0, none⟩) hpz (by simp); have k5 := ho5.cell (p := ⟨gs, b * 8 + 7, none⟩) hgz (by simp); rw [c0] at k0; rw [cK] at k5; have f5 := hr5.frozenS (b * 8 + 7)))
  all_goals
    have hend := hr5.setKids (by decide) (by decide) (by decide) hb (v := .slice A5 ((S.kids b).length + 1) cp5) (l := (a : Int) :: S.kids b) ⟨A5, cp5, rfl, hR5⟩
    have hoe := ((HB.out.2.trans (ho5.more (S' := [gs]) (fun _ _ hm => absurd hm (List.not_mem_nil)))).setCell (p := ⟨gs, b * 8 + 7, none⟩) (.inl (by simp)) (.slice A5 ((S.kids b).length + 1) cp5))
    clear hr5 hrow5 hgrow5 hRW HH k0 k5
    go_wp2_with fail
    go_ret
    exact ⟨rfl, hend, hoe⟩
set_option maxRecDepth 100000 in
set_option maxHeartbeats 2000000 in
theorem rlink_any (h : RefM w p gs go S) (hs : S.Short) (a b : Int) :
    Calls Try.prog 45 #[.pointer (some ⟨p, 0, none⟩), .int .i64 a, .int .i64 b] w fun e w' => e = .returned (.int .i64 (linkN S a b)) ∧ RefM w' p gs go (linkS S a b) ∧ Only [gs] w w' := by
  by_cases h1 : slotOk a = false ∨ slotOk b = false
  · have hN : linkN S a b = 2 := by rw [linkN, if_pos h1]
    have hS : linkS S a b = S := by rw [linkS, hN]; rfl
    rw [hN, hS]
    clear hN hS
    have h2 : (slotOk a = false ∨ (slotOk a = true ∧ slotOk b = false)) := by
      rcases h1 with h | h
      · exact .inl h
      · cases slotOk a with
        | false => exact .inl rfl
        | true => exact .inr ⟨rfl, h⟩
    obtain ⟨q, hq⟩ : ∃ q, slotOk b = q := ⟨_, rfl⟩
    rw [hq] at h2
    have sB := Lib.hid (rslot_is hq)
    rcases h2 with h2 | ⟨h2, h3⟩
    · have sA := Lib.hid (rslot_is h2)
      clear h1 h2 hq
      go_enter Try.func45, Try.ntmps45
      go_wp2_with (first | ((with_reducible refine (sA.out _).mono ?_); rintro e w1 ⟨rfl, rfl⟩) | ((with_reducible refine (sB.out _).mono ?_); rintro e w1 ⟨rfl, rfl⟩))
      go_ret
      exact ⟨rfl, h, Only.refl _ _⟩
    · have sA := Lib.hid (rslot_is h2)
      subst h3
      clear h1 h2 hq
      go_enter Try.func45, Try.ntmps45
      go_wp2_with (first | ((with_reducible refine (sA.out _).mono ?_); rintro e w1 ⟨rfl, rfl⟩) | ((with_reducible refine (sB.out _).mono ?_); rintro e w1 ⟨rfl, rfl⟩))
      go_ret
      exact ⟨rfl, h, Only.refl _ _⟩
  have ha : slotOk a = true := by cases hh : slotOk a <;> simp_all
  have hb : slotOk b = true := by cases hh : slotOk b <;> simp_all
  have ia := slotOk_yes.1 ha
  have ib := slotOk_yes.1 hb
  by_cases h2 : a = b ∨ 0 ≤ S.par a
  · have hN : linkN S a b = 10 := by rw [linkN, if_neg h1, if_pos h2]
    have hS : linkS S a b = S := by rw [linkS, hN]; rfl
    rw [hN, hS]
    clear hN hS
    obtain ⟨k, rfl⟩ : ∃ k : Nat, a = k := ⟨a.toNat, by omega⟩
    obtain ⟨cs, c0⟩ := h.cSlots
    have hk : k < 96 := by omega
    have c1 := h.cPar hk
    have hkI : (k : Int) < 96 := by omega
    have sA := Lib.hid (rslot_is ha)
    have sB := Lib.hid (rslot_is hb)
    have h3 : ((k : Int) == b) = true ∨ (((k : Int) == b) = false ∧ 0 ≤ S.par k) := by
      by_cases e : (k : Int) = b
      · exact .inl (by simp [e])
      · exact .inr ⟨by simp [e], by omega⟩
    clear h1 h2 ha hb
    rcases h3 with h3 | ⟨h3, h4⟩
    · go_enter Try.func45, Try.ntmps45
      go_wp2_with (first | ((with_reducible refine (sA.out _).mono ?_); rintro e w1 ⟨rfl, rfl⟩) | ((with_reducible refine (sB.out _).mono ?_); rintro e w1 ⟨rfl, rfl⟩))
      go_ret
      exact ⟨rfl, h, Only.refl _ _⟩
    · go_enter Try.func45, Try.ntmps45
      go_wp2_with (first | ((with_reducible refine (sA.out _).mono ?_); rintro e w1 ⟨rfl, rfl⟩) | ((with_reducible refine (sB.out _).mono ?_); rintro e w1 ⟨rfl, rfl⟩))
      go_ret
      exact ⟨rfl, h, Only.refl _ _⟩
  · have hN : linkN S a b = 0 := by rw [linkN, if_neg h1, if_neg h2]
    rw [linkS, hN, if_pos rfl]
    obtain ⟨k, rfl⟩ : ∃ k : Nat, a = k := ⟨a.toNat, by omega⟩
    obtain ⟨m, rfl⟩ : ∃ m : Nat, b = m := ⟨b.toNat, by omega⟩
    exact rlink_ok h hs k m (by omega) (by omega) (by omega) (by omega)
end
end Go.Proofs.Ytffoajakkghlbaa
