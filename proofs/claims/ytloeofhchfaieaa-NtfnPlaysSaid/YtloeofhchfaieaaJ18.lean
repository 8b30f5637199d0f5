/- What the document's or answers (layers 16 to 23): the bits of two numbers of 16 bits. -/
import Derived.Test.YtloeofhchfaieaaJ11
import Derived.Test.YtloeofhchfaieaaRows
import Derived.WalkKit
import Derived.WalkSpells
import Derived.WalkLawsBesides
import Derived.Handy
import Derived.BigQuiet
import Derived.Deep.QuietTactic
import Derived.RegionTactic
import Derived.Lib.Hide
import Derived.Test.YtloeofhchfaieaaRefPop
import Derived.Test.YtloeofhchfaieaaNtM
namespace Go.Proofs.Ytloeofhchfaieaa
open Go.RowKit
set_option maxRecDepth 100000 in
theorem ror_any (a b : Int) (ha : 0 ≤ a ∧ a < 65536) (hb : 0 ≤ b ∧ b < 65536) (w : World) : Calls Try.prog 28 #[.int .i64 a, .int .i64 b] w fun e w' => e = .returned (.int .i64 (orI a b)) ∧ w' = w := by
  obtain ⟨ha0, ha1⟩ := ha
  obtain ⟨hb0, hb1⟩ := hb
  go_enter Try.func28, Try.ntmps28
  go_wp2_with fail
  go_loopw [5, 6] (fun nv pv wr => ∃ j : Nat, j ≤ 16 ∧ nv = .int .i64 (lowI a b j) ∧ pv = .int .i64 ((2 ^ j : Nat) : Int) ∧ wr = w) (fun _ pv _ => 131072 - (intOf pv).toNat)
  case atStart => exact ⟨0, by omega, by rw [lowI_zero], rfl, rfl⟩
  case round =>
    obtain ⟨j, hj, rfl, rfl, rfl⟩ := hrel
    have hn := lowI_rng (a := a) (b := b) (j := j)
    obtain ⟨q, hq⟩ : ∃ q : Nat, 2 ^ j = q := ⟨_, rfl⟩
    obtain ⟨n, hnn⟩ : ∃ n, lowI a b j = n := ⟨_, rfl⟩
    have hs := lowI_succ (a := a) (b := b) (j := j) ha0 hb0
    have hq0 : 0 < q := by rw [← hq]; exact Nat.two_pow_pos j
    rw [hq, hnn] at hs hn
    rw [hq, hnn]
    by_cases h16 : j < 16
    · have hq1 : q ≤ 32768 := by
        rw [← hq]
        exact (Nat.pow_le_pow_right (by decide) (show j ≤ 15 by omega) : 2 ^ j ≤ 2 ^ 15)
      have hqs : 2 ^ (j + 1) = 2 * q := by rw [Nat.pow_succ, hq, Nat.mul_comm]
      have hq2 : (q : Int) < 65536 := by omega
      have hq3 : (0 : Int) < (q : Int) := by omega
      have hq4 : ¬ (q : Int) = 0 := by omega
      have hn0 := hn.1
      have hn1 := hn.2
      have bit : ∀ c : Int, 0 ≤ c → c < 65536 → ∃ d x, c.tdiv (q : Int) = d ∧ 0 ≤ d ∧ d < 65536 ∧ d.tmod 2 = x ∧ (c / (q : Int)) % 2 = x ∧ (x = 0 ∨ x = 1) := fun c h0 h1 => by
        have e1 : c.tdiv (q : Int) = c / (q : Int) := Int.tdiv_eq_ediv_of_nonneg h0
        have e2 : 0 ≤ c / (q : Int) := Int.ediv_nonneg h0 (by omega)
        have e3 : c / (q : Int) ≤ c := Int.ediv_le_self (q : Int) h0
        have e4 : (c / (q : Int)).tmod 2 = (c / (q : Int)) % 2 := Int.tmod_eq_emod_of_nonneg e2
        exact ⟨_, _, rfl, by rw [e1]; exact e2, by rw [e1]; omega, rfl, by rw [e1, e4], by rw [e1, e4]; omega⟩
      obtain ⟨da, xa, a1, a2, a3, a4, a5, a6⟩ := bit a ha0 ha1
      obtain ⟨db, xb, b1, b2, b3, b4, b5, b6⟩ := bit b hb0 hb1
      rw [a5, b5] at hs
      have H := Lib.hid (And.intro hs (And.intro hq hqs))
      have hwn : IntKind.i64.wrap (n + (q : Int)) = n + (q : Int) := IntWalk.i64_in _ (by omega)
      have hwq : IntKind.i64.wrap (2 * (q : Int)) = 2 * (q : Int) := IntWalk.i64_in _ (by omega)
      have hwa : IntKind.i64.wrap da = da := IntWalk.i64_in _ (by omega)
      have hwb : IntKind.i64.wrap db = db := IntWalk.i64_in _ (by omega)
      clear hs hq hqs hnn hn bit a5 b5
      have hend : ∀ v : Int, lowI a b (j + 1) = v → (∃ j' : Nat, j' ≤ 16 ∧ Value.int .i64 v = .int .i64 (lowI a b j') ∧ Value.int .i64 (2 * (q : Int)) = .int .i64 ((2 ^ j' : Nat) : Int) ∧ True) ∧ 131072 - (intOf (Value.int .i64 (2 * (q : Int)))).toNat < 131072 - (intOf (Value.int .i64 (q : Int))).toNat := fun v hv => by
        refine ⟨⟨j + 1, by omega, by rw [hv], by rw [H.out.2.2]; rfl, trivial⟩, ?_⟩
        simp only [intOf]
        omega
      have HEND := Lib.hid hend
      clear hend
      rcases a6 with rfl | rfl
      · rcases b6 with rfl | rfl
        · go_wp2_with fail
          exact HEND.out _ (by have := H.out.1; simpa using this)
        · go_wp2_with fail
          exact HEND.out _ (by have := H.out.1; simpa using this)
      · go_wp2_with fail
        exact HEND.out _ (by have := H.out.1; simpa using this)
    · obtain rfl : j = 16 := by omega
      have hq6 : q = 65536 := by rw [← hq]
      have hno : n = orI a b := by rw [← hnn]; exact lowI_all ⟨ha0, ha1⟩ ⟨hb0, hb1⟩
      have HN := Lib.hid hno
      have hq2 : ¬ (q : Int) < 65536 := by omega
      clear hs hn hnn hq hq6 hno hq0
      go_wp2_with fail
      go_ret
      exact ⟨by rw [HN.out]; rfl, rfl⟩
end Go.Proofs.Ytloeofhchfaieaa
/- What the document's Signal does, Wait answers and does (layer 16 and up). -/
namespace Go.Proofs.Ytloeofhchfaieaa
open Go.RowKit
section
variable {w w' : World} {p gs go : Nat} {S : RSt}
set_option maxRecDepth 100000 in
theorem rsignal_told (h : RefM w p gs go S) {o : Nat} (ho : o < 32) {t : Nat} (ht : t < 32) {tl : List Int} (hq : (S.ob o).queue = (t : Int) :: tl) (hql : tl.length ≤ 900) (b : Int) :
    Calls Try.prog 10 #[.pointer (some ⟨p, 0, none⟩), .int .i64 o, .int .i64 b] w fun e w' => e = .returned (.tuple #[]) ∧ RefM w' p gs go (sigS S o b) ∧ Only [go] w w' := by
  rw [sigS_cons hq]
  have cP := rpop_is h ho hq hql
  have h0 : (0 : Int) ≤ (t : Int) := by omega
  clear hq h
  go_enter Try.func10, Try.ntmps10
  go_wp2_with fail
  (with_reducible refine cP.mono ?_)
  clear cP
  rintro e w1 ⟨rfl, hr1, ho1⟩
  have cW := rwake_any hr1 ht b 0
  clear hr1
  go_wp2_with fail
  (with_reducible refine cW.mono ?_)
  clear cW
  rintro e w2 ⟨rfl, hr2, ho2⟩
  go_wp2_with fail
  refine bodyPost_ret (results_none rfl _ _ _) rfl ?_
  exact ⟨rfl, hr2, ho1.trans ho2⟩
set_option maxRecDepth 100000 in
set_option maxHeartbeats 4000000 in
theorem rsignal_none (h : RefM w p gs go S) {o : Nat} (ho : o < 32) (hq : (S.ob o).queue = []) {b : Int} (hb : 0 ≤ b ∧ b < 65536) (hwd : 0 ≤ (S.ob o).word ∧ (S.ob o).word < 65536) :
    Calls Try.prog 10 #[.pointer (some ⟨p, 0, none⟩), .int .i64 o, .int .i64 b] w fun e w' => e = .returned (.tuple #[]) ∧ RefM w' p gs go (sigS S o b) ∧ Only [go] w w' := by
  rw [sigS_nil hq]
  have cP := rpop_none h ho hq
  have h0 : (0 : Int) ≤ (o : Int) := by omega
  have h1 : (o : Int) < 32 := by omega
  obtain ⟨co, c1⟩ := h.cObjs
  obtain ⟨A, cp, hcO, -⟩ := h.obj ho
  obtain ⟨wd, hwv⟩ : ∃ wd, (S.ob (o : Int)).word = wd := ⟨_, rfl⟩
  have c8 : w.cell? ⟨go, o * 32 + 7, none⟩ = some (.int .i64 wd) := hwv ▸ hcO 7 _ rfl
  obtain ⟨v7, -, f7⟩ := h.fld (j := 7) ho (by omega)
  rw [hwv] at hwd ⊢
  have cR := Lib.hid fun (W : World) => ror_any wd b hwd hb W
  have hlp := h.ltP
  have hlo := h.ltO
  have HK := Lib.hid fun (W : World) (q : Only [] w W) => And.intro ((q.cell (p := ⟨p, 1, none⟩) hlp (by simp)).trans c1) (And.intro ((q.cell (p := ⟨go, o * 32 + 7, none⟩) hlo (by simp)).trans c8) ((q.frozen (p := ⟨go, o * 32 + 7, none⟩) hlo (by simp)).trans f7))
  have HS := Lib.hid fun (W : World) (q : Only [] w W) => And.intro (HK.out W q).1 (HK.out W q).2.1
  have HE := Lib.hid fun (W : World) (q : Only [] w W) => And.intro ((h.only0 q).setF1 ho (j := 7) (by omega) (.int .i64 (orI wd b)) (fun x => { x with word := orI wd b }) (fun _ _ => rfl) (fun _ => rfl)).1 ((q.trans0 (((Only.refl [go] W).setCell (.inl (by simp)) (.int .i64 (orI wd b)) : Only [go] W (W.setCell ⟨go, o * 32 + 7, none⟩ (.int .i64 (orI wd b)))))))
  clear h hcO c1 c8 f7 hwv hq hwd hb
  go_enter Try.func10, Try.ntmps10
  go_upto_region 3 with ((with_reducible refine cP.mono ?_); clear cP; rintro e w1 ⟨rfl, hw⟩; subst hw)
  refine wp_region_last (S := fun W => W.cell? ⟨p, 1, none⟩ = some (.slice (some ⟨go, 0, none⟩) 32 co) ∧ W.cell? ⟨go, o * 32 + 7, none⟩ = some (.int .i64 wd)) 17 (by kernel_rfl) rfl (by kernel_rfl) (by kernel_rfl) (HS.out _ ((Only.refl [] w1).drewN 1)) (fun hHeld => ?_)
  refine wpAnyH_take (i := 0) (v := ?_) rfl (by kernel_rfl) (by kernel_rfl) (by kernel_rfl) (fun _ _ _ h => h) (Or.inl ⟨by rfl, ?_⟩) (by assumption) ?_
  rotate_left
  · intro w hSw
    try dsimp only at hSw
    go_simp
    all_goals with_reducible rfl
  simp only [Act.put, List.setIfInBounds_toArray, List.set_cons_zero, List.set_cons_succ]
  refine wpAnyH_take (i := 1) (v := ?_) rfl (by kernel_rfl) (by kernel_rfl) (by kernel_rfl) (fun _ _ _ h => h) (Or.inl ⟨by rfl, ?_⟩) (by assumption) ?_
  rotate_left
  · intro w hSw
    try dsimp only at hSw
    go_simp
    all_goals with_reducible rfl
  simp only [Act.put, List.setIfInBounds_toArray, List.set_cons_zero, List.set_cons_succ]
  refine wpAnyH_take (i := 2) (v := ?_) rfl (by kernel_rfl) (by kernel_rfl) (by kernel_rfl) (fun _ _ _ h => h) (Or.inl ⟨by rfl, ?_⟩) (by assumption) ?_
  rotate_left
  · intro w hSw
    try dsimp only at hSw
    go_simp
    all_goals with_reducible rfl
  simp only [Act.put, List.setIfInBounds_toArray, List.set_cons_zero, List.set_cons_succ]
  refine wpAnyH_take (i := 3) (v := ?_) rfl (by kernel_rfl) (by kernel_rfl) (by kernel_rfl) (fun _ _ _ h => h) (Or.inl ⟨by rfl, ?_⟩) (by assumption) ?_
  rotate_left
  · intro w hSw
    try dsimp only at hSw
    go_simp
    all_goals with_reducible rfl
  simp only [Act.put, List.setIfInBounds_toArray, List.set_cons_zero, List.set_cons_succ]
  refine wpAnyH_take (i := 4) (v := ?_) rfl (by kernel_rfl) (by kernel_rfl) (by kernel_rfl) (fun _ _ _ h => h) (Or.inl ⟨by rfl, ?_⟩) (by assumption) ?_
  rotate_left
  · intro w hSw
    try dsimp only at hSw
    go_simp
    all_goals with_reducible rfl
  simp only [Act.put, List.setIfInBounds_toArray, List.set_cons_zero, List.set_cons_succ]
  refine wpAnyH_take (i := 5) (v := ?_) rfl (by kernel_rfl) (by kernel_rfl) (by kernel_rfl) (fun _ _ _ h => h) (Or.inl ⟨by rfl, ?_⟩) (by assumption) ?_
  rotate_left
  · intro w hSw
    try dsimp only at hSw
    go_simp
    all_goals with_reducible rfl
  simp only [Act.put, List.setIfInBounds_toArray, List.set_cons_zero, List.set_cons_succ]
  refine wpAnyH_take (i := 6) (v := ?_) rfl (by kernel_rfl) (by kernel_rfl) (by kernel_rfl) (fun _ _ _ h => h) (Or.inl ⟨by rfl, ?_⟩) (by assumption) ?_
  rotate_left
  · intro w hSw
    try dsimp only at hSw
    go_simp
    all_goals with_reducible rfl
  simp only [Act.put, List.setIfInBounds_toArray, List.set_cons_zero, List.set_cons_succ]
  refine wpAnyH_take (i := 7) (v := ?_) rfl (by kernel_rfl) (by kernel_rfl) (by kernel_rfl) (fun _ _ _ h => h) (Or.inl ⟨by rfl, ?_⟩) (by assumption) ?_
  rotate_left
  · intro w hSw
    try dsimp only at hSw
    go_simp
    all_goals with_reducible rfl
  simp only [Act.put, List.setIfInBounds_toArray, List.set_cons_zero, List.set_cons_succ]
  refine wpAnyH_take (i := 8) (v := ?_) rfl (by kernel_rfl) (by kernel_rfl) (by kernel_rfl) (fun _ _ _ h => h) (Or.inl ⟨by rfl, ?_⟩) (by assumption) ?_
  rotate_left
  · intro w hSw
    try dsimp only at hSw
    go_simp
    all_goals with_reducible rfl
  simp only [Act.put, List.setIfInBounds_toArray, List.set_cons_zero, List.set_cons_succ]
  refine wpAnyH_take (i := 9) (v := ?_) rfl (by kernel_rfl) (by kernel_rfl) (by kernel_rfl) (fun _ _ _ h => h) (Or.inl ⟨by rfl, ?_⟩) (by assumption) ?_
  rotate_left
  · intro w hSw
    try dsimp only at hSw
    go_simp
    all_goals with_reducible rfl
  simp only [Act.put, List.setIfInBounds_toArray, List.set_cons_zero, List.set_cons_succ]
  refine wpAnyH_take (i := 10) (v := ?_) rfl (by kernel_rfl) (by kernel_rfl) (by kernel_rfl) (fun _ _ _ h => h) (Or.inl ⟨by rfl, ?_⟩) (by assumption) ?_
  rotate_left
  · intro w hSw
    try dsimp only at hSw
    go_simp
    all_goals with_reducible rfl
  simp only [Act.put, List.setIfInBounds_toArray, List.set_cons_zero, List.set_cons_succ]
  refine wpAnyH_take (i := 11) (v := ?_) rfl (by kernel_rfl) (by kernel_rfl) (by kernel_rfl) (fun _ _ _ h => h) (Or.inl ⟨by rfl, ?_⟩) (by assumption) ?_
  rotate_left
  · intro w hSw
    try dsimp only at hSw
    go_simp
    all_goals with_reducible rfl
  simp only [Act.put, List.setIfInBounds_toArray, List.set_cons_zero, List.set_cons_succ]
  refine wpAnyH_take (i := 12) (v := ?_) rfl (by kernel_rfl) (by kernel_rfl) (by kernel_rfl) (fun _ _ _ h => h) (Or.inl ⟨by rfl, ?_⟩) (by assumption) ?_
  rotate_left
  · intro w hSw
    try dsimp only at hSw
    go_simp
    all_goals with_reducible rfl
  simp only [Act.put, List.setIfInBounds_toArray, List.set_cons_zero, List.set_cons_succ]
  refine wpAnyH_take (i := 13) (v := ?_) rfl (by kernel_rfl) (by kernel_rfl) (by kernel_rfl) (fun _ _ _ h => h) (Or.inl ⟨by rfl, ?_⟩) (by assumption) ?_
  rotate_left
  · intro w hSw
    try dsimp only at hSw
    go_simp
    all_goals with_reducible rfl
  simp only [Act.put, List.setIfInBounds_toArray, List.set_cons_zero, List.set_cons_succ]
  refine wpAnyH_ready (rs := [14]) (by kernel_rfl) (by simp) ?_
  refine AllReadyH.cons rfl (fun K1 hK1 => ?_) AllReadyH.nil
  · go_simp
    go_at_call 28
    (with_reducible refine (cR.out _).mono ?_)
    rintro e w9 ⟨rfl, hw⟩
    subst hw
    refine hK1.out _ _ (HS.out _ ((Only.refl [] w1).drewN 1)) (fun hHeld1 => ?_)
    clear hK1
    clear K1
    refine wpAnyH_take (i := 15) (v := ?_) rfl (by kernel_rfl) (by kernel_rfl) (by kernel_rfl) (fun _ _ _ h => h) (Or.inl ⟨by rfl, ?_⟩) (by assumption) ?_
    rotate_left
    · intro w hSw
      try dsimp only at hSw
      go_simp
      all_goals with_reducible rfl
    simp only [Act.put, List.setIfInBounds_toArray, List.set_cons_zero, List.set_cons_succ]
    refine wpAnyH_take (i := 16) (v := ?_) rfl (by kernel_rfl) (by kernel_rfl) (by kernel_rfl) (fun _ _ _ h => h) (Or.inl ⟨by rfl, ?_⟩) (by assumption) ?_
    rotate_left
    · intro w hSw
      try dsimp only at hSw
      go_simp
      all_goals with_reducible rfl
    simp only [Act.put, List.setIfInBounds_toArray, List.set_cons_zero, List.set_cons_succ]
    refine wpAnyH_done (by kernel_rfl) (lastQ_intro rfl rfl ?_) _
    simp only [List.getElem_toArray, List.getElem_cons_succ, List.getElem_cons_zero]
    have kc := HK.out _ (Only.refl [] w1)
    have hend := HE.out _ (Only.refl [] w1)
    have HX := Lib.hid (And.intro (hend.1.drewN 1) (hend.2.drewN 1))
    have kq := kc.2.1
    have kf := kc.2.2
    clear hend kc
    go_simp
    go_step
    go_end0
    exact ⟨rfl, HX.out⟩
end
end Go.Proofs.Ytloeofhchfaieaa
