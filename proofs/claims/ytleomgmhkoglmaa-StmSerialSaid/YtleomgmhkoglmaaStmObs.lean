/- What a machine tells of itself: Told, Busy, Log, Idle (layer 8). -/
import Derived.Test.YtleomgmhkoglmaaStmStepW
namespace Go.Proofs.Ytleomgmhkoglmaa
open Go.RowKit Go.Maps
section
variable {base : Nat} {w : World} {G : Geo} {J : List (List Jb)} {M : Ma} {k : Nat} {u : Wk}
set_option maxRecDepth 100000 in
set_option maxHeartbeats 1600000 in
theorem told_any (h : MAt base w G J M) (hk : M.ws[k]? = some u) (ht : u.told.length ≤ 1000) : Calls Try.prog 14 #[.pointer (some ⟨G.pm, 0, none⟩), .int .i64 k] w fun e w' => ∃ A cap, e = .returned (.slice A u.told.length cap) ∧ RowN w' A IntT irow 1 u.told ∧ Only [] w w' := by
  obtain ⟨Ps, Fs, AL, h⟩ := h
  have hkl := (List.getElem?_eq_some_iff.1 hk).1
  obtain ⟨pw, f, fv, js, hpw, hf, hfv, hjs, hw⟩ := h.at_ hk
  obtain ⟨jv, rv, dv, num, hb, hph⟩ := hw.blk
  obtain ⟨T, ct, hT, hN⟩ := RowN.of_owns irow_len (by simpa using hw.told)
  rw [hT] at hb
  obtain ⟨g, hAW, hgc, m1⟩ := find_wk h hpw
  have cH := mhas_yes h hkl
  have c1 : w.cell? ⟨pw, 1, none⟩ = some (.slice T u.told.length ct) := hb.cell 1
  have cC := cloneI_any ct hN.rows (by omega)
  have hfew := h.few
  have hk0 : (0 : Int) ≤ (k : Int) := by omega
  have hk1 : (k : Int) < (M.ws.length : Int) := by omega
  clear h hw hb hN hph hk
  go_enter Try.func14, Try.ntmps14
  go_wp2_with (first | (go_at_call 23; (with_reducible refine cH.mono ?_); rintro e w1 ⟨rfl, rfl⟩) | (go_at_call 32; (with_reducible refine cC.mono ?_); rintro e w1 ⟨A, cap, rfl, hN1, ho1⟩))
  go_ret
  exact ⟨A, cap, rfl, hN1, ho1⟩
/-- is a worker's job under way? -/
def Wk.busy (u : Wk) : Bool := match u.ph with
  | .idle => false
  | _ => true
set_option maxRecDepth 100000 in
set_option maxHeartbeats 1600000 in
theorem busy_any (h : MAt base w G J M) (hk : M.ws[k]? = some u) : Calls Try.prog 21 #[.pointer (some ⟨G.pm, 0, none⟩), .int .i64 k] w fun e w' => e = .returned (.bool u.busy) ∧ w = w' := by
  obtain ⟨Ps, Fs, AL, h⟩ := h
  have hkl := (List.getElem?_eq_some_iff.1 hk).1
  obtain ⟨pw, f, fv, js, hpw, hf, hfv, hjs, hw⟩ := h.at_ hk
  obtain ⟨jv, rv, dv, num, hb, hph⟩ := hw.blk
  obtain ⟨g, hAW, hgc, m1⟩ := find_wk h hpw
  have cH := mhas_yes h hkl
  have c2 : w.cell? ⟨pw, 2, none⟩ = some jv := hb.cell 2
  have hfew := h.few
  have hk0 : (0 : Int) ≤ (k : Int) := by omega
  have hk1 : (k : Int) < (M.ws.length : Int) := by omega
  have hjv : (jv = .nilFunc ∧ u.busy = false) ∨ ((∃ Gj caps, jv = .func (.func Gj) #[] caps) ∧ u.busy = true) := by
    unfold Wk.busy
    cases hp : u.ph with
    | idle => rw [hp] at hph; exact .inl ⟨hph.1, rfl⟩
    | learn R => rw [hp] at hph; obtain ⟨⟨j, _, hJ⟩, -⟩ := hph; exact .inr ⟨hJ.func, rfl⟩
    | desc i n => rw [hp] at hph; obtain ⟨⟨j, _, hJ⟩, -⟩ := hph; exact .inr ⟨hJ.func, rfl⟩
  clear h hw hb hph hk
  rcases hjv with ⟨rfl, hbz⟩ | ⟨⟨Gj, caps, rfl⟩, hbz⟩
  · have hq := nilNe
    rw [hbz]
    go_enter Try.func21, Try.ntmps21
    go_wp2_with (first | (go_at_call 23; (with_reducible refine cH.mono ?_); rintro e w1 ⟨rfl, rfl⟩))
    go_ret
    exact ⟨rfl, rfl⟩
  · have hq := jobNe Gj caps
    rw [hbz]
    go_enter Try.func21, Try.ntmps21
    go_wp2_with (first | (go_at_call 23; (with_reducible refine cH.mono ?_); rintro e w1 ⟨rfl, rfl⟩))
    go_ret
    exact ⟨rfl, rfl⟩
set_option maxRecDepth 100000 in
set_option maxHeartbeats 1600000 in
theorem log_any (h : MAt base w G J M) (hL : M.log.length ≤ 1000000) : Calls Try.prog 12 #[.pointer (some ⟨G.pm, 0, none⟩)] w fun e w' => ∃ A cap, e = .returned (.slice A M.log.length cap) ∧ RowN w' A LgT Lg.row 4 M.log ∧ Only [] w w' := by
  obtain ⟨Ps, Fs, AL, h⟩ := h
  obtain ⟨T, ct, hT, hN⟩ := RowN.of_owns Lg.row_len (by simpa using h.log)
  subst hT
  have m3 : w.cell? ⟨G.pm, 3, none⟩ = some (.slice T M.log.length ct) := h.mach.cell 3
  have cC := cloneL_any ct hN.rows hL
  clear h hN
  go_enter Try.func12, Try.ntmps12
  go_wp2_with (first | (go_at_call 31; (with_reducible refine cC.mono ?_); rintro e w1 ⟨A, cap, rfl, hN1, ho1⟩))
  go_ret
  exact ⟨A, cap, rfl, hN1, ho1⟩
/-- has a worker a job next, or under way? -/
def wantsAt (J : List (List Jb)) (M : Ma) (k : Nat) : Bool := match M.ws[k]? with
  | some u => u.busy || (jobOf J k u).isSome
  | none => false
set_option maxRecDepth 100000 in
set_option maxHeartbeats 1600000 in
theorem idleC_any (h : MAt base w G J M) (hk : M.ws[k]? = some u) (ht : u.told.length ≤ 8) {pw : Nat} (hpw : G.Pw[k]? = some pw) : Calls Try.prog 36 #[.pointer (some ⟨pw, 0, none⟩)] w fun e w' => e = .returned (.bool (wantsAt J M k)) ∧ Only [] w w' := by
  obtain ⟨Ps, Fs, AL, h⟩ := h
  obtain ⟨pw', f, fv, js, jv, rv, dv, num, pb, A, T, cap, ct, hpw', hf, hfv, hjs, hw, hb, hph, -, hnx, hjo, hjl⟩ := next_of h hk
  rw [hpw] at hpw'
  cases hpw'
  have c2 : w.cell? ⟨pw, 2, none⟩ = some jv := hb.cell 2
  have cN := next_lie (hnx ht)
  rw [← hjo] at cN
  have hjv : (jv = .nilFunc ∧ wantsAt J M k = (jobOf J k u).isSome) ∨ ((∃ Gj caps, jv = .func (.func Gj) #[] caps) ∧ wantsAt J M k = true) := by
    unfold wantsAt Wk.busy
    simp only [hk]
    cases hp : u.ph with
    | idle => rw [hp] at hph; exact .inl ⟨hph.1, by simp⟩
    | learn R => rw [hp] at hph; obtain ⟨⟨j, _, hJ⟩, -⟩ := hph; exact .inr ⟨hJ.func, by simp⟩
    | desc i n => rw [hp] at hph; obtain ⟨⟨j, _, hJ⟩, -⟩ := hph; exact .inr ⟨hJ.func, by simp⟩
  clear h hw hb hph hk hnx hjo
  rcases hjv with ⟨rfl, hbz⟩ | ⟨⟨Gj, caps, rfl⟩, hbz⟩
  · have hq := nilNe
    rw [hbz]
    cases hj : jobOf J k u with
    | none =>
      rw [hj] at cN
      go_enter Try.func36, Try.ntmps36
      go_wp2_with (first | (go_at_call 37; (with_reducible refine cN.mono ?_); rintro e w1 ⟨v, rfl, rfl, ho1⟩))
      go_ret
      exact ⟨rfl, ho1⟩
    | some j =>
      rw [hj] at cN
      go_enter Try.func36, Try.ntmps36
      go_wp2_with (first | (go_at_call 37; (with_reducible refine cN.mono ?_); rintro e w1 ⟨v, rfl, hJ, ho1⟩; have hJ' : JobAt base w1 v j := hJ; obtain ⟨Gn, cn, rfl⟩ := hJ'.func; have hqn := jobNe Gn cn))
      go_ret
      exact ⟨rfl, ho1⟩
  · have hq := jobNe Gj caps
    rw [hbz]
    clear cN
    go_enter Try.func36, Try.ntmps36
    go_wp2_with fail
    go_ret
    exact ⟨rfl, Only.refl _ _⟩
theorem enterIdle (args : Array Value) (w : World) : (callFunc 36 args).run Try.prog w = .ok (.enter 36 args) w := by kernel_rfl
set_option maxRecDepth 100000 in
set_option maxHeartbeats 1600000 in
theorem contains_any {AW : Option Addr} {n cW : Nat} {q : Nat → Bool} {Gf : FuncId} {caps : Array Value} (cI : Calls Try.prog 46 #[.slice AW n cW, .func (.func Gf) #[] caps] w fun e w' => ∃ r, e = .returned (.int .i64 r) ∧ IdxIs q n r ∧ Only [] w w') :
    Calls Try.prog 35 #[.slice AW n cW, .func (.func Gf) #[] caps] w fun e w' => e = .returned (.bool ((List.range n).any q)) ∧ Only [] w w' := by
  obtain ⟨b, hb⟩ : ∃ b, Hid ((List.range n).any q = b) := ⟨_, Lib.hid rfl⟩
  rw [hb.out]
  have key : ∀ r, IdxIs q n r → (0 ≤ r ∧ b = true) ∨ (r < 0 ∧ b = false) := fun r hr => by
    rcases hr with ⟨k, hk, hp, _, rfl⟩ | ⟨hno, rfl⟩
    · left
      refine ⟨by omega, ?_⟩
      rw [← hb.out, List.any_eq_true]
      exact ⟨k, List.mem_range.2 hk, hp⟩
    · right
      refine ⟨by omega, ?_⟩
      rw [← hb.out, List.any_eq_false]
      intro x hx
      rw [hno x (List.mem_range.1 hx)]
      simp
  have K := Lib.hid key
  clear key
  go_enter Try.func35, Try.ntmps35
  go_wp2_with fail
  refine cI.mono ?_
  rintro e w1 ⟨r, rfl, hr, ho⟩
  rcases K.out r hr with ⟨h1, rfl⟩ | ⟨h1, rfl⟩
  all_goals
    go_wp2_with fail
    go_ret
    exact ⟨by simp <;> omega, ho⟩
set_option maxRecDepth 100000 in
set_option maxHeartbeats 1600000 in
theorem idle_any (h : MAt base w G J M) (ht : ∀ (k : Nat) (u : Wk), M.ws[k]? = some u → u.told.length ≤ 8) : Calls Try.prog 18 #[.pointer (some ⟨G.pm, 0, none⟩)] w fun e w' => e = .returned (.bool (!(List.range M.ws.length).any (wantsAt J M))) ∧ Only [] w w' := by
  have h' := h
  obtain ⟨Ps, Fs, AL, h⟩ := h
  have m1 : w.cell? ⟨G.pm, 1, none⟩ = some (.slice G.AW M.ws.length G.cW) := h.mach.cell 1
  have hfew := h.few
  have hlen := h.len.1
  have cI := index_any G.cW h.row (by omega) 36 #[] (wantsAt J M) enterIdle (fun j pw W hpw ho => by
    have hjl : j < M.ws.length := by rw [← hlen]; exact (List.getElem?_eq_some_iff.1 hpw).1
    exact idleC_any (h'.only0 ho) (List.getElem?_eq_getElem hjl) (ht _ _ (List.getElem?_eq_getElem hjl)) hpw)
  rw [hlen] at cI
  have cC := contains_any cI
  obtain ⟨b, hb⟩ : ∃ b, Hid ((List.range M.ws.length).any (wantsAt J M) = b) := ⟨_, Lib.hid rfl⟩
  rw [hb.out] at cC ⊢
  clear h h' cI
  go_enter Try.func18, Try.ntmps18
  go_wp2_with fail
  refine cC.mono ?_
  rintro e w1 ⟨rfl, ho⟩
  go_wp2_with fail
  go_ret
  exact ⟨rfl, ho⟩
end
end Go.Proofs.Ytleomgmhkoglmaa
