/- What New, Read, Reserve, Release, Put, Limit of package word do to a store that lies in memory (layer 1, for layers that change it by descriptors). -/
import Derived.Test.YtleomgmhkoglmaaRows
import Derived.Test.YtleomgmhkoglmaaWordM
import Derived.WalkKit
import Derived.WalkSpells
import Derived.WalkLawsBesides
import Derived.Handy
import Derived.BigQuiet
import Derived.Deep.QuietTactic
import Derived.RegionTactic
import Derived.Lib.IfaceEq
import Derived.Lib.Hide
import Derived.Deep.Light
namespace Go.Proofs.Ytleomgmhkoglmaa
open Go.RowKit

/-- a store lies at p (of type ty), its cells in block g -/
structure StoreAt (w : World) (ty : TypeId) (p g : Nat) (s : St) : Prop where
  head : Blk w p ty #[.slice (some ⟨g, 0, none⟩) s.L.length s.L.length, .int .u32 s.lim]
  body : Blk w g 84 (flat C.row s.L)
  ok : s.ok

abbrev WT : TypeId := 63

def codeV (c : Int) : Value := if c = 0 then .nilIface else .iface 60 (.int .i64 c)
theorem codeV0 : codeV 0 = .nilIface := rfl
theorem codeV_n {c : Int} (h : c ≠ 0) : codeV c = .iface 60 (.int .i64 c) := if_neg h

section
variable {w : World} {ty : TypeId} {p g : Nat} {s : St}
theorem StoreAt.ne (h : StoreAt w ty p g s) (ht : ty ≠ 84) : p ≠ g := h.head.ne_ h.body ht
theorem StoreAt.drewN (h : StoreAt w ty p g s) (n : Nat) : StoreAt (w.drewN n) ty p g s := ⟨h.head, h.body, h.ok⟩
theorem StoreAt.only {S : List Nat} {w' : World} (h : StoreAt w ty p g s) (ho : Only S w w') (hp : p ∉ S) (hg : g ∉ S) : StoreAt w' ty p g s :=
  ⟨ho.blk h.head hp, ho.blk h.body hg, h.ok⟩
theorem StoreAt.cell0 (h : StoreAt w ty p g s) : w.cell? ⟨p, 0, none⟩ = some (.slice (some ⟨g, 0, none⟩) s.L.length s.L.length) := h.head.cell 0
theorem StoreAt.cell1 (h : StoreAt w ty p g s) : w.cell? ⟨p, 1, none⟩ = some (.int .u32 s.lim) := h.head.cell 1
theorem StoreAt.at0 (h : StoreAt w ty p g s) {k : Nat} {c : C} (hc : s.L[k]? = some c) : w.cell? ⟨g, k * 3, none⟩ = some (.int .u64 c.v) := (h.body.cell _).trans (flat_at (j := 0) C.row_len hc rfl)
theorem StoreAt.at1 (h : StoreAt w ty p g s) {k : Nat} {c : C} (hc : s.L[k]? = some c) : w.cell? ⟨g, k * 3 + 1, none⟩ = some (.int .u32 c.ver) := (h.body.cell _).trans (flat_at (j := 1) C.row_len hc rfl)
theorem StoreAt.at2 (h : StoreAt w ty p g s) {k : Nat} {c : C} (hc : s.L[k]? = some c) : w.cell? ⟨g, k * 3 + 2, none⟩ = some (.int .i64 c.mark) := (h.body.cell _).trans (flat_at (j := 2) C.row_len hc rfl)
theorem StoreAt.put (h : StoreAt w ty p g s) (ht : ty ≠ 84) {k : Nat} {c c' : C} (hc : s.L[k]? = some c) (j : Nat) (v : Value) (hj : j < 3) (hrow : c'.row = c.row.set j v) (hok : c'.ok s.lim) :
    StoreAt (w.setCell ⟨g, k * 3 + j, none⟩ v) ty p g (s.put (k : Int) c') := by
  refine ⟨?_, ?_, ?_⟩
  · have := h.head.far (p := ⟨g, k * 3 + j, none⟩) (h.ne ht) v
    simpa [St.put] using this
  · have := h.body.set_ (k * 3 + j) v
    rw [flat_set C.row_len hc hj hrow] at this
    simpa [St.put] using this
  · refine ⟨h.ok.lim0, h.ok.lim1, by simpa [St.put] using h.ok.len, fun i c1 hi => ?_⟩
    simp only [St.put, Int.toNat_natCast, List.getElem?_set] at hi
    split at hi
    · split at hi
      · cases hi; exact hok
      · cases hi
    · exact h.ok.cells i c1 hi
theorem St.put_at {s : St} {k : Nat} {c c' : C} (hc : s.L[k]? = some c) : (s.put (k : Int) c').L[k]? = some c' := by
  have := (List.getElem?_eq_some_iff.1 hc).1
  simp [St.put, this]
theorem St.put_put (s : St) (i : Int) (a b : C) : (s.put i a).put i b = s.put i b := by simp [St.put]
theorem StoreAt.put3 (h : StoreAt w ty p g s) (ht : ty ≠ 84) {k : Nat} {c : C} (hc : s.L[k]? = some c) (c' : C) (hok : c'.ok s.lim) :
    StoreAt (((w.setCell ⟨g, k * 3, none⟩ (.int .u64 c'.v)).setCell ⟨g, k * 3 + 1, none⟩ (.int .u32 c'.ver)).setCell ⟨g, k * 3 + 2, none⟩ (.int .i64 c'.mark)) ty p g (s.put (k : Int) c') := by
  have h1 := h.put ht hc (c' := ⟨c'.v, c.ver, c.mark⟩) 0 (.int .u64 c'.v) (by omega) rfl (h.ok.cells _ c hc)
  have h2 := h1.put ht (St.put_at hc) (c' := ⟨c'.v, c'.ver, c.mark⟩) 1 (.int .u32 c'.ver) (by omega) rfl hok
  have h3 := h2.put ht (St.put_at (St.put_at hc)) (c' := c') 2 (.int .i64 c'.mark) (by omega) rfl hok
  rw [St.put_put, St.put_put] at h3
  exact h3
end

set_option maxHeartbeats 400000 in
theorem has_any (p g : Nat) (s : St) (i : Int) (w : World) (h : StoreAt w WT p g s) :
    Calls Try.prog 52 #[.pointer (some ⟨p, 0, none⟩), .int .i64 i] w fun e w' => e = .returned (.bool (decide (0 ≤ i) && decide (i < s.L.length))) ∧ w = w' := by
  have hc := h.cell0
  have hn := h.ok.len
  clear h
  go_enter Try.func52, Try.ntmps52
  go_wp2
  all_goals go_ret
  · have h : 0 ≤ i := by assumption
    exact ⟨by simp [h], rfl⟩
  · have h : i < 0 := by assumption
    exact ⟨by simp; omega, rfl⟩
theorem has_no (p g : Nat) (s : St) (i : Int) (w : World) (h : StoreAt w WT p g s) (hr : i < 0 ∨ (s.L.length : Int) ≤ i) :
    Calls Try.prog 52 #[.pointer (some ⟨p, 0, none⟩), .int .i64 i] w fun e w' => e = .returned (.bool false) ∧ w = w' :=
  (has_any p g s i w h).mono fun _ _ ⟨he, hw⟩ => ⟨by rw [he]; congr 2; simp; omega, hw⟩
theorem has_yes (p g : Nat) (s : St) (i : Int) (w : World) (h : StoreAt w WT p g s) (hr : ¬ (i < 0 ∨ (s.L.length : Int) ≤ i)) :
    Calls Try.prog 52 #[.pointer (some ⟨p, 0, none⟩), .int .i64 i] w fun e w' => e = .returned (.bool true) ∧ w = w' :=
  (has_any p g s i w h).mono fun _ _ ⟨he, hw⟩ => ⟨by rw [he]; congr 2; simp; omega, hw⟩

set_option maxHeartbeats 800000 in
theorem reserve_any (p g : Nat) (s : St) (i ver mark : Int) (w : World) (h : StoreAt w WT p g s) :
    Calls Try.prog 72 #[.pointer (some ⟨p, 0, none⟩), .int .i64 i, .int .u32 ver, .int .i64 mark] w fun e w' => e = .returned (codeV (rsvI s i ver mark).1) ∧ StoreAt w' WT p g (rsvI s i ver mark).2 ∧ Only [g] w w' := by
  by_cases hr : i < 0 ∨ (s.L.length : Int) ≤ i
  · go_enter Try.func72, Try.ntmps72
    go_wp2_with (go_at_call 52; refine (has_no p g s _ _ h hr).mono ?_; rintro e w' ⟨rfl, rfl⟩)
    go_ret
    have hg := St.get_none hr
    exact ⟨by simp [rsvI, hg, codeV], by simpa [rsvI, hg] using h, Only.refl _ _⟩
  · obtain ⟨k, c, rfl, hk, hc⟩ := St.get_some hr
    have hcell := h.cell0
    have hm := h.at2 hc
    have hv := h.at1 hc
    have hf : w.frozen? ⟨g, k * 3 + 2, none⟩ = false := h.body.frozen _
    have hlen := h.ok.len
    go_enter Try.func72, Try.ntmps72
    go_wp2_with (go_at_call 52; refine (has_yes p g s _ _ h hr).mono ?_; rintro e w' ⟨rfl, rfl⟩)
    all_goals go_ret
    all_goals clear hcell hm hv hf
    all_goals (simp only [rsvI, St.get_nat, hc])
    · rw [if_pos (by assumption)]; exact ⟨rfl, h, Only.refl _ _⟩
    · have h1 : (c.ver != ver) = true := by assumption
      rw [if_neg (by omega), if_neg (by omega), if_pos (by simpa using h1)]; exact ⟨rfl, h, Only.refl _ _⟩
    · have h1 : (c.ver != ver) = false := by assumption
      rw [if_neg (by omega), if_neg (by omega), if_neg (by simpa using h1)]
      exact ⟨rfl, h.put (by decide) hc 2 _ (by omega) rfl (h.ok.cells _ c hc), (Only.refl _ _).setCell (by simp) _⟩
    · have h1 : (c.mark != 0) = true ∧ (c.mark != mark) = true := by assumption
      simp only [bne_iff_ne] at h1
      rw [if_neg (by omega), if_pos h1]; exact ⟨rfl, h, Only.refl _ _⟩
    · have h1 : (c.mark != 0) = false ∨ (c.mark != mark) = false := by assumption
      have h2 : (c.ver != ver) = true := by assumption
      simp only [bne_eq_false_iff_eq] at h1
      rw [if_neg (by omega), if_neg (by omega), if_pos (by simpa using h2)]; exact ⟨rfl, h, Only.refl _ _⟩
    · have h1 : (c.mark != 0) = false ∨ (c.mark != mark) = false := by assumption
      have h2 : (c.ver != ver) = false := by assumption
      simp only [bne_eq_false_iff_eq] at h1
      rw [if_neg (by omega), if_neg (by omega), if_neg (by simpa using h2)]
      exact ⟨rfl, h.put (by decide) hc 2 _ (by omega) rfl (h.ok.cells _ c hc), (Only.refl _ _).setCell (by simp) _⟩

def heldI (s : St) (i mark : Int) : Int :=
  match s.get i with
  | none => 2
  | some c => if mark < 1 ∨ c.mark ≠ mark then 12 else 0

set_option maxHeartbeats 800000 in
theorem held_any (p g : Nat) (s : St) (i mark : Int) (w : World) (h : StoreAt w WT p g s) :
    Calls Try.prog 76 #[.pointer (some ⟨p, 0, none⟩), .int .i64 i, .int .i64 mark] w fun e w' => e = .returned (codeV (heldI s i mark)) ∧ w = w' := by
  by_cases hr : i < 0 ∨ (s.L.length : Int) ≤ i
  · go_enter Try.func76, Try.ntmps76
    go_wp2_with (go_at_call 52; refine (has_no p g s _ _ h hr).mono ?_; rintro e w' ⟨rfl, rfl⟩)
    go_ret
    have hg := St.get_none hr
    exact ⟨by simp [heldI, hg, codeV], rfl⟩
  · obtain ⟨k, c, rfl, hk, hc⟩ := St.get_some hr
    have hcell := h.cell0
    have hm := h.at2 hc
    have hlen := h.ok.len
    go_enter Try.func76, Try.ntmps76
    go_wp2_with (go_at_call 52; refine (has_yes p g s _ _ h hr).mono ?_; rintro e w' ⟨rfl, rfl⟩)
    all_goals go_ret
    all_goals clear hcell hm
    all_goals (simp only [heldI, St.get_nat, hc])
    all_goals (split <;> first | exact ⟨rfl, trivial⟩ | (exfalso; simp only [bne_iff_ne, bne_eq_false_iff_eq, ne_eq] at *; omega))

theorem relI_bad {s : St} {i mark : Int} (h : ¬ heldI s i mark = 0) : relI s i mark = (heldI s i mark, s) := by
  unfold relI
  unfold heldI at h ⊢
  cases hg : s.get i with
  | none => rfl
  | some c =>
    simp only [hg] at h ⊢
    split
    · rfl
    · rename_i hc; rw [if_neg hc] at h; simp at h
theorem putI_bad {s : St} {i mark v : Int} (h : ¬ heldI s i mark = 0) : putI s i mark v = (heldI s i mark, s) := by
  unfold putI
  unfold heldI at h ⊢
  cases hg : s.get i with
  | none => rfl
  | some c =>
    simp only [hg] at h ⊢
    split
    · rfl
    · rename_i hc; rw [if_neg hc] at h; simp at h
theorem heldI_some {s : St} {k : Nat} {c : C} {mark : Int} (hc : s.L[k]? = some c) (h : ¬ (mark < 1 ∨ c.mark ≠ mark)) : heldI s k mark = 0 := by
  simp [heldI, St.get_nat, hc, h]
theorem heldI_pos {s : St} {i mark : Int} (h : heldI s i mark = 0) : ∃ (k : Nat) (c : C), i = (k : Int) ∧ s.L[k]? = some c ∧ 1 ≤ mark ∧ c.mark = mark := by
  by_cases hr : i < 0 ∨ (s.L.length : Int) ≤ i
  · simp [heldI, St.get_none hr] at h
  · obtain ⟨k, c, rfl, hk, hc⟩ := St.get_some hr
    refine ⟨k, c, rfl, hc, ?_⟩
    simp only [heldI, St.get_nat, hc] at h
    split at h
    · simp at h
    · omega

def readI (s : St) (i : Int) : Int × C := match s.get i with | none => (2, ⟨0, 0, 0⟩) | some c => (0, c)
def cV (c : C) : Value := .agg #[.int .u64 c.v, .int .u32 c.ver, .int .i64 c.mark]

set_option maxHeartbeats 800000 in
theorem read_any (p g : Nat) (s : St) (i : Int) (w : World) (h : StoreAt w WT p g s) :
    Calls Try.prog 34 #[.pointer (some ⟨p, 0, none⟩), .int .i64 i] w fun e w' => e = .returned (.tuple #[cV (readI s i).2, codeV (readI s i).1]) ∧ Only [] w w' := by
  by_cases hr : i < 0 ∨ (s.L.length : Int) ≤ i
  · go_enter Try.func34, Try.ntmps34
    go_wp2_with (go_at_call 52; refine (has_no p g s _ _ (h.only ((Only.refl [] _).alloc _) (by simp) (by simp)) hr).mono ?_; rintro e w' ⟨rfl, rfl⟩)
    have hg := St.get_none hr
    exact bodyPost_ret (v := .tuple #[cV ⟨0, 0, 0⟩, codeV 2]) (by simp [results, Try.results34, go_sem, cV, codeV]) rfl ⟨by simp [readI, hg], (Only.refl _ _).alloc _⟩
  · obtain ⟨k, c, rfl, hk, hc⟩ := St.get_some hr
    have hcell := h.cell0
    have h0 := h.at0 hc
    have h1 := h.at1 hc
    have h2 := h.at2 hc
    have hlen := h.ok.len
    have hp := h.head.lt
    have hg := h.body.lt
    go_enter Try.func34, Try.ntmps34
    go_wp2_with (go_at_call 52; refine (has_yes p g s _ _ (h.only ((Only.refl [] _).alloc _) (by simp) (by simp)) hr).mono ?_; rintro e w' ⟨rfl, rfl⟩)
    exact bodyPost_ret (v := .tuple #[cV c, codeV 0]) (by simp [results, Try.results34, go_sem, cV, codeV]) rfl ⟨by simp [readI, St.get_nat, hc], (Only.refl _ _).alloc _⟩

set_option maxHeartbeats 800000 in
theorem release_any (p g : Nat) (s : St) (i mark : Int) (w : World) (h : StoreAt w WT p g s) :
    Calls Try.prog 70 #[.pointer (some ⟨p, 0, none⟩), .int .i64 i, .int .i64 mark] w fun e w' => e = .returned (codeV (relI s i mark).1) ∧ StoreAt w' WT p g (relI s i mark).2 ∧ Only [g] w w' := by
  by_cases hh : heldI s i mark = 0
  · have hH : Calls Try.prog 76 #[.pointer (some ⟨p, 0, none⟩), .int .i64 i, .int .i64 mark] w fun e w' => e = .returned .nilIface ∧ w = w' :=
      (held_any p g s i mark w h).mono fun _ _ ⟨he, hw⟩ => ⟨by rw [he, hh]; rfl, hw⟩
    obtain ⟨k, c, rfl, hc, hm1, hm2⟩ := heldI_pos hh
    have hcell := h.cell0
    have h2 := h.at2 hc
    have hf : w.frozen? ⟨g, k * 3 + 2, none⟩ = false := h.body.frozen _
    have hlen := h.ok.len
    have hk : k < s.L.length := (List.getElem?_eq_some_iff.1 hc).1
    replace hH := Lib.hid hH
    clear hh
    have HM := Lib.hid hm2
    clear hm2
    go_enter Try.func70, Try.ntmps70
    go_wp2_with (go_at_call 76; refine (hH.out).mono ?_; rintro e w' ⟨rfl, rfl⟩)
    go_ret
    have hI : relI s k mark = (0, s.put k { c with mark := 0 }) := by
      simp only [relI, St.get_nat, hc]; rw [if_neg (by have := HM.out; omega)]
    rw [hI]
    exact ⟨rfl, h.put (by decide) hc 2 _ (by omega) rfl (h.ok.cells _ c hc), (Only.refl _ _).setCell (by simp) _⟩
  · have hH : Calls Try.prog 76 #[.pointer (some ⟨p, 0, none⟩), .int .i64 i, .int .i64 mark] w fun e w' => e = .returned (.iface 60 (.int .i64 (heldI s i mark))) ∧ w = w' :=
      (held_any p g s i mark w h).mono fun _ _ ⟨he, hw⟩ => ⟨by rw [he, codeV_n hh], hw⟩
    go_enter Try.func70, Try.ntmps70
    go_wp2_with (go_at_call 76; refine hH.mono ?_; rintro e w' ⟨rfl, rfl⟩)
    go_ret
    rw [relI_bad hh]
    exact ⟨by rw [codeV_n hh]; rfl, h, Only.refl _ _⟩

set_option maxHeartbeats 800000 in
theorem put_any (p g : Nat) (s : St) (i mark v : Int) (w : World) (h : StoreAt w WT p g s) :
    Calls Try.prog 69 #[.pointer (some ⟨p, 0, none⟩), .int .i64 i, .int .i64 mark, .int .u64 v] w fun e w' => e = .returned (codeV (putI s i mark v).1) ∧ StoreAt w' WT p g (putI s i mark v).2 ∧ Only [g] w w' := by
  by_cases hh : heldI s i mark = 0
  · have hH : Calls Try.prog 76 #[.pointer (some ⟨p, 0, none⟩), .int .i64 i, .int .i64 mark] w fun e w' => e = .returned .nilIface ∧ w = w' :=
      (held_any p g s i mark w h).mono fun _ _ ⟨he, hw⟩ => ⟨by rw [he, hh]; rfl, hw⟩
    obtain ⟨k, c, rfl, hc, hm1, hm2⟩ := heldI_pos hh
    have hcell := h.cell0
    have hl := h.cell1
    have h0 := h.at0 hc
    have h1 := h.at1 hc
    have h2 := h.at2 hc
    have hf0 : w.frozen? ⟨g, k * 3, none⟩ = false := h.body.frozen _
    have hf1 : w.frozen? ⟨g, k * 3 + 1, none⟩ = false := h.body.frozen _
    have hf2 : w.frozen? ⟨g, k * 3 + 2, none⟩ = false := h.body.frozen _
    have hlen := h.ok.len
    obtain ⟨hv0, hv1⟩ := h.ok.cells _ _ hc
    have hv2 := h.ok.lim1
    have hk : k < s.L.length := (List.getElem?_eq_some_iff.1 hc).1
    have hki : (k : Int) < (s.L.length : Int) := by omega
    replace hH := Lib.hid hH
    clear hh
    have HM := Lib.hid hm2
    clear hm2
    by_cases hL : c.ver = s.lim
    · have hd : (c.ver == s.lim) = true := by simpa using hL
      have HL := Lib.hid hL
      clear hL
      go_enter Try.func69, Try.ntmps69
      go_wp2_with (go_at_call 76; refine (hH.out).mono ?_; rintro e w' ⟨rfl, rfl⟩)
      go_quiet (fail)
      go_wp2
      go_ret
      go_light
      have e : putI s k mark v = (11, s) := by
        simp only [putI, St.get_nat, hc]; rw [if_neg (by have := HM.out; omega), if_pos HL.out]
      rw [e]
      exact ⟨rfl, h.drewN _, (Only.refl _ _).drewN _⟩
    · have hd : (c.ver == s.lim) = false := by simpa using hL
      have hlt : c.ver < s.lim := by omega
      have hn : c.ver + 1 ≤ 4294967295 := by omega
      clear hL
      go_enter Try.func69, Try.ntmps69
      go_wp2_with (go_at_call 76; refine (hH.out).mono ?_; rintro e w' ⟨rfl, rfl⟩)
      go_quiet (fail)
      go_wp2
      go_region
      all_goals go_wp2
      go_ret
      go_light
      have e : putI s k mark v = (0, s.put k ⟨v, c.ver + 1, 0⟩) := by
        simp only [putI, St.get_nat, hc]; rw [if_neg (by have := HM.out; omega), if_neg (by omega)]
      rw [e]
      refine ⟨rfl, ?_, (((((Only.refl _ _).drewN _).setCell (by simp) _).setCell (by simp) _).setCell (by simp) _)⟩
      have q := (h.drewN (nq + 1)).put3 (by decide) hc ⟨v, c.ver + 1, 0⟩ ⟨by simp; omega, by simp; omega⟩
      exact q
  · have hH : Calls Try.prog 76 #[.pointer (some ⟨p, 0, none⟩), .int .i64 i, .int .i64 mark] w fun e w' => e = .returned (.iface 60 (.int .i64 (heldI s i mark))) ∧ w = w' :=
      (held_any p g s i mark w h).mono fun _ _ ⟨he, hw⟩ => ⟨by rw [he, codeV_n hh], hw⟩
    go_enter Try.func69, Try.ntmps69
    go_wp2_with (go_at_call 76; refine hH.mono ?_; rintro e w' ⟨rfl, rfl⟩)
    go_ret
    rw [putI_bad hh]
    exact ⟨by rw [codeV_n hh]; rfl, h, Only.refl _ _⟩

theorem limit_any (p g : Nat) (s : St) (w : World) (h : StoreAt w WT p g s) :
    Calls Try.prog 71 #[.pointer (some ⟨p, 0, none⟩)] w fun e w' => e = .returned (.int .u32 s.lim) ∧ w = w' := by
  have hcell := h.cell1
  go_enter Try.func71, Try.ntmps71
  go_wp2
  go_ret
  exact ⟨rfl, rfl⟩

theorem infoCell : (Try.prog.info? 84).map (fun i => (i.zero, i.size, i.bytes)) = some (some (.agg #[.int .u64 0, .int .u32 0, .int .i64 0]), 3, 24) := by kernel_rfl

set_option maxRecDepth 100000 in
set_option maxHeartbeats 800000 in
theorem new_good (n lim : Int) (w : World) (h0 : 1 ≤ n) (h1 : n ≤ 1024) (h2 : 1 ≤ lim) (h3 : lim ≤ 4294967295) :
    Calls Try.prog 7 #[.int .i64 n, .int .u32 lim] w fun e w' => e = .returned (.tuple #[.pointer (some ⟨w.heap.size + 1, 0, none⟩), codeV 0]) ∧ StoreAt w' WT (w.heap.size + 1) w.heap.size ⟨lim, List.replicate n.toNat ⟨0, 0, 0⟩⟩ ∧ Only [] w w' := by
  have hmk := Lib.hid fun W : World => run_makeN (P := Try.prog) (t := 61) (C.mk 0 0 0) infoCell Try.underlying61 C.row_len (by omega) rfl .i64 .i64 n n (by omega) (by omega) (by omega) (by omega) W
  have hb : (lim == 0) = false := by simp; omega
  go_enter Try.func7, Try.ntmps7
  go_wp2
  rw [hmk.out]
  go_wp2
  go_ret2
  refine ⟨rfl, ⟨?_, ?_, ?_⟩, ?_⟩
  · have q := Blk.new (w.alloc (.cells (flat C.row (List.replicate n.toNat (C.mk 0 0 0))) 84)) WT #[.slice (some ⟨w.heap.size, 0, none⟩) n.toNat n.toNat, .int .u32 lim]
    simpa using q
  · exact (Blk.new w _ _).alloc _
  · refine ⟨h2, h3, by simp; omega, fun i c hc => ?_⟩
    simp only [List.getElem?_replicate] at hc
    split at hc
    · cases hc; exact ⟨by simp, by simp; omega⟩
    · cases hc
  · exact ((Only.refl _ _).alloc _).alloc _

end Go.Proofs.Ytleomgmhkoglmaa
