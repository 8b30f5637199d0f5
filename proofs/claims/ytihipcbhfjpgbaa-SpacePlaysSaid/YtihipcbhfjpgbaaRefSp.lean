/- What the document's Map, Unmap do (layer 18). -/
import Derived.Test.YtihipcbhfjpgbaaSpS
import Derived.Test.YtihipcbhfjpgbaaJ9
import Derived.Test.YtihipcbhfjpgbaaJ7
import Derived.Test.YtihipcbhfjpgbaaJ8
import Derived.Test.YtihipcbhfjpgbaaRefStM
import Derived.Test.YtihipcbhfjpgbaaJ3
import Derived.Test.YtihipcbhfjpgbaaRefNew
import Derived.Test.YtihipcbhfjpgbaaQueM
import Derived.Test.YtihipcbhfjpgbaaJ4
import Derived.Test.YtihipcbhfjpgbaaJ6
import Derived.Test.YtihipcbhfjpgbaaRows
import Derived.Test.YtihipcbhfjpgbaaJ10
import Derived.Test.YtihipcbhfjpgbaaMem
import Derived.Deep.CutBlock
import Derived.Deep.DeepCutAuto
import Derived.Deep.RegionHeld3
import Derived.Deep.AppendSrc
import Derived.Deep.AppendLies
import Derived.Deep.RegionLaw
import Derived.OrdersHeld
import Derived.Deep.RegionHeld
import Derived.KernelRfl
namespace Go.Proofs.Ytihipcbhfjpgbaa
open Go.RowKit
section
variable {w w' : World} {p gs go : Nat} {S : RSt}
/-- a page is put, its rights are -/
theorem RefAt.setP (h : RefM w p gs go S) {i q : Nat} (hi : i < 32) (hq : q < 4) (f : Int) :
    RefM (w.setCell ⟨go, i * 32 + 20 + q, none⟩ (.int .i64 f)) p gs go (S.upO (i : Int) fun x => x.setPg q f (x.with q)) ∧ Only [go] w (w.setCell ⟨go, i * 32 + 20 + q, none⟩ (.int .i64 f)) := by
  have hq4 : q = 0 ∨ q = 1 ∨ q = 2 ∨ q = 3 := by omega
  rcases hq4 with rfl | rfl | rfl | rfl
  · exact h.setF1 hi (j := 20) (by omega) (.int .i64 f) _ (fun _ _ => rfl) (fun _ => rfl)
  · exact h.setF1 hi (j := 21) (by omega) (.int .i64 f) _ (fun _ _ => rfl) (fun _ => rfl)
  · exact h.setF1 hi (j := 22) (by omega) (.int .i64 f) _ (fun _ _ => rfl) (fun _ => rfl)
  · exact h.setF1 hi (j := 23) (by omega) (.int .i64 f) _ (fun _ _ => rfl) (fun _ => rfl)
theorem RefAt.setR (h : RefM w p gs go S) {i q : Nat} (hi : i < 32) (hq : q < 4) (r : Int) :
    RefM (w.setCell ⟨go, i * 32 + 24 + q, none⟩ (.int .i64 r)) p gs go (S.upO (i : Int) fun x => x.setPg q (x.at q) r) ∧ Only [go] w (w.setCell ⟨go, i * 32 + 24 + q, none⟩ (.int .i64 r)) := by
  have hq4 : q = 0 ∨ q = 1 ∨ q = 2 ∨ q = 3 := by omega
  rcases hq4 with rfl | rfl | rfl | rfl
  · exact h.setF1 hi (j := 24) (by omega) (.int .i64 r) _ (fun _ _ => rfl) (fun _ => rfl)
  · exact h.setF1 hi (j := 25) (by omega) (.int .i64 r) _ (fun _ _ => rfl) (fun _ => rfl)
  · exact h.setF1 hi (j := 26) (by omega) (.int .i64 r) _ (fun _ _ => rfl) (fun _ => rfl)
  · exact h.setF1 hi (j := 27) (by omega) (.int .i64 r) _ (fun _ _ => rfl) (fun _ => rfl)
theorem setPg_two (S : RSt) (i : Int) {q : Nat} (hq : q < 4) (f r : Int) : ((S.upO i fun x => x.setPg q f (x.with q)).upO i fun x => x.setPg q (x.at q) r) = pgS S i q f r := by
  have hq4 : q = 0 ∨ q = 1 ∨ q = 2 ∨ q = 3 := by omega
  refine RSt.ext' rfl rfl rfl (fun k => ?_) rfl rfl
  unfold pgS
  rw [upO_at, upO_at, upO_at, upO_at]
  by_cases e : k = i
  · rw [if_pos e, if_pos e, if_pos rfl]
    rcases hq4 with rfl | rfl | rfl | rfl <;> rfl
  · rw [if_neg e, if_neg e, if_neg e]
theorem innS_two (S : RSt) (f s p : Int) : ((S.upO f fun x => { x with inn := s }).upO f fun x => { x with page := p }) = innS S f s p :=
  RSt.ext' rfl rfl rfl (fun i => by simp only [innS, upO_at]; split <;> simp) rfl rfl
theorem RefAt.cPg (h : RefM w p gs go S) {i q : Nat} (hi : i < 32) (hq : q < 4) : w.cell? ⟨go, i * 32 + 20 + q, none⟩ = some (.int .i64 ((S.ob (i : Int)).at q)) := by
  obtain ⟨A, cp, hc, -⟩ := h.obj hi
  have hq4 : q = 0 ∨ q = 1 ∨ q = 2 ∨ q = 3 := by omega
  rcases hq4 with rfl | rfl | rfl | rfl
  · exact hc 20 _ rfl
  · exact hc 21 _ rfl
  · exact hc 22 _ rfl
  · exact hc 23 _ rfl
theorem RefAt.cRt (h : RefM w p gs go S) {i q : Nat} (hi : i < 32) (hq : q < 4) : w.cell? ⟨go, i * 32 + 24 + q, none⟩ = some (.int .i64 ((S.ob (i : Int)).with q)) := by
  obtain ⟨A, cp, hc, -⟩ := h.obj hi
  have hq4 : q = 0 ∨ q = 1 ∨ q = 2 ∨ q = 3 := by omega
  rcases hq4 with rfl | rfl | rfl | rfl
  · exact hc 24 _ rfl
  · exact hc 25 _ rfl
  · exact hc 26 _ rfl
  · exact hc 27 _ rfl
set_option maxRecDepth 100000 in
theorem rmap_any (h : RefM w p gs go S) (hS : SP S) (f s pg r : Int) :
    Calls Try.prog 11 #[.pointer (some ⟨p, 0, none⟩), .int .i64 f, .int .i64 s, .int .i64 pg, .int .i64 r] w fun e w' => e = .returned (.int .i64 (mapN S f s pg r)) ∧ RefM w' p gs go (mapS S f s pg r) ∧ Only [go] w w' := by
  obtain ⟨qf, hqf⟩ : ∃ q, isO S f 6 = q := ⟨_, rfl⟩
  obtain ⟨qs, hqs⟩ : ∃ q, isO S s 7 = q := ⟨_, rfl⟩
  have cF := ris_is h hqf
  have cS := ris_is h hqs
  obtain ⟨k, hk⟩ : ∃ k, mapN S f s pg r = k := ⟨_, rfl⟩
  obtain ⟨X, hX⟩ : ∃ X, mapS S f s pg r = X := ⟨_, rfl⟩
  rw [hk, hX]
  have hX' := hX
  unfold mapS at hX'
  rw [hk] at hX'
  have hk' := hk
  unfold mapN at hk'
  rw [hqf, hqs] at hk'
  clear hk hX
  have H := Lib.hid h
  have oz := Only.refl [go] w
  by_cases hb : qf = true ∧ qs = true
  · obtain ⟨rfl, rfl⟩ := hb
    rw [if_pos ⟨rfl, rfl⟩] at hk'
    have hf : 0 ≤ f ∧ f < 4 := by have := hqf; rw [hS.isF] at this; exact of_decide_eq_true this
    have hs : 4 ≤ s ∧ s < 6 := by have := hqs; rw [hS.isS] at this; exact of_decide_eq_true this
    by_cases e1 : pg < 0
    · rw [if_pos (.inl e1)] at hk'
      subst hk'
      rw [if_neg (by decide)] at hX'
      subst hX'
      clear h hqf hqs hS
      go_enter Try.func11, Try.ntmps11
      go_wp2_with ((first | (with_reducible refine cF.mono ?_) | (with_reducible refine cS.mono ?_)); rintro e w' ⟨rfl, hw⟩; subst hw)
      go_ret
      exact ⟨rfl, H.out, oz⟩
    by_cases e2 : 3 < pg
    · rw [if_pos (.inr (.inl e2))] at hk'
      subst hk'
      rw [if_neg (by decide)] at hX'
      subst hX'
      clear h hqf hqs hS
      go_enter Try.func11, Try.ntmps11
      go_wp2_with ((first | (with_reducible refine cF.mono ?_) | (with_reducible refine cS.mono ?_)); rintro e w' ⟨rfl, hw⟩; subst hw)
      go_ret
      exact ⟨rfl, H.out, oz⟩
    by_cases e3 : r < 0
    · rw [if_pos (.inr (.inr (.inl e3)))] at hk'
      subst hk'
      rw [if_neg (by decide)] at hX'
      subst hX'
      clear h hqf hqs hS
      go_enter Try.func11, Try.ntmps11
      go_wp2_with ((first | (with_reducible refine cF.mono ?_) | (with_reducible refine cS.mono ?_)); rintro e w' ⟨rfl, hw⟩; subst hw)
      go_ret
      exact ⟨rfl, H.out, oz⟩
    by_cases e4 : 7 < r
    · rw [if_pos (.inr (.inr (.inr e4)))] at hk'
      subst hk'
      rw [if_neg (by decide)] at hX'
      subst hX'
      clear h hqf hqs hS
      go_enter Try.func11, Try.ntmps11
      go_wp2_with ((first | (with_reducible refine cF.mono ?_) | (with_reducible refine cS.mono ?_)); rintro e w' ⟨rfl, hw⟩; subst hw)
      go_ret
      exact ⟨rfl, H.out, oz⟩
    rw [if_neg (by omega)] at hk'
    obtain ⟨a, rfl⟩ : ∃ a : Nat, f = a := ⟨f.toNat, by omega⟩
    obtain ⟨b, rfl⟩ : ∃ b : Nat, s = b := ⟨s.toNat, by omega⟩
    obtain ⟨q, rfl⟩ : ∃ q : Nat, pg = q := ⟨pg.toNat, by omega⟩
    have ha : a < 32 := by omega
    have hbb : b < 32 := by omega
    have hq : q < 4 := by omega
    obtain ⟨co, c1⟩ := h.cObjs
    obtain ⟨Aa, cpa, hca, -⟩ := h.obj ha
    obtain ⟨nn, hnn⟩ : ∃ x, (S.ob (a : Int)).inn = x := ⟨_, rfl⟩
    obtain ⟨pp, hpp⟩ : ∃ x, (S.ob (b : Int)).at q = x := ⟨_, rfl⟩
    have k28 : w.cell? ⟨go, a * 32 + 28, none⟩ = some (.int .i64 nn) := hnn ▸ hca 28 _ rfl
    have kpg := h.cPg hbb hq
    rw [hnn, hpp] at hk'
    rw [hpp] at kpg
    have x0 : (0 : Int) ≤ (a : Int) := by omega
    have x1 : (a : Int) < 32 := by omega
    have x2 : (0 : Int) ≤ (b : Int) := by omega
    have x3 : (b : Int) < 32 := by omega
    have x4 : (0 : Int) ≤ (q : Int) := by omega
    have x5 : (q : Int) < 4 := by omega
    clear hca hnn hpp hqf hqs hS
    by_cases e5 : 0 ≤ nn
    · rw [if_pos e5] at hk'
      subst hk'
      rw [if_neg (by decide)] at hX'
      subst hX'
      clear h
      go_enter Try.func11, Try.ntmps11
      go_wp2_with ((first | (with_reducible refine cF.mono ?_) | (with_reducible refine cS.mono ?_)); rintro e w' ⟨rfl, hw⟩; subst hw)
      go_ret
      exact ⟨rfl, H.out, oz⟩
    rw [if_neg e5] at hk'
    by_cases e6 : 0 ≤ pp
    · rw [if_pos e6] at hk'
      subst hk'
      rw [if_neg (by decide)] at hX'
      subst hX'
      clear h
      go_enter Try.func11, Try.ntmps11
      go_wp2_with ((first | (with_reducible refine cF.mono ?_) | (with_reducible refine cS.mono ?_)); rintro e w' ⟨rfl, hw⟩; subst hw)
      go_ret
      exact ⟨rfl, H.out, oz⟩
    rw [if_neg e6] at hk'
    subst hk'
    rw [if_pos rfl] at hX'
    obtain ⟨v, e, fz⟩ := h.fld (j := 20 + q) hbb (by omega)
    rw [← Nat.add_assoc] at e fz
    have q1 := h.setP hbb hq (a : Int)
    have H1 := Lib.hid q1
    have HX := Lib.hid hX'
    clear q1 h hX' oz
    go_enter Try.func11, Try.ntmps11
    go_upto_region 12 with ((first | (with_reducible refine cF.mono ?_) | (with_reducible refine cS.mono ?_)); rintro e w' ⟨rfl, hw⟩; subst hw)
    obtain ⟨w1, hw1⟩ : ∃ X, Hid (X = w.setCell ⟨go, b * 32 + 20 + q, none⟩ (.int .i64 a)) := ⟨_, Lib.hid rfl⟩
    rw [← hw1.out] at H1 ⊢
    clear c1 e fz hw1 k28 kpg cF cS H
    obtain ⟨co, c1⟩ := H1.out.1.cObjs
    obtain ⟨v, e, fz⟩ := H1.out.1.fld (j := 24 + q) hbb (by omega)
    rw [← Nat.add_assoc] at e fz
    have q1 := H1.out.1.setR hbb hq r
    have H2 := Lib.hid (And.intro q1.1 (H1.out.2.trans q1.2))
    clear q1
    go_upto_region 13 with fail
    obtain ⟨w2, hw2⟩ : ∃ X, Hid (X = w1.setCell ⟨go, b * 32 + 24 + q, none⟩ (.int .i64 r)) := ⟨_, Lib.hid rfl⟩
    rw [← hw2.out] at H2 ⊢
    clear c1 e fz hw2
    obtain ⟨co, c1⟩ := H2.out.1.cObjs
    obtain ⟨v, e, fz⟩ := H2.out.1.fld (j := 28) ha (by omega)
    have q1 := H2.out.1.setF1 ha (j := 28) (by omega) (.int .i64 b) (fun x => { x with inn := b }) (fun _ _ => rfl) (fun _ => rfl)
    have H3 := Lib.hid (And.intro q1.1 (H2.out.2.trans q1.2))
    clear q1
    go_upto_region 14 with fail
    obtain ⟨w3, hw3⟩ : ∃ X, Hid (X = w2.setCell ⟨go, a * 32 + 28, none⟩ (.int .i64 b)) := ⟨_, Lib.hid rfl⟩
    rw [← hw3.out] at H3 ⊢
    clear c1 e fz hw3
    obtain ⟨co, c1⟩ := H3.out.1.cObjs
    obtain ⟨v, e, fz⟩ := H3.out.1.fld (j := 29) ha (by omega)
    have q1 := H3.out.1.setF1 ha (j := 29) (by omega) (.int .i64 q) (fun x => { x with page := q }) (fun _ _ => rfl) (fun _ => rfl)
    have H4 := Lib.hid (And.intro q1.1 (H3.out.2.trans q1.2))
    clear q1
    go_wp2_with fail
    go_ret
    refine ⟨rfl, ?_, H4.out.2⟩
    rw [← HX.out, ← setPg_two S (b : Int) hq (a : Int) r, ← innS_two]
    exact H4.out.1
  · rw [if_neg hb] at hk'
    subst hk'
    rw [if_neg (by decide)] at hX'
    subst hX'
    clear h hqf hqs hS
    cases qf with
    | false =>
      go_enter Try.func11, Try.ntmps11
      go_wp2_with ((first | (with_reducible refine cF.mono ?_) | (with_reducible refine cS.mono ?_)); rintro e w' ⟨rfl, hw⟩; subst hw)
      go_ret
      exact ⟨rfl, H.out, oz⟩
    | true =>
      obtain rfl : qs = false := by simpa using hb
      go_enter Try.func11, Try.ntmps11
      go_wp2_with ((first | (with_reducible refine cF.mono ?_) | (with_reducible refine cS.mono ?_)); rintro e w' ⟨rfl, hw⟩; subst hw)
      go_ret
      exact ⟨rfl, H.out, oz⟩
set_option maxRecDepth 100000 in
set_option maxHeartbeats 1000000 in
theorem runm_any (h : RefM w p gs go S) (hS : SP S) (f : Int) :
    Calls Try.prog 9 #[.pointer (some ⟨p, 0, none⟩), .int .i64 f] w fun e w' => e = .returned (.int .i64 (unmN S f)) ∧ RefM w' p gs go (unmS S f) ∧ Only [go] w w' := by
  obtain ⟨qf, hqf⟩ : ∃ q, isO S f 6 = q := ⟨_, rfl⟩
  have cF := ris_is h hqf
  obtain ⟨k, hk⟩ : ∃ k, unmN S f = k := ⟨_, rfl⟩
  obtain ⟨X, hX⟩ : ∃ X, unmS S f = X := ⟨_, rfl⟩
  rw [hk, hX]
  have hX' := hX
  unfold unmS at hX'
  rw [hk] at hX'
  have hk' := hk
  unfold unmN at hk'
  rw [hqf] at hk'
  clear hk hX
  have H := Lib.hid h
  have oz := Only.refl [go] w
  cases qf with
  | false =>
    rw [if_neg (by simp)] at hk'
    subst hk'
    rw [if_neg (by decide)] at hX'
    subst hX'
    clear h hqf hS
    go_enter Try.func9, Try.ntmps9
    go_wp2_with ((with_reducible refine cF.mono ?_); rintro e w' ⟨rfl, hw⟩; subst hw)
    go_ret
    exact ⟨rfl, H.out, oz⟩
  | true =>
    rw [if_pos rfl] at hk'
    have hf : 0 ≤ f ∧ f < 4 := by have := hqf; rw [hS.isF] at this; exact of_decide_eq_true this
    have hfr := hS.fr f hf
    obtain ⟨a, rfl⟩ : ∃ a : Nat, f = a := ⟨f.toNat, by omega⟩
    have ha : a < 32 := by omega
    obtain ⟨nn, hnn⟩ : ∃ x, (S.ob (a : Int)).inn = x := ⟨_, rfl⟩
    obtain ⟨pp, hpp⟩ : ∃ x, (S.ob (a : Int)).page = x := ⟨_, rfl⟩
    obtain ⟨co, c1⟩ := h.cObjs
    obtain ⟨A, cp, hrow, -⟩ := h.cObj ha
    obtain ⟨row, hR⟩ : ∃ row, row = objRow (S.ob (a : Int)) (.slice A (S.ob (a : Int)).queue.length cp) := ⟨_, rfl⟩
    have hrl : row.length = 32 := hR ▸ rfl
    have hone : row.toArray.all (·.oneCell') = true := hR ▸ objRow_one _ _ _ _
    rw [← hR] at hrow
    have hrg : w.rangeAt go (a * 32) row := hrow
    have e28 : row[28]? = some (.int .i64 nn) := by rw [hR, ← hnn]; rfl
    have e29 : row[29]? = some (.int .i64 pp) := by rw [hR, ← hpp]; rfl
    have hsz : row.toArray.size = 32 := by simpa using hrl
    have HR := Lib.hid hrg
    rw [hnn] at hk'
    rw [hnn, hpp] at hX'
    rw [hnn, hpp] at hfr
    have x0 : (0 : Int) ≤ (a : Int) := by omega
    have x1 : (a : Int) < 32 := by omega
    have ho1 := (Only.refl [] w).alloc (.cells row.toArray ObT)
    have hb1 := Blk.new w ObT row.toArray
    have hr1 := h.only0 ho1
    have hne : w.heap.size ≠ go := by have := h.ltO; omega
    clear hR hrow hrg hnn hpp h hqf hS
    go_enter Try.func9, Try.ntmps9
    go_upto_region 5 with (first | (refine wpList_load_mid rfl ObT _ rfl go (a * 32) (by kernel_rfl) row _ HR.out Try.underlying46 rfl (by rw [hrl]; exact sizeOb) ?_) | (refine wpList_store_row rfl ObT _ _ rfl w.heap.size row.toArray (by kernel_rfl) (by kernel_rfl) ObT _ (heap_alloc_new w _) (by rw [hsz]; exact sizeOb) (by rw [hsz]; rfl) hone ?_; rw [World.setRow_alloc_new]) | ((with_reducible refine cF.mono ?_); rintro e w' ⟨rfl, hw⟩; subst hw) | fail)
    clear c1 cF
    have b28 : (w.alloc (.cells row.toArray ObT)).cell? ⟨w.heap.size, 28, none⟩ = some (.int .i64 nn) := by rw [hb1.cell]; simpa using e28
    have b29 : (w.alloc (.cells row.toArray ObT)).cell? ⟨w.heap.size, 29, none⟩ = some (.int .i64 pp) := by rw [hb1.cell]; simpa using e29
    have hbl := hb1.lt
    have HO := Lib.hid (show Only [go] w (w.alloc (.cells row.toArray ObT)) from (Only.refl [go] w).alloc _)
    clear e28 e29 hone hrl HR ho1 hb1 H oz hsz
    generalize w.alloc (.cells row.toArray ObT) = w1 at b28 b29 hbl hr1 HO ⊢
    generalize w.heap.size = B at b28 b29 hbl hne ⊢
    by_cases n0 : nn < 0
    · rw [if_pos n0] at hk'
      subst hk'
      rw [if_neg (by decide)] at hX'
      subst hX'
      have H1 := Lib.hid (And.intro hr1 HO.out)
      clear hr1 HO hfr
      go_wp2_with fail
      go_ret
      exact ⟨rfl, H1.out⟩
    · rw [if_neg n0] at hk'
      subst hk'
      rw [if_pos rfl] at hX'
      obtain ⟨hs, hp, -⟩ := hfr.resolve_left (fun z => by omega)
      obtain ⟨b, rfl⟩ : ∃ b : Nat, nn = b := ⟨nn.toNat, by omega⟩
      obtain ⟨q, rfl⟩ : ∃ q : Nat, pp = q := ⟨pp.toNat, by omega⟩
      have hbb : b < 32 := by omega
      have hq : q < 4 := by omega
      have x2 : (0 : Int) ≤ (b : Int) := by omega
      have x3 : (b : Int) < 32 := by omega
      have x4 : (0 : Int) ≤ (q : Int) := by omega
      have x5 : (q : Int) < 4 := by omega
      have HX := Lib.hid hX'
      clear hfr hX' n0
      go_upto_region 7 with fail
      obtain ⟨co, c1⟩ := hr1.cObjs
      obtain ⟨v, e, fz⟩ := hr1.fld (j := 20 + q) hbb (by omega)
      rw [← Nat.add_assoc] at e fz
      have hpz := hr1.ltP
      have hpg : p ≠ go := Blk.ne_ hr1.head.choose_spec.choose_spec hr1.objs.choose_spec.1 (by decide)
      have hgz := hr1.ltO
      have q1 := hr1.setP hbb hq (-1)
      have H1 := Lib.hid (show RefM (w1.setCell ⟨go, b * 32 + 20 + q, none⟩ (.int .i64 (-1))).drew p gs go _ ∧ Only [go] w (w1.setCell ⟨go, b * 32 + 20 + q, none⟩ (.int .i64 (-1))).drew from And.intro (q1.1.drewN 1) ((HO.out.trans q1.2).drewN 1))
      have hS0 : w1.drew.cell? ⟨p, 1, none⟩ = some (.slice (some ⟨go, 0, none⟩) 32 co) ∧ w1.drew.cell? ⟨B, 28, none⟩ = some (.int .i64 (b : Int)) ∧ w1.drew.cell? ⟨B, 29, none⟩ = some (.int .i64 (q : Int)) := ⟨c1, b28, b29⟩
      have hS1 : (w1.drew.setCell ⟨go, b * 32 + 20 + q, none⟩ (.int .i64 (-1))).cell? ⟨p, 1, none⟩ = some (.slice (some ⟨go, 0, none⟩) 32 co) ∧ (w1.drew.setCell ⟨go, b * 32 + 20 + q, none⟩ (.int .i64 (-1))).cell? ⟨B, 28, none⟩ = some (.int .i64 (b : Int)) ∧ (w1.drew.setCell ⟨go, b * 32 + 20 + q, none⟩ (.int .i64 (-1))).cell? ⟨B, 29, none⟩ = some (.int .i64 (q : Int)) :=
        ⟨(World.cell?_setCell_other _ _ _ _ (by intro e; injection e with e; exact hpg e.symm)).trans c1, (World.cell?_setCell_other _ _ _ _ (by intro e; injection e with e; exact hne e.symm)).trans b28, (World.cell?_setCell_other _ _ _ _ (by intro e; injection e with e; exact hne e.symm)).trans b29⟩
      have hbl1 : B < (w1.setCell ⟨go, b * 32 + 20 + q, none⟩ (.int .i64 (-1))).drew.heap.size := by simpa using hbl
      clear q1
      go_region_held3 (fun W => W.cell? ⟨p, 1, none⟩ = some (.slice (some ⟨go, 0, none⟩) 32 co) ∧ W.cell? ⟨B, 28, none⟩ = some (.int .i64 (b : Int)) ∧ W.cell? ⟨B, 29, none⟩ = some (.int .i64 (q : Int)))
        (first | exact hS0 | exact hS1 | fail)
        (first | fail)
      have d28 : (w1.setCell ⟨go, b * 32 + 20 + q, none⟩ (.int .i64 (-1))).drew.cell? ⟨B, 28, none⟩ = some (.int .i64 (b : Int)) := hS1.2.1
      have d29 : (w1.setCell ⟨go, b * 32 + 20 + q, none⟩ (.int .i64 (-1))).drew.cell? ⟨B, 29, none⟩ = some (.int .i64 (q : Int)) := hS1.2.2
      rename_i hheld
      clear hheld
      clear hS0 hS1 c1 e fz hpz hpg hgz hbl b28 b29
      generalize (w1.setCell ⟨go, b * 32 + 20 + q, none⟩ (.int .i64 (-1))).drew = w2 at H1 hbl1 d28 d29 ⊢
      have b28 := d28
      have b29 := d29
      have hbl := hbl1
      clear d28 d29 hbl1
      clear hr1 HO
      go_upto_region 8 with fail
      obtain ⟨co, c1⟩ := H1.out.1.cObjs
      obtain ⟨v, e, fz⟩ := H1.out.1.fld (j := 24 + q) hbb (by omega)
      rw [← Nat.add_assoc] at e fz
      have hpz := H1.out.1.ltP
      have hpg : p ≠ go := Blk.ne_ H1.out.1.head.choose_spec.choose_spec H1.out.1.objs.choose_spec.1 (by decide)
      have hgz := H1.out.1.ltO
      have q1 := H1.out.1.setR hbb hq 0
      have H2 := Lib.hid (show RefM (w2.setCell ⟨go, b * 32 + 24 + q, none⟩ (.int .i64 0)).drew p gs go _ ∧ Only [go] w (w2.setCell ⟨go, b * 32 + 24 + q, none⟩ (.int .i64 0)).drew from And.intro (q1.1.drewN 1) ((H1.out.2.trans q1.2).drewN 1))
      have hS0 : w2.drew.cell? ⟨p, 1, none⟩ = some (.slice (some ⟨go, 0, none⟩) 32 co) ∧ w2.drew.cell? ⟨B, 28, none⟩ = some (.int .i64 (b : Int)) ∧ w2.drew.cell? ⟨B, 29, none⟩ = some (.int .i64 (q : Int)) := ⟨c1, b28, b29⟩
      have hS1 : (w2.drew.setCell ⟨go, b * 32 + 24 + q, none⟩ (.int .i64 0)).cell? ⟨p, 1, none⟩ = some (.slice (some ⟨go, 0, none⟩) 32 co) ∧ (w2.drew.setCell ⟨go, b * 32 + 24 + q, none⟩ (.int .i64 0)).cell? ⟨B, 28, none⟩ = some (.int .i64 (b : Int)) ∧ (w2.drew.setCell ⟨go, b * 32 + 24 + q, none⟩ (.int .i64 0)).cell? ⟨B, 29, none⟩ = some (.int .i64 (q : Int)) :=
        ⟨(World.cell?_setCell_other _ _ _ _ (by intro e; injection e with e; exact hpg e.symm)).trans c1, (World.cell?_setCell_other _ _ _ _ (by intro e; injection e with e; exact hne e.symm)).trans b28, (World.cell?_setCell_other _ _ _ _ (by intro e; injection e with e; exact hne e.symm)).trans b29⟩
      have hbl1 : B < (w2.setCell ⟨go, b * 32 + 24 + q, none⟩ (.int .i64 0)).drew.heap.size := by simpa using hbl
      clear q1
      go_region_held3 (fun W => W.cell? ⟨p, 1, none⟩ = some (.slice (some ⟨go, 0, none⟩) 32 co) ∧ W.cell? ⟨B, 28, none⟩ = some (.int .i64 (b : Int)) ∧ W.cell? ⟨B, 29, none⟩ = some (.int .i64 (q : Int)))
        (first | exact hS0 | exact hS1 | fail)
        (first | fail)
      have d28 : (w2.setCell ⟨go, b * 32 + 24 + q, none⟩ (.int .i64 0)).drew.cell? ⟨B, 28, none⟩ = some (.int .i64 (b : Int)) := hS1.2.1
      have d29 : (w2.setCell ⟨go, b * 32 + 24 + q, none⟩ (.int .i64 0)).drew.cell? ⟨B, 29, none⟩ = some (.int .i64 (q : Int)) := hS1.2.2
      rename_i hheld
      clear hheld
      clear hS0 hS1 c1 e fz hpz hpg hgz hbl b28 b29
      generalize (w2.setCell ⟨go, b * 32 + 24 + q, none⟩ (.int .i64 0)).drew = w3 at H2 hbl1 d28 d29 ⊢
      have b28 := d28
      have b29 := d29
      have hbl := hbl1
      clear d28 d29 hbl1
      clear b28 b29 hbl hne H1
      obtain ⟨co, c1⟩ := H2.out.1.cObjs
      obtain ⟨v, e, fz⟩ := H2.out.1.fld (j := 28) ha (by omega)
      have q1 := H2.out.1.setF1 ha (j := 28) (by omega) (.int .i64 (-1)) (fun x => { x with inn := -1 }) (fun _ _ => rfl) (fun _ => rfl)
      have H3 := Lib.hid (And.intro q1.1 (H2.out.2.trans q1.2))
      clear q1
      go_upto_region 10 with fail
      obtain ⟨w4, hw4⟩ : ∃ X, Hid (X = w3.setCell ⟨go, a * 32 + 28, none⟩ (.int .i64 (-1))) := ⟨_, Lib.hid rfl⟩
      rw [← hw4.out] at H3 ⊢
      clear c1 e fz hw4
      obtain ⟨co, c1⟩ := H3.out.1.cObjs
      obtain ⟨v, e, fz⟩ := H3.out.1.fld (j := 29) ha (by omega)
      have q1 := H3.out.1.setF1 ha (j := 29) (by omega) (.int .i64 0) (fun x => { x with page := 0 }) (fun _ _ => rfl) (fun _ => rfl)
      have H4 := Lib.hid (And.intro q1.1 (H3.out.2.trans q1.2))
      clear q1
      go_wp2_with fail
      go_ret
      refine ⟨rfl, ?_, H4.out.2⟩
      rw [← HX.out, ← setPg_two S (b : Int) hq (-1) 0, ← innS_two]
      exact H4.out.1
end
end Go.Proofs.Ytihipcbhfjpgbaa
