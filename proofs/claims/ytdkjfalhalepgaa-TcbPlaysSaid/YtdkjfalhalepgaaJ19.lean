/- What the document's Suspend, Prio do (layers 17 to 22). -/
import Derived.Test.YtdkjfalhalepgaaRefCancel
import Derived.Test.YtdkjfalhalepgaaJ17
import Derived.Test.YtdkjfalhalepgaaJ11
import Derived.Test.YtdkjfalhalepgaaJ12
import Derived.Test.YtdkjfalhalepgaaJ15
import Derived.Test.YtdkjfalhalepgaaJ16
namespace Go.Proofs.Ytdkjfalhalepgaa
open Go.RowKit
section
variable {w w' : World} {p gs go : Nat} {S : RSt}
def susN (S : RSt) (t : Int) : Int := if isO S t 5 then (if (S.ob t).state = 0 then 10 else 0) else 2
def susS (S : RSt) (t : Int) : RSt := if isO S t 5 ∧ (S.ob t).state ≠ 0 then cancelS S t else S
theorem rsuspend_any (h : RefM w p gs go S) (t : Int) (hk : Eok S) :
    Calls Try.prog 10 #[.pointer (some ⟨p, 0, none⟩), .int .i64 t] w fun e w' => e = .returned (.int .i64 (susN S t)) ∧ RefM w' p gs go (susS S t) ∧ Only [go] w w' := by
  obtain ⟨q, hq⟩ : ∃ q, isO S t 5 = q := ⟨_, rfl⟩
  have cI := ris_is h hq
  unfold susN susS
  cases q with
  | false =>
    rw [hq, if_neg (by simp), if_neg (by simp)]
    have H := Lib.hid h
    clear h
    go_enter Try.func10, Try.ntmps10
    go_wp2_with fail
    (with_reducible refine cI.mono ?_)
    clear cI
    rintro e w' ⟨rfl, hw⟩
    subst hw
    go_wp2_with fail
    go_ret
    exact ⟨rfl, H.out, Only.refl _ _⟩
  | true =>
    obtain ⟨n, rfl, hn, h5⟩ := isO_yes hq
    have hth : S.Thr (n : Int) := ⟨⟨by omega, by omega⟩, h5⟩
    obtain ⟨A, cp, hc, -⟩ := h.obj hn
    obtain ⟨st, hst⟩ : ∃ st, (S.ob (n : Int)).state = st := ⟨_, rfl⟩
    have c8 : w.cell? ⟨go, n * 32 + 8, none⟩ = some (.int .i64 st) := hst ▸ hc 8 _ rfl
    obtain ⟨co, c1⟩ := h.cObjs
    have ho1 : (S.ob (n : Int)).owing.toNat < 32 := by
      by_cases e : 0 ≤ (S.ob (n : Int)).owing
      · have := (hk.eii.b n _ hth rfl e).1.1; omega
      · omega
    have ho2 : (S.ob (n : Int)).on.toNat < 32 := by
      by_cases e : 0 ≤ (S.ob (n : Int)).on
      · have hm := (hk.ei.on n hth _ e).1 rfl
        have := (hk.ei.qf.own _ (fun e => by rw [e] at hm; simp at hm)).1
        omega
      · omega
    have cK := rcancel_any h hn ho1 ho2 (fun x => Nat.le_trans (hk.qlen32 x) (by decide))
    have h0 : (0 : Int) ≤ (n : Int) := by omega
    have h1 : (n : Int) < 32 := by omega
    rw [hq, hst]
    have H := Lib.hid h
    clear hc hq hst ho1 ho2 h h5 hth hk
    by_cases e0 : st = 0
    · subst e0
      rw [if_pos rfl, if_pos rfl, if_neg (by simp)]
      clear cK
      go_enter Try.func10, Try.ntmps10
      go_wp2_with fail
      (with_reducible refine cI.mono ?_)
      clear cI
      rintro e w' ⟨rfl, hw⟩
      subst hw
      go_wp2_with fail
      go_ret
      exact ⟨rfl, H.out, Only.refl _ _⟩
    · have e1 : (st == 0) = false := by simpa using e0
      rw [if_pos rfl, if_neg e0, if_pos ⟨rfl, e0⟩]
      go_enter Try.func10, Try.ntmps10
      go_wp2_with fail
      (with_reducible refine cI.mono ?_)
      clear cI
      rintro e w' ⟨rfl, hw⟩
      subst hw
      go_wp2_with fail
      (with_reducible refine cK.mono ?_)
      clear cK
      rintro e w1 ⟨rfl, hr1, ho1⟩
      go_wp2_with fail
      go_ret
      exact ⟨rfl, hr1, ho1⟩
theorem rprio_any (h : RefM w p gs go S) (t n : Int) :
    Calls Try.prog 14 #[.pointer (some ⟨p, 0, none⟩), .int .i64 t, .int .i64 n] w fun e w' => e = .returned (.int .i64 (prioN S t n)) ∧ RefM w' p gs go (prioT S t n) ∧ Only [go] w w' := by
  obtain ⟨q, hq⟩ : ∃ q, isO S t 5 = q := ⟨_, rfl⟩
  have cI := ris_is h hq
  unfold prioN prioT
  cases q with
  | false =>
    rw [hq, if_neg (by simp), if_neg (by simp)]
    have H := Lib.hid h
    clear h
    go_enter Try.func14, Try.ntmps14
    go_wp2_with fail
    (with_reducible refine cI.mono ?_)
    clear cI
    rintro e w' ⟨rfl, hw⟩
    subst hw
    go_wp2_with fail
    go_ret
    exact ⟨rfl, H.out, Only.refl _ _⟩
  | true =>
    obtain ⟨m, rfl, hm, -⟩ := isO_yes hq
    rw [hq]
    have H := Lib.hid h
    have h0 : (0 : Int) ≤ (m : Int) := by omega
    have h1 : (m : Int) < 32 := by omega
    by_cases n0 : n < 0
    · rw [if_pos rfl, if_pos (.inl n0), if_neg (fun z => z.2 (.inl n0))]
      clear h hq
      go_enter Try.func14, Try.ntmps14
      go_wp2_with fail
      (with_reducible refine cI.mono ?_)
      clear cI
      rintro e w' ⟨rfl, hw⟩
      subst hw
      go_wp2_with fail
      go_ret
      exact ⟨rfl, H.out, Only.refl _ _⟩
    by_cases n9 : 255 < n
    · rw [if_pos rfl, if_pos (.inr n9), if_neg (fun z => z.2 (.inr n9))]
      clear h hq
      go_enter Try.func14, Try.ntmps14
      go_wp2_with fail
      (with_reducible refine cI.mono ?_)
      clear cI
      rintro e w' ⟨rfl, hw⟩
      subst hw
      go_wp2_with fail
      go_ret
      exact ⟨rfl, H.out, Only.refl _ _⟩
    · rw [if_pos rfl, if_neg (by omega), if_pos ⟨rfl, by omega⟩]
      obtain ⟨co, c1⟩ := h.cObjs
      obtain ⟨v, e, f⟩ := h.fld (j := 11) hm (by omega)
      have q1 := h.setF1 hm (j := 11) (by omega) (.int .i64 n) (fun x => { x with prio := n }) (fun _ _ => rfl) (fun _ => rfl)
      have H1 := Lib.hid q1
      clear q1 h hq H
      go_enter Try.func14, Try.ntmps14
      go_wp2_with fail
      (with_reducible refine cI.mono ?_)
      clear cI
      rintro e w' ⟨rfl, hw⟩
      subst hw
      go_wp2_with fail
      go_ret
      exact ⟨rfl, H1.out.1, H1.out.2⟩
end
end Go.Proofs.Ytdkjfalhalepgaa
/- What the document's Highest answers (layers 17 to 22). -/
namespace Go.Proofs.Ytdkjfalhalepgaa
open Go.RowKit
/-- is it a Thread that is ready -/
def rdyB (S : RSt) (i : Int) : Bool := decide ((S.ob i).kind = 5 ∧ (S.ob i).state = 1)
/-- of the first n objects the ready one of the greatest priority, or -1 -/
def hiN (S : RSt) : Nat → Int
  | 0 => -1
  | n + 1 => if rdyB S n = true then (if hiN S n < 0 then (n : Int) else if (S.ob (hiN S n)).prio < (S.ob n).prio then (n : Int) else hiN S n) else hiN S n
theorem hiN_rng (S : RSt) : ∀ n : Nat, -1 ≤ hiN S n ∧ hiN S n < n := by
  intro n
  induction n with
  | zero => exact ⟨Int.le_refl _, show (-1 : Int) < 0 by decide⟩
  | succ n ih =>
    unfold hiN
    split
    · split
      · omega
      · split <;> omega
    · omega
section
variable {w w' : World} {p gs go : Nat} {S : RSt}
set_option maxRecDepth 100000 in
theorem rhigh_any (h : RefM w p gs go S) :
    Calls Try.prog 25 #[.pointer (some ⟨p, 0, none⟩)] w fun e w' => e = .returned (.int .i64 (hiN S 32)) ∧ Only [] w w' := by
  have HS := Lib.hid h
  go_enter Try.func25, Try.ntmps25
  go_wp2_with fail
  go_loopw [3, 4] (fun b i wr => ∃ k : Nat, k ≤ 32 ∧ i = .int .i64 k ∧ b = .int .i64 (hiN S k) ∧ Only [] w wr) (fun _ i _ => 32 - (intOf i).toNat)
  case atStart => exact ⟨0, by omega, rfl, rfl, Only.refl _ _⟩
  case round =>
    obtain ⟨k, hk, rfl, rfl, ho⟩ := hrel
    obtain ⟨bb, hbb⟩ : ∃ x, hiN S k = x := ⟨_, rfl⟩
    have hrg := hiN_rng S k
    rw [hbb] at hrg ⊢
    by_cases hlt : k < 32
    · have hlt' : (k : Int) < 32 := by omega
      have h0 : (0 : Int) ≤ (k : Int) := by omega
      have hr := HS.out.only0 ho
      obtain ⟨co, c1⟩ := hr.cObjs
      obtain ⟨A, cp, hrow, -⟩ := hr.cObj hlt
      obtain ⟨row, hR⟩ : ∃ row, row = objRow (S.ob (k : Int)) (.slice A (S.ob (k : Int)).queue.length cp) := ⟨_, rfl⟩
      have hrl : row.length = 32 := hR ▸ rfl
      have hone : row.toArray.all (·.oneCell') = true := hR ▸ objRow_one _ _ _ _
      rw [← hR] at hrow
      have hrg2 : wr.rangeAt go (k * 32) row := hrow
      obtain ⟨kd, hkd⟩ : ∃ x, (S.ob (k : Int)).kind = x := ⟨_, rfl⟩
      obtain ⟨st, hst⟩ : ∃ x, (S.ob (k : Int)).state = x := ⟨_, rfl⟩
      obtain ⟨pr, hpr⟩ : ∃ x, (S.ob (k : Int)).prio = x := ⟨_, rfl⟩
      have e0 : row[0]? = some (.int .i64 kd) := by rw [hR, ← hkd]; rfl
      have e8 : row[8]? = some (.int .i64 st) := by rw [hR, ← hst]; rfl
      have e11 : row[11]? = some (.int .i64 pr) := by rw [hR, ← hpr]; rfl
      have hsz : row.toArray.size = 32 := by simpa using hrl
      have HR := Lib.hid hrg2
      have hstep : hiN S (k + 1) = if kd = 5 ∧ st = 1 then (if bb < 0 then (k : Int) else if (S.ob bb).prio < pr then (k : Int) else bb) else bb := by
        show (if rdyB S k = true then (if hiN S k < 0 then (k : Int) else if (S.ob (hiN S k)).prio < (S.ob k).prio then (k : Int) else hiN S k) else hiN S k) = _
        rw [hbb, hpr]
        unfold rdyB
        rw [hkd, hst]
        simp only [decide_eq_true_eq]
      have HH := Lib.hid (And.intro hstep (And.intro ho hbb))
      obtain ⟨pb, hpb⟩ : ∃ x, (S.ob bb).prio = x := ⟨_, rfl⟩
      have hob : ∀ b : Nat, (b : Int) = bb → b < 32 → wr.cell? ⟨go, b * 32 + 11, none⟩ = some (.int .i64 pb) := fun b hb hb2 => by
        obtain ⟨A2, cp2, hc2, -⟩ := hr.obj hb2
        exact hpb ▸ hb ▸ hc2 11 _ rfl
      have HB := Lib.hid (And.intro hob hpb)
      clear hR hrow hrg2 hstep ho hbb hob hpb hkd hst hpr
      have ho1 := (Only.refl [] wr).alloc (.cells row.toArray ObT)
      have hb1 := Blk.new wr ObT row.toArray
      go_upto_region 6 with (first | (refine wpList_load_mid rfl ObT _ rfl go (k * 32) (by kernel_rfl) row _ HR.out Try.underlying61 rfl (by rw [hrl]; exact sizeOb) ?_) | (refine wpList_store_row rfl ObT _ _ rfl wr.heap.size row.toArray (by kernel_rfl) (by kernel_rfl) ObT _ (heap_alloc_new wr _) (by rw [hsz]; exact sizeOb) (by rw [hsz]; rfl) hone ?_; rw [World.setRow_alloc_new]) | fail)
      have b0 : (wr.alloc (.cells row.toArray ObT)).cell? ⟨wr.heap.size, 0, none⟩ = some (.int .i64 kd) := by rw [hb1.cell]; simpa using e0
      have b8 : (wr.alloc (.cells row.toArray ObT)).cell? ⟨wr.heap.size, 8, none⟩ = some (.int .i64 st) := by rw [hb1.cell]; simpa using e8
      have b11 : (wr.alloc (.cells row.toArray ObT)).cell? ⟨wr.heap.size, 11, none⟩ = some (.int .i64 pr) := by rw [hb1.cell]; simpa using e11
      have hr1 := hr.only0 ho1
      obtain ⟨co1, d1⟩ := hr1.cObjs
      have hOB := Lib.hid fun (b : Nat) (hb : (b : Int) = bb) (hb2 : b < 32) => (ho1.cell (p := ⟨go, b * 32 + 11, none⟩) hr.ltO (by simp)).trans (HB.out.1 b hb hb2)
      have HO := Lib.hid (HH.out.2.1.trans ho1)
      clear e0 e8 e11 hsz hone hrl hr hr1 c1 ho1 hb1 HR
      generalize wr.alloc (.cells row.toArray ObT) = w1 at b0 b8 b11 d1 hOB HO ⊢
      generalize wr.heap.size = B at b0 b8 b11 ⊢
      have hm0 : (32 - ((k : Int) + 1).toNat) < 32 - k := by omega
      by_cases rk : kd = 5
      · by_cases rs : st = 1
        · have q1 : (kd != 5) = false := by simpa using rk
          have q2 : (st != 1) = false := by simpa using rs
          have hst := HH.out.1
          rw [if_pos ⟨rk, rs⟩] at hst
          clear rk rs
          by_cases n0 : bb < 0
          · rw [if_pos n0] at hst
            have HT := Lib.hid hst
            clear hst HB hOB
            go_wp2_with fail
            go_roundw
            case rel => exact ⟨k + 1, by omega, by go_num, by rw [HT.out], HO.out⟩
            case measure => simp [intOf]; omega
          · rw [if_neg n0, HB.out.2] at hst
            obtain ⟨b, hb, hb2⟩ : ∃ b : Nat, (b : Int) = bb ∧ b < 32 := ⟨bb.toNat, by omega, by omega⟩
            have c11 := hOB.out b hb hb2
            have HT := Lib.hid hst
            have HB2 := Lib.hid hb
            have j0 : (0 : Int) ≤ (b : Int) := by omega
            have j1 : (b : Int) < 32 := by omega
            clear hst
            subst hb
            clear HB hOB
            by_cases np : pb < pr
            · have hst := HT.out
              rw [if_pos np] at hst
              have HT2 := Lib.hid hst
              clear hst HT
              go_upto_region 9 with fail
              go_region_held3 (fun W => W.cell? ⟨p, 1, none⟩ = some (.slice (some ⟨go, 0, none⟩) 32 co1) ∧ W.cell? ⟨B, 11, none⟩ = some (.int .i64 pr) ∧ W.cell? ⟨go, b * 32 + 11, none⟩ = some (.int .i64 pb))
                (first | exact And.intro d1 (And.intro b11 c11) | fail)
                (first | fail)
              go_wp2_with fail
              go_roundw
              case rel => exact ⟨k + 1, by omega, by go_num, by rw [HT2.out], HO.out.drewN 1⟩
              case measure => simp [intOf]; omega
            · have hst := HT.out
              rw [if_neg np] at hst
              have HT2 := Lib.hid hst
              clear hst HT
              go_upto_region 9 with fail
              go_region_held3 (fun W => W.cell? ⟨p, 1, none⟩ = some (.slice (some ⟨go, 0, none⟩) 32 co1) ∧ W.cell? ⟨B, 11, none⟩ = some (.int .i64 pr) ∧ W.cell? ⟨go, b * 32 + 11, none⟩ = some (.int .i64 pb))
                (first | exact And.intro d1 (And.intro b11 c11) | fail)
                (first | fail)
              go_wp2_with fail
              go_roundw
              case rel => exact ⟨k + 1, by omega, by go_num, by rw [HT2.out], HO.out.drewN 1⟩
              case measure => simp [intOf]; omega
        · have q1 : (kd != 5) = false := by simpa using rk
          have q2 : (st != 1) = true := by simpa using rs
          have hst := HH.out.1
          rw [if_neg (fun z => rs z.2)] at hst
          have HT := Lib.hid hst
          clear hst HB hOB rk rs
          go_wp2_with fail
          go_roundw
          case rel => exact ⟨k + 1, by omega, by go_num, by rw [HT.out], HO.out⟩
          case measure => simp [intOf]; omega
      · have q1 : (kd != 5) = true := by simpa using rk
        have hst := HH.out.1
        rw [if_neg (fun z => rk z.1)] at hst
        have HT := Lib.hid hst
        clear hst HB hOB rk
        go_wp2_with fail
        go_roundw
        case rel => exact ⟨k + 1, by omega, by go_num, by rw [HT.out], HO.out⟩
        case measure => simp [intOf]; omega
    · obtain rfl : k = 32 := by omega
      go_wp2_with fail
      go_ret
      exact ⟨by rw [hbb]; rfl, ho⟩
end
end Go.Proofs.Ytdkjfalhalepgaa
/- Package tcb's calls on plain words that tell a sound state (layer 17). -/
namespace Go.Proofs.Ytdkjfalhalepgaa
open Go.RowKit
section
variable {g : Nat} {w : World} {S : RSt}
theorem tsus_is (hm : MemP g 738 UT w (wordsG S)) (h : Eok S) (t : Int) :
    Calls Try.prog 9 #[pvw g, .int .i64 t] w fun e w' => e = .returned (errV (susN S t)) ∧ MemP g 738 UT w' (wordsG (susS S t)) ∧ Only [g] w w' := by
  obtain ⟨L', h2, q⟩ := h.wok.tsus h t
  refine (vtsus_is (viewP g 738 738 UT) hm h2 ?_).mono fun e w' ⟨he, hm', ho⟩ => ⟨he, q.words ▸ hm', ho⟩
  rw [h.wok.isPt t (by decide)]
  cases e : isO S t 5 with
  | false => exact .inl (by simp)
  | true => exact .inr ⟨(isO_in e).1.1, by have := (isO_in e).1.2; omega⟩
theorem tres_is (hm : MemP g 738 UT w (wordsG S)) (h : Eok S) (t : Int) :
    Calls Try.prog 11 #[pvw g, .int .i64 t] w fun e w' => e = .returned (errV (resN S t)) ∧ MemP g 738 UT w' (wordsG (resS S t)) ∧ Only [g] w w' := by
  obtain ⟨L', h2, q⟩ := h.wok.tres h t
  exact (vtres_is (viewP g 738 738 UT) hm h2).mono fun e w' ⟨he, hm', ho⟩ => ⟨he, q.words ▸ hm', ho⟩
theorem tpri_is (hm : MemP g 738 UT w (wordsG S)) (h : Eok S) (t n : Int) (hn : -9223372036854775808 ≤ n ∧ n ≤ 9223372036854775807) :
    Calls Try.prog 13 #[pvw g, .int .i64 t, .int .i64 n] w fun e w' => e = .returned (errV (prioN S t n)) ∧ MemP g 738 UT w' (wordsG (prioT S t n)) ∧ Only [g] w w' := by
  obtain ⟨L', h2, q⟩ := h.wok.tpri h t n
  exact (vtpri_is (viewP g 738 738 UT) hm h2).mono fun e w' ⟨he, hm', ho⟩ => ⟨he, q.words ▸ hm', ho⟩
theorem tset_is (hm : MemP g 738 UT w (wordsG S)) (h : Eok S) (hn : Nodes S) (t : Int) (c : Cp) :
    Calls Try.prog 15 #[pvw g, .int .i64 t, c.v] w fun e w' => e = .returned (errV (setrN S t c)) ∧ MemP g 738 UT w' (wordsG (setrS S t c)) ∧ Only [g] w w' := by
  obtain ⟨L', h2, q⟩ := h.wok.tset hn t c
  exact (vtset_is (viewP g 738 738 UT) hm h2).mono fun e w' ⟨he, hm', ho⟩ => ⟨he, q.words ▸ hm', ho⟩
theorem hiN_thr (S : RSt) : ∀ n : Nat, n ≤ 32 → 0 ≤ hiN S n → S.Thr (hiN S n) := by
  intro n
  induction n with
  | zero => intro _ h; exact absurd h (show ¬ (0 ≤ (-1 : Int)) by decide)
  | succ n ih =>
    intro hn h
    have ht : rdyB S n = true → S.Thr (n : Int) := fun e => ⟨⟨by omega, by omega⟩, (of_decide_eq_true e).1⟩
    unfold hiN at h ⊢
    split
    · next e =>
      split
      · exact ht e
      · split
        · exact ht e
        · exact ih (by omega) (by omega)
    · next e =>
      rw [if_neg e] at h
      exact ih (by omega) h
theorem hi_run {L : List Int} (hw : Wok L S) (h : Eok S) : ∀ (r k : Nat), k + r = 32 →
    (thiP r (k : Int) (if hiN S k < 0 then 0 else hiN S k) (decide (0 ≤ hiN S k))).run machP L = ((if hiN S 32 < 0 then 0 else hiN S 32, decide (0 ≤ hiN S 32)), L) := by
  intro r
  induction r with
  | zero =>
    intro k hk
    obtain rfl : k = 32 := by omega
    rfl
  | succ r ih =>
    intro k hk
    have hT := hiN_thr S k (by omega)
    have e := hw.tbet h (t := (k : Int)) (b := if hiN S k < 0 then 0 else hiN S k) ⟨by omega, by omega⟩ (decide (0 ≤ hiN S k)) (fun e => by
      have e := of_decide_eq_true e
      rw [if_neg (by omega)]
      exact hT e)
    have i := ih (k + 1) (by omega)
    rw [show ((k + 1 : Nat) : Int) = (k : Int) + 1 by omega] at i
    have hs : hiN S (k + 1) = if rdyB S k = true then (if hiN S k < 0 then (k : Int) else if (S.ob (hiN S k)).prio < (S.ob k).prio then (k : Int) else hiN S k) else hiN S k := rfl
    unfold thiP
    rw [Vp.run_bind_is e]
    have hr : rdyO S (k : Int) = rdyB S k := rfl
    rw [hr]
    by_cases hq : rdyB S k = true
    · rw [if_pos hq] at hs
      by_cases hb : hiN S k < 0
      · rw [if_pos hb] at hs
        rw [hs, if_neg (by omega), decide_eq_true (by omega)] at i
        rw [hq, if_pos hb, decide_eq_false (by omega), if_pos (by simp)]
        exact i
      · rw [if_neg hb] at hs
        by_cases hp : (S.ob (hiN S k)).prio < (S.ob (k : Int)).prio
        · rw [if_pos hp] at hs
          rw [hs, if_neg (by omega), decide_eq_true (by omega)] at i
          rw [hq, if_neg hb, decide_eq_true (show 0 ≤ hiN S k by omega), decide_eq_true hp, if_pos (by simp)]
          exact i
        · rw [if_neg hp] at hs
          rw [hs] at i
          rw [hq, if_neg hb, decide_eq_true (show 0 ≤ hiN S k by omega), decide_eq_false hp, if_neg (by simp)]
          rw [if_neg hb, decide_eq_true (show 0 ≤ hiN S k by omega)] at i
          exact i
    · rw [if_neg hq] at hs
      rw [hs] at i
      rw [show rdyB S k = false by simpa using hq, if_neg (by simp)]
      exact i
theorem thi_is (hm : MemP g 738 UT w (wordsG S)) (h : Eok S) :
    Calls Try.prog 24 #[pvw g] w fun e w' => e = .returned (.tuple #[.int .i64 (if hiN S 32 < 0 then 0 else hiN S 32), .bool (decide (0 ≤ hiN S 32))]) ∧ MemP g 738 UT w' (wordsG S) ∧ Only [g] w w' :=
  vthi_is (viewP g 738 738 UT) hm (hi_run h.wok h 32 0 (by omega))
theorem thi_zero (hm : MemP g 738 UT w zeros) :
    Calls Try.prog 24 #[pvw g] w fun e w' => e = .returned (.tuple #[.int .i64 0, .bool false]) ∧ MemP g 738 UT w' zeros ∧ Only [g] w w' :=
  vthi_is (viewP g 738 738 UT) hm (thi_none zeros_at 32 0)
theorem trt_is (hm : MemP g 738 UT w (wordsG S)) (h : Eok S) {t : Int} (ht : S.Thr t) (hr : (S.ob t).root.may) :
    Calls Try.prog 28 #[pvw g, .int .i64 t] w fun e w' => e = .returned (S.ob t).root.v ∧ MemP g 738 UT w' (wordsG S) ∧ Only [g] w w' :=
  vtroot_is (viewP g 738 738 UT) hm (h.wok.troot ht hr)
theorem trt_bad (hm : MemP g 738 UT w (wordsG S)) {t : Int} (ht : ¬ (0 ≤ t ∧ t < 32)) :
    Calls Try.prog 28 #[pvw g, .int .i64 t] w fun e w' => e = .returned Cp.zero.v ∧ MemP g 738 UT w' (wordsG S) ∧ Only [g] w w' :=
  vtroot_is (viewP g 738 738 UT) hm (troot_no ht)
end
end Go.Proofs.Ytdkjfalhalepgaa
