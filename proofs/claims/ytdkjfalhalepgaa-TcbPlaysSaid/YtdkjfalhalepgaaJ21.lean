/- What the document's Recv answers and does (layers 15 to 22). -/
import Derived.Test.YtdkjfalhalepgaaRefSend
import Derived.Test.YtdkjfalhalepgaaRefPop
import Derived.Test.YtdkjfalhalepgaaJ1
import Derived.Test.YtdkjfalhalepgaaRows
import Derived.Test.YtdkjfalhalepgaaJ11
import Derived.WalkKit
import Derived.WalkSpells
import Derived.WalkLawsBesides
import Derived.Handy
import Derived.BigQuiet
import Derived.Deep.QuietTactic
import Derived.RegionTactic
import Derived.Lib.Hide
namespace Go.Proofs.Ytdkjfalhalepgaa
open Go.RowKit
abbrev replyV' (w b : Int) : Value := .agg #[.int .i64 0, .int .i64 w, .int .i64 b]
abbrev RyT : TypeId := 46
/-- word, badge, whether, the error -/
def recvA (S : RSt) (ep t : Int) : Int × Int × Bool × Int :=
  if 0 ≤ (S.ob t).owes then (0, 0, false, 10) else if (S.ob ep).wait = 1 then ((S.ob (headQ S ep)).word, (S.ob (headQ S ep)).badge, true, 0) else (0, 0, false, 0)
section
variable {w w' w1 : World} {p gs go : Nat} {S : RSt}
theorem blk3' {g : Nat} {t : TypeId} {a b c : Value} (h : Blk w g t #[a, b, c]) : w.cell? ⟨g, 0, none⟩ = some a ∧ w.cell? ⟨g, 1, none⟩ = some b ∧ w.cell? ⟨g, 2, none⟩ = some c ∧ w.frozen? ⟨g, 0, none⟩ = false ∧ w.frozen? ⟨g, 1, none⟩ = false ∧ w.frozen? ⟨g, 2, none⟩ = false :=
  ⟨h.cell 0, h.cell 1, h.cell 2, h.frozen 0, h.frozen 1, h.frozen 2⟩
/-- the result's own block is written: the state's blocks stay -/
theorem putR3 (h : RefM w1 p gs go S) (ho : Only [go] w w1) {g : Nat} (hg : w.heap.size ≤ g) {cs : Array Value} (hb : Blk w1 g RyT cs) (h1 : g ≠ p) (h2 : g ≠ gs) (h3 : g ≠ go) (a b c : Value) :
    RefM (((w1.setCell ⟨g, 0, none⟩ a).setCell ⟨g, 1, none⟩ b).setCell ⟨g, 2, none⟩ c) p gs go S ∧ Only [go] w (((w1.setCell ⟨g, 0, none⟩ a).setCell ⟨g, 1, none⟩ b).setCell ⟨g, 2, none⟩ c) := by
  have q : Only [g] w1 (((w1.setCell ⟨g, 0, none⟩ a).setCell ⟨g, 1, none⟩ b).setCell ⟨g, 2, none⟩ c) := (((Only.refl [g] w1).setCell (.inl (by simp)) a).setCell (.inl (by simp)) b).setCell (.inl (by simp)) c
  refine ⟨h.only q (by simp; exact Ne.symm h1) (by simp; exact Ne.symm h2) (by simp; exact Ne.symm h3) (fun k cur hk hm => ?_), ((ho.setCell (.inr hg) a).setCell (.inr hg) b).setCell (.inr hg) c⟩
  simp at hm
  subst hm
  exact absurd (hk.uniq hb).1 (by decide)
set_option maxRecDepth 100000 in
theorem rrecv_any (h : RefM w p gs go S) (hk : Eok S) {ep t : Nat} (he : EpAt S (ep : Int)) (ht : t < 32) {n b k : Int} {q : Bool} (hA : recvA S ep t = (n, b, q, k)) :
    Calls Try.prog 21 #[.pointer (some ⟨p, 0, none⟩), .int .i64 ep, .int .i64 t] w fun e w' => e = .returned (.tuple #[replyV' n b, .bool q, .int .i64 k]) ∧ RefM w' p gs go (recvS S ep t) ∧ Only [go] w w' := by
  have hep : ep < 32 := by have := he.rng; omega
  have h0 : (0 : Int) ≤ (ep : Int) := by omega
  have h1 : (ep : Int) < 32 := by omega
  have h2 : (0 : Int) ≤ (t : Int) := by omega
  have h3 : (t : Int) < 32 := by omega
  have n1 : w.heap.size ≠ p := fun e => by have := h.ltP; omega
  have n2 : w.heap.size ≠ gs := fun e => by have := h.ltS; omega
  have n3 : w.heap.size ≠ go := fun e => by have := h.ltO; omega
  have NE := Lib.hid (And.intro n1 (And.intro n2 n3))
  have oA : Only [] w (w.alloc (.cells #[.int .i64 0, .int .i64 0, .int .i64 0] RyT)) := (Only.refl [] w).alloc _
  have hA0 := h.only0 oA
  have oG : Only [go] w (w.alloc (.cells #[.int .i64 0, .int .i64 0, .int .i64 0] RyT)) := (Only.refl [go] w).alloc _
  have hB := Blk.new w RyT #[.int .i64 0, .int .i64 0, .int .i64 0]
  clear oA n1 n2 n3
  obtain ⟨ow', how⟩ : ∃ x, (S.ob (t : Int)).owes = x := ⟨_, rfl⟩
  obtain ⟨wt, hwt⟩ : ∃ x, (S.ob (ep : Int)).wait = x := ⟨_, rfl⟩
  have HA0 := Lib.hid (And.intro hA0 (And.intro oG hB))
  clear oG hB
  obtain ⟨co, c1⟩ := h.cObjs
  obtain ⟨At, cpt, hcT, -⟩ := h.obj ht
  obtain ⟨Ae, cpe, hcE, -⟩ := h.obj hep
  have c13 : w.cell? ⟨go, t * 32 + 13, none⟩ = some (.int .i64 ow') := how ▸ hcT 13 _ rfl
  have c5 : w.cell? ⟨go, ep * 32 + 5, none⟩ = some (.int .i64 wt) := hwt ▸ hcE 5 _ rfl
  have hlp := h.ltP
  have hlo := h.ltO
  clear hcT hcE
  unfold recvA at hA
  unfold recvS
  rw [how] at hA ⊢
  rw [hwt] at hA ⊢
  by_cases e0 : 0 ≤ ow'
  · rw [if_pos e0] at hA ⊢
    cases hA
    obtain ⟨k0, k1, k2, f0, f1, f2⟩ := blk3' HA0.out.2.2
    clear h hk hA0 how hwt
    go_enter Try.func21, Try.ntmps21
    go_wp2_with fail
    refine bodyPost_ret (v := .tuple #[replyV' 0 0, .bool false, .int .i64 10]) (by simp [results, Try.results21, go_sem, k0, k1, k2, replyV']) rfl ⟨rfl, HA0.out.1, HA0.out.2.1⟩
  have e0' : decide (0 ≤ ow') = false := by simpa using e0
  rw [if_neg e0] at hA ⊢
  by_cases e1 : wt = 1
  · subst e1
    rw [if_pos rfl] at hA ⊢
    obtain ⟨r, l, hq⟩ := hk.queue_wait ⟨he.rng, he.kind⟩ (by omega)
    obtain ⟨m, rfl, hm, hl⟩ := hk.first hq
    have cP := rpop_is hA0 hep hq hl
    rw [headQ_is hq] at hA ⊢
    obtain ⟨st, hst⟩ : ∃ x, (S.ob (m : Int)).state = x := ⟨_, rfl⟩
    have e2 : (S.ob (m : Int)).word = n ∧ (S.ob (m : Int)).badge = b ∧ true = q ∧ (0 : Int) = k := by
      simpa using hA
    obtain ⟨hn, hb, rfl, rfl⟩ := e2
    have hme : ((m : Int) = (ep : Int)) → False := fun e => by
      have := (hk.ei.thr (o := (ep : Int)) (t := (m : Int)) (by rw [hq]; simp)).2
      rw [e, he.kind] at this
      omega
    have m0 : (0 : Int) ≤ (m : Int) := by omega
    have m1 : (m : Int) < 32 := by omega
    have s1 : ((popS S (ep : Int)).ob (m : Int)) = S.ob (m : Int) := if_neg hme
    rw [hst]
    obtain ⟨X, hX⟩ : ∃ X, restS (if st = 6 then oweS (popS S (ep : Int)) t m else wakeS (popS S (ep : Int)) m 0 0) ep = X := ⟨_, rfl⟩
    rw [hX]
    have HXX := Lib.hid hX
    have HN := Lib.hid (And.intro hn (And.intro hb (And.intro hst s1)))
    clear hq hk he h hA0 how hwt hA hn hb hst s1 hme hl e0 hX
    go_enter Try.func21, Try.ntmps21
    go_upto_region 5 with ((with_reducible refine cP.mono ?_); clear cP; rintro e w1 ⟨rfl, hr1, ho1⟩)
    clear c1 c13 c5 hlp hlo
    have hB1 := ho1.blk HA0.out.2.2 (by simp; exact NE.out.2.2)
    have HX := Lib.hid (And.intro hB1 (And.intro (HA0.out.2.1.trans ho1) hr1))
    obtain ⟨co, c1⟩ := hr1.cObjs
    obtain ⟨Am, cpm, hcM, -⟩ := hr1.obj hm
    rw [HN.out.2.2.2] at hcM
    have c7 : w1.cell? ⟨go, m * 32 + 7, none⟩ = some (.int .i64 n) := HN.out.1 ▸ hcM 7 _ rfl
    have c10 : w1.cell? ⟨go, m * 32 + 10, none⟩ = some (.int .i64 b) := HN.out.2.1 ▸ hcM 10 _ rfl
    clear hcM hr1 ho1 hB1 HA0
    have hlp := HX.out.2.2.ltP
    have hlo := HX.out.2.2.ltO
    have oy : Only [] w1 w1.drew := (Only.refl [] w1).drewN 1
    have HS := Lib.hid fun (W : World) (q : Only [] w1 W) => And.intro ((q.cell (p := ⟨p, 1, none⟩) hlp (by simp)).trans c1) (And.intro ((q.cell (p := ⟨go, m * 32 + 7, none⟩) hlo (by simp)).trans c7) ((q.cell (p := ⟨go, m * 32 + 10, none⟩) hlo (by simp)).trans c10))
    go_region_held3 (fun W => W.cell? ⟨p, 1, none⟩ = some (.slice (some ⟨go, 0, none⟩) 32 co) ∧ W.cell? ⟨go, m * 32 + 7, none⟩ = some (.int .i64 n) ∧ W.cell? ⟨go, m * 32 + 10, none⟩ = some (.int .i64 b))
      (first | exact HS.out _ oy | exact HS.out _ (oy.alloc _) | fail)
      (first | fail)
    have g2 : w1.heap.size ≠ go := fun e => by omega
    have ox : Only [] w1 (w1.alloc (.cells #[.int .i64 0, .int .i64 n, .int .i64 b] RyT)).drew := ((Only.refl [] w1).alloc _).drewN 1
    have hb2 : Blk (w1.alloc (.cells #[.int .i64 0, .int .i64 n, .int .i64 b] RyT)).drew w1.heap.size RyT #[.int .i64 0, .int .i64 n, .int .i64 b] := Blk.new w1 RyT _
    have hb1 := ox.blk HX.out.1 (by simp)
    have hr2 := HX.out.2.2.only0 ox
    have ho2 : Only [go] w (w1.alloc (.cells #[.int .i64 0, .int .i64 n, .int .i64 b] RyT)).drew := (HX.out.2.1.alloc _).drewN 1
    clear HX HS c1 c7 c10 hlp hlo oy ox
    generalize (w1.alloc (.cells #[.int .i64 0, .int .i64 n, .int .i64 b] RyT)).drew = w2 at hb2 hb1 hr2 ho2 ⊢
    generalize w1.heap.size = n2 at g2 hb2 ⊢
    obtain ⟨co, c1⟩ := hr2.cObjs
    obtain ⟨Am, cpm, hcM, -⟩ := hr2.obj hm
    rw [HN.out.2.2.2] at hcM
    have c8 : w2.cell? ⟨go, m * 32 + 8, none⟩ = some (.int .i64 st) := HN.out.2.2.1 ▸ hcM 8 _ rfl
    have HY := Lib.hid (And.intro hb1 (And.intro hb2 (And.intro ho2 (And.intro hr2 g2))))
    clear hcM hb1 hb2 ho2 hr2 g2 HN
    by_cases e6 : st = 6
    · have hX := HXX.out
      rw [if_pos e6] at hX
      subst e6
      have HX6 := Lib.hid hX
      clear hX
      have cO := rowe_any HY.out.2.2.2.1 ht hm
      go_wp2_with fail
      (with_reducible refine cO.mono ?_)
      clear cO c1 c8
      rintro e w3 ⟨rfl, hr3, ho3⟩
      have cR := rrest_any hr3 hep
      go_wp2_with fail
      (with_reducible refine cR.mono ?_)
      clear cR
      rintro e w4 ⟨rfl, hr4, ho4⟩
      rw [HX6.out] at hr4
      have hoX := ho3.trans ho4
      clear hr3 ho3 ho4
      obtain ⟨k0, k1, k2, f0, f1, f2⟩ := blk3' (hoX.blk HY.out.1 (by simp; exact NE.out.2.2))
      obtain ⟨l0, l1, l2, -, -, -⟩ := blk3' (hoX.blk HY.out.2.1 (by simp; exact HY.out.2.2.2.2))
      have HE := Lib.hid (putR3 hr4 (HY.out.2.2.1.trans hoX) (Nat.le_refl _) (hoX.blk HY.out.1 (by simp; exact NE.out.2.2)) NE.out.1 NE.out.2.1 NE.out.2.2 (.int .i64 0) (.int .i64 n) (.int .i64 b))
      clear hr4 hoX
      go_wp2_with fail
      refine bodyPost_ret (v := .tuple #[replyV' n b, .bool true, .int .i64 0]) (by simp [results, Try.results21, go_sem, k0, k1, k2, replyV']) rfl ⟨rfl, HE.out.1, HE.out.2⟩
    · have hX := HXX.out
      rw [if_neg e6] at hX
      have e6' : (st == 6) = false := by simpa using e6
      have HX6 := Lib.hid hX
      clear hX
      have cO := rwake_any HY.out.2.2.2.1 hm 0 0
      clear e6
      go_wp2_with fail
      (with_reducible refine cO.mono ?_)
      clear cO c1 c8
      rintro e w3 ⟨rfl, hr3, ho3⟩
      have cR := rrest_any hr3 hep
      go_wp2_with fail
      (with_reducible refine cR.mono ?_)
      clear cR
      rintro e w4 ⟨rfl, hr4, ho4⟩
      rw [HX6.out] at hr4
      have hoX := ho3.trans ho4
      clear hr3 ho3 ho4
      obtain ⟨k0, k1, k2, f0, f1, f2⟩ := blk3' (hoX.blk HY.out.1 (by simp; exact NE.out.2.2))
      obtain ⟨l0, l1, l2, -, -, -⟩ := blk3' (hoX.blk HY.out.2.1 (by simp; exact HY.out.2.2.2.2))
      have HE := Lib.hid (putR3 hr4 (HY.out.2.2.1.trans hoX) (Nat.le_refl _) (hoX.blk HY.out.1 (by simp; exact NE.out.2.2)) NE.out.1 NE.out.2.1 NE.out.2.2 (.int .i64 0) (.int .i64 n) (.int .i64 b))
      clear hr4 hoX
      go_wp2_with fail
      refine bodyPost_ret (v := .tuple #[replyV' n b, .bool true, .int .i64 0]) (by simp [results, Try.results21, go_sem, k0, k1, k2, replyV']) rfl ⟨rfl, HE.out.1, HE.out.2⟩
  · have e1' : (wt == 1) = false := by simpa using e1
    rw [if_neg e1] at hA ⊢
    cases hA
    have hql : (S.ob (ep : Int)).queue.length ≤ 900 := Nat.le_trans (hk.qlen32 _) (by decide)
    have cB := rblock_any hA0 hep ht 3 hql
    clear hk he h hA0 how hwt hql e0 e1
    go_enter Try.func21, Try.ntmps21
    go_wp2_with fail
    (with_reducible refine cB.mono ?_)
    clear cB c1 c5 c13 hlp hlo
    rintro e w1 ⟨rfl, hr1, ho1⟩
    obtain ⟨co, c1⟩ := hr1.cObjs
    obtain ⟨v, e, f⟩ := hr1.fld (j := 5) hep (by omega)
    have q1 := hr1.setF1 hep (j := 5) (by omega) (.int .i64 2) (fun x => { x with wait := 2 }) (fun _ _ => rfl) (fun _ => rfl)
    have hB1 := ho1.blk HA0.out.2.2 (by simp; exact NE.out.2.2)
    have H1 := Lib.hid (And.intro q1.1 (And.intro ((HA0.out.2.1.trans ho1).trans q1.2) (q1.2.blk hB1 (by simp; exact NE.out.2.2))))
    clear q1 hr1 ho1 hB1
    go_upto_region 13 with fail
    obtain ⟨w2, hw2⟩ : ∃ X, Hid (X = w1.setCell ⟨go, ep * 32 + 5, none⟩ (.int .i64 2)) := ⟨_, Lib.hid rfl⟩
    rw [← hw2.out] at H1 ⊢
    clear c1 e f hw2
    obtain ⟨k0, k1, k2, f0, f1, f2⟩ := blk3' H1.out.2.2
    have HE := Lib.hid (putR3 H1.out.1 H1.out.2.1 (Nat.le_refl _) H1.out.2.2 NE.out.1 NE.out.2.1 NE.out.2.2 (.int .i64 0) (.int .i64 0) (.int .i64 0))
    go_wp2_with fail
    refine bodyPost_ret (v := .tuple #[replyV' 0 0, .bool false, .int .i64 0]) (by simp [results, Try.results21, go_sem, k0, k1, k2, replyV']) rfl ⟨rfl, HE.out.1, HE.out.2⟩
end
end Go.Proofs.Ytdkjfalhalepgaa
/- What the document's Wait answers and does (layer 16 and up). -/
namespace Go.Proofs.Ytdkjfalhalepgaa
open Go.RowKit
section
variable {w w' : World} {p gs go : Nat} {S : RSt}
set_option maxRecDepth 100000 in
theorem rwait_any (h : RefM w p gs go S) {o t : Nat} (ho : o < 32) (ht : t < 32) (hql : (S.ob o).queue.length ≤ 900) :
    Calls Try.prog 23 #[.pointer (some ⟨p, 0, none⟩), .int .i64 o, .int .i64 t] w fun e w' => e = .returned (.tuple #[.int .i64 (S.ob o).word, .bool (decide ((S.ob o).word ≠ 0))]) ∧ RefM w' p gs go (ntwS S o t) ∧ Only [go] w w' := by
  have h0 : (0 : Int) ≤ (o : Int) := by omega
  have h1 : (o : Int) < 32 := by omega
  obtain ⟨co, c1⟩ := h.cObjs
  obtain ⟨A, cp, hcO, -⟩ := h.obj ho
  unfold ntwS
  obtain ⟨wd, hwv⟩ : ∃ wd, (S.ob (o : Int)).word = wd := ⟨_, rfl⟩
  have c8 : w.cell? ⟨go, o * 32 + 7, none⟩ = some (.int .i64 wd) := hwv ▸ hcO 7 _ rfl
  have cB := rblock_any h ho ht 5 hql
  have cP := rpoll_any h ho
  rw [hwv] at cP ⊢
  clear hcO h hwv
  by_cases e0 : wd = 0
  · subst e0
    clear cP
    rw [if_pos rfl]
    go_enter Try.func23, Try.ntmps23
    go_wp2_with ((with_reducible refine cB.mono ?_); clear cB; rintro e w1 ⟨rfl, hr1, ho1⟩)
    go_ret2
    exact ⟨rfl, hr1, ho1⟩
  · have e0' : (wd == 0) = false := by simpa using e0
    rw [if_neg e0, decide_eq_true e0]
    clear cB
    go_enter Try.func23, Try.ntmps23
    go_wp2_with ((with_reducible refine cP.mono ?_); clear cP; rintro e w1 ⟨rfl, hr1, ho1⟩)
    go_ret2
    exact ⟨rfl, hr1, ho1⟩
end
end Go.Proofs.Ytdkjfalhalepgaa
