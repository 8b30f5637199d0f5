/- ViewTells' walk, where it isn't let go. -/
import Derived.Test.YtmegmnpnkhocaaaViewTells
namespace Go.Proofs.Ytmegmnpnkhocaaa
open Go.RowKit Go.Shelf
attribute [local go_sem] Oper.semAt_some
theorem infoU64 : (Try.prog.info? 23).map (fun i => (i.zero, i.size, i.bytes)) = some (some (.int .u64 0), 1, 8) := by kernel_rfl
/-- what the walk has laid: the boxes of to, stop, the result, had; had's row, the view's row -/
structure TH (W : World) (b0 bh g1 g2 cap1 : Nat) (hi stop : Int) (n : Nat) (H Pl : List Int) : Prop where
  to : Boxed W b0 3 (.int .i64 hi)
  st : Boxed W (b0 + 1) 3 (.int .i64 stop)
  res : Boxed W (b0 + 1 + 1) 4 (.bool false)
  had : Boxed W bh 22 (.slice (some ⟨g1, 0, none⟩) n cap1)
  rh : RowU W g1 23 H
  rp : RowU W g2 23 Pl
  hl : H.length = n
  pl : Pl.length = n
  o1 : b0 + 1 + 1 < g1
  o2 : g1 < bh
  o3 : bh < g2
theorem TH.only {W W' : World} {b0 bh g1 g2 cap1 n : Nat} {hi stop : Int} {H Pl : List Int} {S : List Nat} (h : TH W b0 bh g1 g2 cap1 hi stop n H Pl) (ho : Only S W W') (hS : ∀ k, k ∈ S → g2 < k) : TH W' b0 bh g1 g2 cap1 hi stop n H Pl :=
  have o1 := h.o1; have o2 := h.o2; have o3 := h.o3
  ⟨boxed_only h.to ho (fun m => by have := hS _ m; omega), boxed_only h.st ho (fun m => by have := hS _ m; omega), boxed_only h.res ho (fun m => by have := hS _ m; omega), boxed_only h.had ho (fun m => by have := hS _ m; omega),
   h.rh.only ho (fun m => by have := hS _ m; omega), h.rp.only ho (fun m => by have := hS _ m; omega), h.hl, h.pl, o1, o2, o3⟩
theorem TH.put2 {W W' : World} {b0 bh g1 g2 cap1 n : Nat} {hi stop : Int} {H Pl Pl' : List Int} (h : TH W b0 bh g1 g2 cap1 hi stop n H Pl) (ho : Only [g2] W W') (hr : RowU W' g2 23 Pl') (hl : Pl'.length = n) : TH W' b0 bh g1 g2 cap1 hi stop n H Pl' :=
  have o1 := h.o1; have o2 := h.o2; have o3 := h.o3
  ⟨boxed_only h.to ho (by simp; omega), boxed_only h.st ho (by simp; omega), boxed_only h.res ho (by simp; omega), boxed_only h.had ho (by simp; omega), h.rh.only ho (by simp; omega), hr, h.hl, hl, o1, o2, o3⟩
theorem TH.put1 {W W' : World} {b0 bh g1 g2 cap1 n : Nat} {hi stop : Int} {H H' Pl : List Int} (h : TH W b0 bh g1 g2 cap1 hi stop n H Pl) (ho : Only [g1] W W') (hr : RowU W' g1 23 H') (hl : H'.length = n) : TH W' b0 bh g1 g2 cap1 hi stop n H' Pl :=
  have o1 := h.o1; have o2 := h.o2; have o3 := h.o3
  ⟨boxed_only h.to ho (by simp; omega), boxed_only h.st ho (by simp; omega), boxed_only h.res ho (by simp; omega), boxed_only h.had ho (by simp; omega), hr, h.rp.only ho (by simp; omega), hl, h.pl, o1, o2, o3⟩
theorem write_at {L : List Int} {g n : Nat} {t : TypeId} {w : World} (hn : L.length = n) (h : RowU w g t L) (cp : Nat) (i v : Int) : Calls Try.prog 9 #[.slice (some ⟨g, 0, none⟩) n cp, .int .i64 i, .int .u64 v] w fun e w' => e = .returned (.tuple #[]) ∧ RowU w' g t (setL L i v) ∧ Only [g] w w' := by
  subst hn
  refine (write_any cp w h i v).mono ?_
  rintro e w' ⟨rfl, rfl⟩
  exact ⟨rfl, h.wr i v, wrW_only _ _ _ _ _⟩
theorem read_at {A : Option Addr} {L : List Int} {n : Nat} {w : World} {i x : Int} (hn : L.length = n) (h : Wds w A L) (cp : Nat) (hx : atL L i = x) : Calls Try.prog 7 #[.slice A n cp, .int .i64 i] w fun e w' => e = .returned (.int .u64 x) ∧ w = w' := by
  subst hn
  exact (read_is cp w h hx).mono fun _ _ ⟨h1, h2⟩ => ⟨h1, h2.symm⟩
theorem at_at {A : Option Addr} {L : List Int} {n : Nat} {w : World} {i x : Int} (hn : L.length = n) (h : Wds w A L) (cp : Nat) (hx : atL L i = x) : Calls Try.prog 8 #[.slice A n cp, .int .i64 i] w fun e w' => e = .returned (.int .u64 x) ∧ w = w' := by
  subst hn
  exact (at_is cp w h hx).mono fun _ _ ⟨h1, h2⟩ => ⟨h1, h2.symm⟩
theorem readq {A : Option Addr} {L : List Int} {n m : Nat} {w : World} {i x : Int} (hn : L.length = n) (h : Wds w A L) (cp : Nat) (hx : atL L i = x) : CallsIn Fence.wide m Try.prog 7 #[.slice A n cp, .int .i64 i] w fun e w' => e = .returned (.int .u64 x) ∧ w' = w := by
  subst hn
  exact callsIn_wide.2 (read_is cp w h hx)
theorem atq {A : Option Addr} {L : List Int} {n m : Nat} {w : World} {i x : Int} (hn : L.length = n) (h : Wds w A L) (cp : Nat) (hx : atL L i = x) : CallsIn Fence.wide m Try.prog 8 #[.slice A n cp, .int .i64 i] w fun e w' => e = .returned (.int .u64 x) ∧ w' = w := by
  subst hn
  exact callsIn_wide.2 (at_is cp w h hx)
theorem TH.drewN {W : World} {b0 bh g1 g2 cap1 n : Nat} {hi stop : Int} {H Pl : List Int} (h : TH W b0 bh g1 g2 cap1 hi stop n H Pl) (m : Nat) : TH (W.drewN m) b0 bh g1 g2 cap1 hi stop n H Pl := h.only ((Only.refl [] W).drewN m) (by simp)
theorem changed_at {A B : Option Addr} {LA LB : List Int} {n : Nat} (hn : LB.length = n) (ca cb : Nat) {w : World} (hA : Wds w A LA) (hB : Wds w B LB) (hla : LA.length ≤ 1000) (hlb : LB.length ≤ 1000) {R : List (Int × Int)} (hR : chgL LA LB = R) :
    Calls Try.prog 11 #[.slice A LA.length ca, .slice B n cb] w fun e w' => ∃ C cap, e = .returned (.slice C R.length cap) ∧ Prs w' w.heap.size C R .u64 ∧ Only [] w w' := by
  subst hn
  exact changed_is ca cb w hA hB hla hlb hR
theorem func_nil (a b c : Value) (w : World) : (binOp .eql 30 (.func (.func 14) #[] #[a, b, c]) .nilFunc).run Try.prog w = .ok (.bool false) w := by kernel_rfl
/-- the way out, behind the range -/
theorem tells_end {w W : World} {br D : Nat} (hr : Boxed W br 4 (.bool false)) (hK : W.heap[D]? = some (.deferred (some []))) (ho : Only [] w W) (h1 : w.heap.size ≤ br) (h2 : br < D) (tmps : Array Value) (ht : tmps.getD 12 undef = .pointer (some ⟨br, 0, none⟩)) :
    bodyPostM Fence.wide 9 Try.prog Try.f3 (fun e w' => e = Ending.returned (Value.bool true) ∧ Only [] w w') Exit.ret { tmps := tmps, defers := [{ target := .collected D, args := #[] }] } (W.setCell ⟨br, 0, none⟩ (.bool true)) := by
  have hK8 : (W.setCell ⟨br, 0, none⟩ (.bool true)).heap[D]? = some (.deferred (some [])) := (Below.heap_setCell W ⟨br, 0, none⟩ _ D (by simp; omega)).trans hK
  have hB := (hr.set (.bool true)).kept (grownBy_putObj' _ D (.deferred none)) (by simp; omega)
  have hc := hB.cell
  have ht' : tmps[12]?.getD undef = .pointer (some ⟨br, 0, none⟩) := by simpa using ht
  refine ⟨by simp, .inl ⟨_, _, rfl, run_takeDeferred hK8, ?_⟩⟩
  refine ⟨.bool true, by simp [results, Try.results3, go_sem, ht', hc], rfl, ?_⟩
  exact only_grew (ho.setCell (.inr h1) _) (grownBy_putObj' _ D (.deferred none)) (fun j e => by cases e; omega)
theorem i64_of_wf {x : Int} (h : (Lit.int .i64 x).wf = true) : -9223372036854775808 ≤ x ∧ x ≤ 9223372036854775807 := by
  simp [Lit.wf, IntKind.min, IntKind.max, IntKind.signed, IntKind.bits] at h
  omega
section
variable {A : Option Addr} {L : List Int}
set_option maxRecDepth 100000 in
set_option maxHeartbeats 4000000 in
theorem tells_in (cp : Nat) (w : World) (i v lo hi stop : Int) (hA : Wds w A L) (hl : L.length ≤ 200) (hlo : -1000 ≤ lo) (hhi : hi ≤ 1000) (hlo2 : lo ≤ 9223372036854775807) (hhi2 : -9223372036854775808 ≤ hi) :
    CallsIn Fence.wide 9 Try.prog 3 #[.slice A L.length cp, .int .i64 i, .int .u64 v, .int .i64 lo, .int .i64 hi, .int .i64 stop] w fun e w' => e = .returned (.bool true) ∧ Only [] w w' := by
  have hfu : Fence.wide.fn 6 := trivial
  have hf7 : Fence.wide.fn 7 := trivial
  have hf8 : Fence.wide.fn 8 := trivial
  have hf9 : Fence.wide.fn 9 := trivial
  have hf10 : Fence.wide.fn 10 := trivial
  have hf11 : Fence.wide.fn 11 := trivial
  obtain ⟨iU, hi0, hz0, hz1, hz2⟩ := info_parts infoU64
  have hA0 := hA
  obtain ⟨b0, b1, b2, ho0, hz⟩ := three_boxes w 3 3 4 (.int .i64 hi) (.int .i64 stop) (.bool false)
  refine callsIn_of_wp_marks Try.func3 rfl trivial ?_ rfl
  simp only [Try.ntmps3, List.size_toArray, List.length_cons, List.length_nil, Nat.reduceAdd, Nat.reduceSub, Array.replicate_succ, Array.replicate_zero, List.push_toArray, List.append_toArray, List.nil_append, List.cons_append]
  gi_upto_region 6 with (first
    | (gi_at_call 6; refine (callsIn_wide.2 (up_any _)).mono ?_; rintro e w1 ⟨rfl, ho1⟩; replace b0 := boxed_only b0 ho1 (by simp); replace b1 := boxed_only b1 ho1 (by simp); replace b2 := boxed_only b2 ho1 (by simp); have c0 := b0.cell; have c1 := b1.cell; have c2 := b2.cell; have f2 := b2.frozen; replace ho1 := ho0.trans ho1; clear ho0 hz; replace hA := hA.only0 ho1; have hE1 := World.ownsRow_made (base := w1.heap.size) (e := 23) (size := 1) w1 #[] 0 (Nat.le_refl _) (by unfold maxLen; omega) rfl; have hA1 := hA.only0 ((Only.refl [] w1).alloc (.cells #[] 23)))
    | (gi_at_builtin; refine wpListIn_append_words _ rfl _ _ 22 rfl w1.heap.size 23 iU (.int .u64 0) Try.underlying22 hi0 hz0 hz1 hz2 rfl w1.heap.size rfl hE1 A L cp rfl hA1 (by omega) (by simp) ?_; intro g1 cap1 w2 hrow1 hgrow1; clear hE1 hA1; have hw2 : Only [] w1 w2 := only_grew ((Only.refl [] w1).alloc _) hgrow1 (fun j e => by cases e; exact Nat.le_refl _); have hE2 := World.ownsRow_made (base := w2.heap.size + 1) (e := 23) (size := 1) (w2.alloc (.cells #[.slice (some ⟨g1, 0, none⟩) L.length cap1] 22)) #[] 0 (by simp) (by unfold maxLen; omega) rfl; rw [World.size_alloc] at hE2; have hA2 := hA.only0 ((hw2.alloc (.cells #[.slice (some ⟨g1, 0, none⟩) L.length cap1] 22)).alloc (.cells #[] 23)))
    | (gi_at_builtin; refine wpListIn_append_words _ rfl _ _ 22 rfl (w2.heap.size + 1) 23 iU (.int .u64 0) Try.underlying22 hi0 hz0 hz1 hz2 rfl (w2.heap.size + 1) rfl hE2 A L cp rfl hA2 (by omega) (by simp) ?_; intro g2 cap2 w3 hrow2 hgrow2; clear hE2 hA2))
  have hT : TH w3 w.heap.size w2.heap.size g1 g2 cap1 hi stop L.length L L := by
    have k1 := hrow1.lt g1 rfl
    have k2 := hrow2.lt g2 rfl
    have k3 := ho1.size
    have hw3 : Only [] (w2.alloc (.cells #[.slice (some ⟨g1, 0, none⟩) L.length cap1] 22)) w3 := only_grew ((Only.refl [] _).alloc _) hgrow2 (fun j e => by cases e; simp)
    have hw23 : Only [] w2 w3 := ((Only.refl [] w2).alloc _).trans hw3
    have hw13 : Only [] w1 w3 := hw2.trans hw23
    have k4 := b2.lt
    exact ⟨boxed_only b0 hw13 (by simp), boxed_only b1 hw13 (by simp), boxed_only b2 hw13 (by simp), boxed_only (Boxed.new w2 _ _) hw3 (by simp), (RowU.of_owns hrow1).only hw23 (by simp), RowU.of_owns hrow2, rfl, rfl, by omega, k1.2, by omega⟩
  have ho3 : Only [] w w3 := ho1.trans (hw2.trans (((Only.refl [] w2).alloc _).trans (only_grew ((Only.refl [] _).alloc (.cells #[] 23)) hgrow2 (fun j e => by cases e; simp))))
  have hA3 : Wds w3 A L := hA.only0 (hw2.trans (((Only.refl [] w2).alloc _).trans (only_grew ((Only.refl [] _).alloc (.cells #[] 23)) hgrow2 (fun j e => by cases e; simp))))
  obtain ⟨bh, hbh⟩ : ∃ x, x = w2.heap.size := ⟨_, rfl⟩
  rw [← hbh] at hT ⊢
  clear hrow1 hgrow1 hrow2 hgrow2 hw2 b0 b1 b2 c0 c1 c2 f2 ho1 hA hbh hi0 hz0 hz1 hz2 iU
  obtain ⟨y, hy⟩ : ∃ y, Hid (atL L i = y) := ⟨_, Lib.hid rfl⟩
  gi_upto_region 9 with (first
    | (gi_at_call 7; refine (callsIn_wide.2 (read_at hT.pl hT.rp.wds _ hy.out)).mono ?_; rintro e w' ⟨rfl, rfl⟩)
    | (gi_at_call 8; refine (callsIn_wide.2 (at_at rfl hA3 _ hy.out)).mono ?_; rintro e w' ⟨rfl, rfl⟩)
    | (gi_at_call 9; refine (callsIn_wide.2 (write_at hT.pl hT.rp _ _ _)).mono ?_; rintro e w4 ⟨rfl, hr4, ho4⟩; replace hT := hT.put2 ho4 hr4 ((setL_length _ _ _).trans hT.pl); replace ho3 := ho3.then ho4 (fun x hx => .inr (by simp at hx; have := hT.o1; have := hT.o2; have := hT.o3; omega)); clear hr4 ho4 hA3))
  gi_cut [59] from 22 (fun c wx => c = .bool (hasB L.length i) ∧ wx = w4)
  case first =>
    gi_wp2_with fail
    all_goals gi_meet
    · have h0 : 0 ≤ i := by assumption
      exact ⟨by simp [hasB, h0], rfl⟩
    · have h0 : i < 0 := by assumption
      exact ⟨by rw [hasB_no.2 (.inl h0)], rfl⟩
  case rest =>
    obtain ⟨rfl, rfl⟩ := hcut
    obtain ⟨w4, rfl⟩ : ∃ x, x = wc := ⟨_, rfl⟩
    gi_upto_if 59 with fail
    gi_cut [] from 22 (fun wx => Only [] w wx ∧ TH wx w.heap.size bh g1 g2 cap1 hi stop L.length (setL L i v) (setL L i v))
    case first =>
      rcases atL_cases L i with ⟨k, x, rfl, hx, -, hb⟩ | ⟨-, -, hb⟩
      · rw [hb]
        have hk := (List.getElem?_eq_some_iff.1 hx).1
        have c14 := hT.had.cell
        obtain ⟨b', off', e', -, hcx⟩ := hT.rh.wds k x hx
        injection e' with e'
        injection e' with e1 e2 _
        subst e1 e2
        rw [Nat.zero_add] at hcx
        have hfz := hT.rh.frozen k
        have hT' := Lib.hid hT
        have hr' := Lib.hid (hT.rh.set_ hk v)
        clear hT hx hb
        gi_wp2_with fail
        gi_meet
        refine ⟨ho3.setCell (p := ⟨g1, k, none⟩) (.inr (by have := hT'.out.o1; simp; omega)) _, ?_⟩
        exact hT'.out.put1 ((Only.refl [g1] _).setCell (p := ⟨g1, k, none⟩) (.inl (by simp)) _) hr'.out (setL_length _ _ _)
      · rw [hb]
        gi_wp2_with fail
        gi_meet
        refine ⟨ho3, ?_⟩
        rw [setL_out v hb] at hT ⊢
        exact hT
    case rest =>
      obtain ⟨ho, hT5⟩ := hcut
      clear hT ho3
      obtain ⟨w5, rfl⟩ : ∃ x, x = wc := ⟨_, rfl⟩
      obtain ⟨H, hH⟩ : ∃ H, Hid (H = setL L i v) := ⟨_, Lib.hid rfl⟩
      rw [← hH.out] at hT5
      have c14 := hT5.had.cell
      gi_wp2_with fail
      gi_loopw [16] (fun k wr => ∃ (j n : Nat), j ≤ L.length + 2 ∧ k = .int .i64 ((j : Int) - 1) ∧ wr = w5.drewN n) (fun k _ => (L.length + 2) - (intOf k + 1).toNat)
      case atStart => exact ⟨0, 0, by omega, rfl, rfl⟩
      case round =>
        obtain ⟨j, nd, hj, rfl, hwx⟩ := hrel
        have hT := hT5.drewN nd
        have ho6 := ho.drewN nd
        rw [← hwx] at hT ho6
        have hWX := Lib.hid hwx
        clear hwx
        by_cases hlt : j < L.length + 2
        · obtain ⟨x, hx⟩ : ∃ x, Hid (atL H ((j : Int) - 1) = x) := ⟨_, Lib.hid rfl⟩
          have c14 := hT.had.cell
          have k1 : (j : Int) - 1 ≤ (L.length : Int) := by omega
          gi_wp2_with fail
          gi_quiet (first
            | (gi_at_call 7; exact CallsIn.quiet_of_same (readq hT.pl (hT.rp.wds.drewN _) _ hx.out))
            | (gi_at_call 8; exact CallsIn.quiet_of_same (atq hT.hl (hT.rh.wds.drewN _) _ hx.out)))
          gi_wp2_with fail
          exact ⟨⟨j + 1, nd + nq, by omega, by congr 1; omega, by rw [hWX.out, World.drewN_drewN]⟩, by simp [intOf]; omega⟩
        · have c10 := hT.to.cell
          have l10 := hT.to.lt
          have k1 : ¬ ((j : Int) - 1 ≤ (L.length : Int)) := by omega
          clear c14 hT5 ho hWX
          obtain ⟨wb, rfl⟩ : ∃ x, x = wr := ⟨_, rfl⟩
          have hnf := func_nil (.pointer (some ⟨wb.heap.size + 1 + 1, 0, none⟩)) (.pointer (some ⟨wb.heap.size + 1 + 2, 0, none⟩)) (.pointer (some ⟨wb.heap.size + 1, 0, none⟩))
          have hT' := Lib.hid hT
          have ho6' := Lib.hid ho6
          clear hT ho6
          gi_wp2_with (gi_at_call 10; refine (callsIn_wide.2 (range_any _ _ _ _)).mono ?_; rintro e w' ⟨rfl, rfl⟩)
          clear hnf c10 l10
          have bN := Boxed.new wb 3 (.int .i64 lo)
          have hoN := (Only.refl [] wb).alloc (.cells #[.int .i64 lo] 3)
          have zN : (wb.alloc (.cells #[.int .i64 lo] 3)).heap.size = wb.heap.size + 1 := by simp
          generalize wb.alloc (.cells #[.int .i64 lo] 3) = wn at bN hoN zN ⊢
          obtain ⟨bV, bF, bT, hoR, zR⟩ := three_boxes wn 48 3 3 (.iface 25 (.slice (some ⟨g2, 0, none⟩) L.length cap2)) (.int .i64 lo) (.int .i64 hi)
          rw [zN] at bV bF bT zR
          generalize ((wn.alloc (.cells #[.iface 25 (.slice (some ⟨g2, 0, none⟩) L.length cap2)] 48)).alloc (.cells #[.int .i64 lo] 3)).alloc (.cells #[.int .i64 hi] 3) = W6 at bV bF bT hoR zR ⊢
          replace bN := boxed_only bN hoR (by simp)
          have hT6 := hT'.out.only (hoN.trans hoR) (by simp)
          have ho6 := ho6'.out.trans (hoN.trans hoR)
          have hg2 : g2 < wb.heap.size := hT'.out.rp.lt
          clear hoR hoN zN hT' ho6' k1 hlt hj
          obtain ⟨b, hb⟩ : ∃ x, x = wb.heap.size := ⟨_, rfl⟩
          rw [← hb] at bN bV bF bT zR hg2 ⊢
          clear hb
          obtain ⟨N, hN⟩ : ∃ N, Hid (N = (hi - lo).toNat) := ⟨_, Lib.hid rfl⟩
          have hS : ∀ k, k ∈ rangeS (some ⟨g2, 0, none⟩) H (b + 1) (b + 1 + 1) (b + 1 + 2) → k ≠ b ∧ k < b + 4 := fun k hk => by
            rcases rangeS_mem.1 hk with rfl | rfl | rfl | hk
            · omega
            · omega
            · omega
            · have : k = g2 := by
                unfold blkS at hk
                split at hk <;> simp at hk
                exact hk
              omega
          have hVc := bV.cell
          rw [← hT6.hl] at hVc
          refine wpIn_rangeFunc_ownG rfl (by omega) (gf := 14) (lb := #[.pointer (some ⟨b + 1 + 1, 0, none⟩), .pointer (some ⟨b + 1 + 2, 0, none⟩), .pointer (some ⟨b + 1, 0, none⟩)]) rfl trivial (enters_of Try.func14 (by kernel_rfl) rfl)
            (range_stops (9 - 1) (by omega) (b + 1) (b + 1 + 1) (b + 1 + 2) (some ⟨g2, 0, none⟩) cap2 H lo hi (by omega) (by omega) W6 hVc bF.cell bT.cell hT6.rp.wds) (fun h k => KeepS.trans h k) (KeepS.putObj (fun k hk => by have := (hS k hk).2; omega)) (Below.refl _ _) (fun _ => rfl)
            (fun pre W => pre = rngF H lo pre.length ∧ Boxed W b 3 (.int .i64 (lo + (pre.length : Int))) ∧ Only [b] W6 W)
            (fun c pre W => (c = .ret ∧ pre ≠ rngF H lo pre.length) ∨ (c = .exit 2 ∧ (∃ k : Nat, pre.length = k + 1 ∧ stop = lo + (k : Int)) ∧ Boxed W b 3 (.int .i64 (lo + (pre.length : Int))) ∧ Only [b] W6 W))
            (OwnFrom.and (ownFrom_pure _ _) (OwnFrom.and (Own.from (boxed_own b _ (fun (pre : List (Int × Int)) => .int .i64 (lo + (pre.length : Int)))) _) ownFrom_only))
            (fun c s X Y row hs hg hr => by
              rcases hs with h | ⟨h1, h2, h3, h4⟩
              · exact .inl h
              · exact .inr ⟨h1, h2, (Own.from (boxed_own b 3 (fun (pre : List (Int × Int)) => .int .i64 (lo + (pre.length : Int)))) _) s X Y row h3 hg hr, (ownFrom_only (S := [b])) s X Y row h4 hg hr⟩)
            ⟨rfl, by simpa using bN, Only.refl _ _⟩
            ?_ ?assign ?body ?done ?stop
          case assign =>
            intro l x W K hK
            gi_wp2
            exact hK
          case body =>
            rintro l pre ⟨x1, x2⟩ W ⟨hpre, hn, hoW⟩ hlen
            have hT := Lib.hid (hT6.only hoW (by simp; omega))
            have cN := hn.cell
            have fN := hn.frozen
            have c10 := hT.out.to.cell
            have c11 := hT.out.st.cell
            have c12 := hT.out.res.cell
            have f12 := hT.out.res.frozen
            have c14 := hT.out.had.cell
            have h6 : 1 ≤ 9 - 1 - 1 := by omega
            have gi := Lib.hid (good_iff hpre (x1, x2))
            have hoW' := Lib.hid hoW
            have hn' := Lib.hid hn
            have hlen' := Lib.hid (show (pre.length : Int) < hi - lo by omega)
            obtain ⟨y, hy⟩ : ∃ y, Hid (atL H x1 = y) := ⟨_, Lib.hid rfl⟩
            clear hpre hoW hn hlen
            by_cases h1 : x1 = lo + (pre.length : Int)
            · subst h1
              by_cases h2 : x2 = y
              · have hgood := Lib.hid (gi.out.2 (by rw [hy.out, h2]))
                subst h2
                have h3 : lo + (pre.length : Int) < hi := by have := hlen'.out; omega
                have w3 : IntKind.i64.wrap (lo + (pre.length : Int) + 1) = lo + (pre.length : Int) + 1 := IntWalk.i64_in _ (by have := hlen'.out; omega)
                have ho2 : Only [b] W (W.setCell ⟨b, 0, none⟩ (.int .i64 (lo + (pre.length : Int) + 1))) := (Only.refl [b] W).setCell (p := ⟨b, 0, none⟩) (.inl (by simp)) _
                have c11b := (hT.out.only ho2 (by simp; omega)).st.cell
                have bNb := hn'.out.set (.int .i64 (lo + (pre.length : Int) + 1))
                have ho2' := Lib.hid ho2
                have bNb' := Lib.hid bNb
                clear ho2 bNb
                by_cases h4 : lo + (pre.length : Int) = stop
                · subst h4
                  gi_wp2_with (gi_at_call 8; refine (CallsIn.inRound l (callsIn_wide.2 (at_at hT.out.hl hT.out.rh.wds _ hy.out))).mono ?_; rintro e w' ⟨rfl, rfl⟩)
                  refine ⟨(KeepsOthers.setCell _ _ _).from _, .inr ⟨rfl, ⟨pre.length, by simp, rfl⟩, ?_, hoW'.out.trans ho2'.out⟩⟩
                  simpa [Int.add_assoc] using bNb'.out
                · gi_wp2_with (gi_at_call 8; refine (CallsIn.inRound l (callsIn_wide.2 (at_at hT.out.hl hT.out.rh.wds _ hy.out))).mono ?_; rintro e w' ⟨rfl, rfl⟩)
                  refine ⟨(KeepsOthers.setCell _ _ _).from _, (KeepS.refl _ _).setCell (fun hm => (hS _ hm).1 rfl) _, hgood.out, ?_, hoW'.out.trans ho2'.out⟩
                  simpa [Int.add_assoc] using bNb'.out
              · have hbad := Lib.hid (show ¬ (pre ++ [(lo + (pre.length : Int), x2)] = rngF H lo (pre ++ [(lo + (pre.length : Int), x2)]).length) from fun h => h2 (by have e := gi.out.1 h; rw [hy.out] at e; injection e))
                gi_wp2_with (gi_at_call 8; refine (CallsIn.inRound l (callsIn_wide.2 (at_at hT.out.hl hT.out.rh.wds _ hy.out))).mono ?_; rintro e w' ⟨rfl, rfl⟩)
                exact ⟨(KeepsOthers.setCell _ _ _).from _, .inl ⟨rfl, hbad.out⟩⟩
            · have hbad := Lib.hid (show ¬ (pre ++ [(x1, x2)] = rngF H lo (pre ++ [(x1, x2)]).length) from fun h => h1 (by have e := gi.out.1 h; injection e))
              gi_wp2_with (gi_at_call 8; refine (CallsIn.inRound l (callsIn_wide.2 (at_at hT.out.hl hT.out.rh.wds _ hy.out))).mono ?_; rintro e w' ⟨rfl, rfl⟩)
              exact ⟨(KeepsOthers.setCell _ _ _).from _, .inl ⟨rfl, hbad.out⟩⟩
          case done =>
            rintro D ys W hD rfl ⟨hpre, hn, hoW⟩ hK
            rw [rngF_length] at hn
            have hT := Lib.hid (hT6.only hoW (by simp; omega))
            have hlo0 : w.heap.size + 1 + 1 < b := by have := hT6.o1; have := hT6.o2; have := hT6.o3; omega
            have hoA := Lib.hid (ho6.then hoW (fun x hx => .inr (by simp at hx; omega)))
            have hDW : D < W.heap.size := (Array.getElem?_eq_some_iff.1 hK).1
            have hDb : b < D := by omega
            have cN := hn.cell
            have c10 := hT.out.to.cell
            have c11 := hT.out.st.cell
            have c14 := hT.out.had.cell
            have hK' := Lib.hid hK
            obtain ⟨nxt, hnx⟩ : ∃ z, Hid (lo + (((hi - lo).toNat : Nat) : Int) = z) := ⟨_, Lib.hid rfl⟩
            rw [hnx.out] at cN
            have hge : hi ≤ nxt := by have := hnx.out; omega
            clear hoW hn hK hpre
            gi_upto_region 27 with fail
            gi_cut [125] from 126 (fun c wx => c = .bool false ∧ wx = W)
            case first =>
              gi_wp2_with fail
              all_goals gi_meet
              all_goals exact ⟨rfl, rfl⟩
            case rest =>
              obtain ⟨rfl, hwx⟩ := hcut
              replace hwx := hwx.symm
              subst hwx
              obtain ⟨y0, hy0⟩ : ∃ z, Hid (atL L i = z) := ⟨_, Lib.hid rfl⟩
              obtain ⟨y1, hy1⟩ : ∃ z, Hid (atL H i = z) := ⟨_, Lib.hid rfl⟩
              have hAW := Lib.hid (hA0.only0 hoA.out)
              by_cases he : y0 = y1
              · have hR := Lib.hid (show chgL L H = [] by rw [hH.out, chgL_put, if_pos (by rw [← hH.out, hy0.out, hy1.out]; exact he)])
                subst he
                clear cN c10 c11
                gi_upto_region 30 with (gi_at_call 11; refine (callsIn_wide.2 (changed_at hT.out.hl _ _ hAW.out hT.out.rh.wds (by omega) (by rw [hT.out.hl]; omega) hR.out)).mono ?_; rintro e W7 ⟨C, ccap, rfl, hC, ho7⟩)
                have hT7 := Lib.hid (hT.out.only ho7 (by simp))
                have hA7 := Lib.hid (hAW.out.only0 ho7)
                have c14b := hT7.out.had.cell
                have hK7 := Lib.hid ((ho7.block D hDW (by simp)).trans hK'.out)
                have ho8 := Lib.hid (hoA.out.trans ho7)
                clear hC c14 ho7
                have q0 := Lib.hid fun (m k : Nat) => CallsIn.quiet_of_same (atq (m := k) (Eq.refl L.length) (hA7.out.drewN m) cp hy0.out)
                have q1 := Lib.hid fun (m k : Nat) => CallsIn.quiet_of_same (atq (m := k) hT7.out.hl (hT7.out.rh.wds.drewN m) cap1 hy1.out)
                gi_quiet (first
                  | (gi_at_call 8; with_reducible exact q0.out _ _)
                  | (gi_at_call 8; with_reducible exact q1.out _ _))
                have c12 : (W7.drewN nq).cell? ⟨w.heap.size + 1 + 1, 0, none⟩ = some (.bool false) := hT7.out.res.cell
                have f12 : (W7.drewN nq).frozen? ⟨w.heap.size + 1 + 1, 0, none⟩ = false := hT7.out.res.frozen
                have hfin := Lib.hid (tells_end (W := W7.drewN nq) (hT7.out.drewN nq).res hK7.out (ho8.out.drewN nq) (by omega) (by omega))
                clear q0 q1 c14b hT7 hA7
                gi_wp2_with fail
                exact hfin.out _ rfl
              · have hR := Lib.hid (show chgL L H = [(i, v)] by rw [hH.out, chgL_put, if_neg (by rw [← hH.out, hy0.out, hy1.out]; exact he)])
                clear cN c10 c11
                gi_upto_region 30 with (gi_at_call 11; refine (callsIn_wide.2 (changed_at hT.out.hl _ _ hAW.out hT.out.rh.wds (by omega) (by rw [hT.out.hl]; omega) hR.out)).mono ?_; rintro e W7 ⟨C, ccap, rfl, hC, ho7⟩)
                have hT7 := Lib.hid (hT.out.only ho7 (by simp))
                have hA7 := Lib.hid (hAW.out.only0 ho7)
                have c14b := hT7.out.had.cell
                have hK7 := Lib.hid ((ho7.block D hDW (by simp)).trans hK'.out)
                have ho8 := Lib.hid (hoA.out.trans ho7)
                obtain ⟨bc, hbc, -, -, hd0, hd1⟩ := hC 0 _ rfl
                subst hbc
                simp only [Nat.zero_mul, Nat.zero_add] at hd0 hd1
                clear hC c14 ho7
                have q0 := Lib.hid fun (m k : Nat) => CallsIn.quiet_of_same (atq (m := k) (Eq.refl L.length) (hA7.out.drewN m) cp hy0.out)
                have q1 := Lib.hid fun (m k : Nat) => CallsIn.quiet_of_same (atq (m := k) hT7.out.hl (hT7.out.rh.wds.drewN m) cap1 hy1.out)
                gi_quiet (first
                  | (gi_at_call 8; with_reducible exact q0.out _ _)
                  | (gi_at_call 8; with_reducible exact q1.out _ _))
                have c12 : (W7.drewN nq).cell? ⟨w.heap.size + 1 + 1, 0, none⟩ = some (.bool false) := hT7.out.res.cell
                have f12 : (W7.drewN nq).frozen? ⟨w.heap.size + 1 + 1, 0, none⟩ = false := hT7.out.res.frozen
                have e0 : (W7.drewN nq).cell? ⟨bc, 0, none⟩ = some (.int .i64 i) := hd0
                have e1 : (W7.drewN nq).cell? ⟨bc, 1, none⟩ = some (.int .u64 v) := hd1
                have hfin := Lib.hid (tells_end (W := W7.drewN nq) (hT7.out.drewN nq).res hK7.out (ho8.out.drewN nq) (by omega) (by omega))
                clear q0 q1 c14b hT7 hA7 hd0 hd1
                gi_wp2_with fail
                exact hfin.out _ rfl
          case stop =>
            rintro D c pre W hD ⟨k0, hk0, hpre⟩ hIx hK
            rcases hIx with ⟨_, hbad⟩ | ⟨rfl, ⟨k, hk, hst⟩, hn, hoW⟩
            · exact absurd (by rw [hpre, rngF_length]) hbad
            rw [hk] at hn
            have hT := Lib.hid (hT6.only hoW (by simp; omega))
            have hlo0 : w.heap.size + 1 + 1 < b := by have := hT6.o1; have := hT6.o2; have := hT6.o3; omega
            have hoA := Lib.hid (ho6.then hoW (fun x hx => .inr (by simp at hx; omega)))
            have hDW : D < W.heap.size := (Array.getElem?_eq_some_iff.1 hK).1
            have hDb : b < D := by omega
            have cN := hn.cell
            have c10 := hT.out.to.cell
            have c11 := hT.out.st.cell
            have c14 := hT.out.had.cell
            have hK' := Lib.hid hK
            obtain ⟨nxt, hnx⟩ : ∃ z, Hid (lo + (((k + 1 : Nat) : Nat) : Int) = z) := ⟨_, Lib.hid rfl⟩
            rw [hnx.out] at cN
            have hkk : k = k0 := by rw [hpre, rngF_length] at hk; omega
            have hs1 : lo ≤ stop := by omega
            have hs2 : stop < hi := by omega
            clear hst hkk hk hk0
            clear hoW hn hK hpre
            gi_upto_region 27 with fail
            gi_cut [125] from 126 (fun c wx => c = .bool false ∧ wx = W)
            case first =>
              gi_wp2_with fail
              all_goals gi_meet
              all_goals exact ⟨rfl, rfl⟩
            case rest =>
              obtain ⟨rfl, hwx⟩ := hcut
              replace hwx := hwx.symm
              subst hwx
              obtain ⟨y0, hy0⟩ : ∃ z, Hid (atL L i = z) := ⟨_, Lib.hid rfl⟩
              obtain ⟨y1, hy1⟩ : ∃ z, Hid (atL H i = z) := ⟨_, Lib.hid rfl⟩
              have hAW := Lib.hid (hA0.only0 hoA.out)
              by_cases he : y0 = y1
              · have hR := Lib.hid (show chgL L H = [] by rw [hH.out, chgL_put, if_pos (by rw [← hH.out, hy0.out, hy1.out]; exact he)])
                subst he
                clear cN c10 c11
                gi_upto_region 30 with (gi_at_call 11; refine (callsIn_wide.2 (changed_at hT.out.hl _ _ hAW.out hT.out.rh.wds (by omega) (by rw [hT.out.hl]; omega) hR.out)).mono ?_; rintro e W7 ⟨C, ccap, rfl, hC, ho7⟩)
                have hT7 := Lib.hid (hT.out.only ho7 (by simp))
                have hA7 := Lib.hid (hAW.out.only0 ho7)
                have c14b := hT7.out.had.cell
                have hK7 := Lib.hid ((ho7.block D hDW (by simp)).trans hK'.out)
                have ho8 := Lib.hid (hoA.out.trans ho7)
                clear hC c14 ho7
                have q0 := Lib.hid fun (m k : Nat) => CallsIn.quiet_of_same (atq (m := k) (Eq.refl L.length) (hA7.out.drewN m) cp hy0.out)
                have q1 := Lib.hid fun (m k : Nat) => CallsIn.quiet_of_same (atq (m := k) hT7.out.hl (hT7.out.rh.wds.drewN m) cap1 hy1.out)
                gi_quiet (first
                  | (gi_at_call 8; with_reducible exact q0.out _ _)
                  | (gi_at_call 8; with_reducible exact q1.out _ _))
                have c12 : (W7.drewN nq).cell? ⟨w.heap.size + 1 + 1, 0, none⟩ = some (.bool false) := hT7.out.res.cell
                have f12 : (W7.drewN nq).frozen? ⟨w.heap.size + 1 + 1, 0, none⟩ = false := hT7.out.res.frozen
                have hfin := Lib.hid (tells_end (W := W7.drewN nq) (hT7.out.drewN nq).res hK7.out (ho8.out.drewN nq) (by omega) (by omega))
                clear q0 q1 c14b hT7 hA7
                gi_wp2_with fail
                exact hfin.out _ rfl
              · have hR := Lib.hid (show chgL L H = [(i, v)] by rw [hH.out, chgL_put, if_neg (by rw [← hH.out, hy0.out, hy1.out]; exact he)])
                clear cN c10 c11
                gi_upto_region 30 with (gi_at_call 11; refine (callsIn_wide.2 (changed_at hT.out.hl _ _ hAW.out hT.out.rh.wds (by omega) (by rw [hT.out.hl]; omega) hR.out)).mono ?_; rintro e W7 ⟨C, ccap, rfl, hC, ho7⟩)
                have hT7 := Lib.hid (hT.out.only ho7 (by simp))
                have hA7 := Lib.hid (hAW.out.only0 ho7)
                have c14b := hT7.out.had.cell
                have hK7 := Lib.hid ((ho7.block D hDW (by simp)).trans hK'.out)
                have ho8 := Lib.hid (hoA.out.trans ho7)
                obtain ⟨bc, hbc, -, -, hd0, hd1⟩ := hC 0 _ rfl
                subst hbc
                simp only [Nat.zero_mul, Nat.zero_add] at hd0 hd1
                clear hC c14 ho7
                have q0 := Lib.hid fun (m k : Nat) => CallsIn.quiet_of_same (atq (m := k) (Eq.refl L.length) (hA7.out.drewN m) cp hy0.out)
                have q1 := Lib.hid fun (m k : Nat) => CallsIn.quiet_of_same (atq (m := k) hT7.out.hl (hT7.out.rh.wds.drewN m) cap1 hy1.out)
                gi_quiet (first
                  | (gi_at_call 8; with_reducible exact q0.out _ _)
                  | (gi_at_call 8; with_reducible exact q1.out _ _))
                have c12 : (W7.drewN nq).cell? ⟨w.heap.size + 1 + 1, 0, none⟩ = some (.bool false) := hT7.out.res.cell
                have f12 : (W7.drewN nq).frozen? ⟨w.heap.size + 1 + 1, 0, none⟩ = false := hT7.out.res.frozen
                have e0 : (W7.drewN nq).cell? ⟨bc, 0, none⟩ = some (.int .i64 i) := hd0
                have e1 : (W7.drewN nq).cell? ⟨bc, 1, none⟩ = some (.int .u64 v) := hd1
                have hfin := Lib.hid (tells_end (W := W7.drewN nq) (hT7.out.drewN nq).res hK7.out (ho8.out.drewN nq) (by omega) (by omega))
                clear q0 q1 c14b hT7 hA7 hd0 hd1
                gi_wp2_with fail
                exact hfin.out _ rfl
theorem tells_any (cp : Nat) (w : World) (i v lo hi stop : Int) (hA : Wds w A L) (h1 : (Lit.int .i64 lo).wf = true) (h2 : (Lit.int .i64 hi).wf = true) :
    Calls Try.prog 3 #[.slice A L.length cp, .int .i64 i, .int .u64 v, .int .i64 lo, .int .i64 hi, .int .i64 stop] w fun e w' => e = .returned (.bool true) ∧ Only [] w w' := by
  have b1 := i64_of_wf h1
  have b2 := i64_of_wf h2
  by_cases h : 200 < L.length ∨ lo < -1000 ∨ 1000 < hi
  · exact callsIn_wide.1 (tells_out cp w i v lo hi stop h)
  · exact callsIn_wide.1 (tells_in cp w i v lo hi stop hA (by omega) (by omega) (by omega) b1.2 b2.1)
end
end Go.Proofs.Ytmegmnpnkhocaaa
