/- EndpOnce's walk: for all numbers of threads, all slices of deeds. -/
import Derived.Test.YtgbcgcmcfklnjaaEndAt
import Derived.Test.YtgbcgcmcfklnjaaEndUp
import Derived.Deep.RegionHeld3
import Derived.Lib.IfaceNeq
import Derived.Deep.AppendLies
import Derived.Deep.CutBlock
import Derived.Deep.DeepCutAuto
namespace Go.Proofs.Ytgbcgcmcfklnjaa
open Go.RowKit
theorem make_bools (k : Nat) (h : k ≤ 7) (W : World) : (Instr.makeSlice 30 (.int .i64 (k : Int)) (.int .i64 (k : Int))).run Try.prog W = .ok (.slice (some ⟨W.heap.size, 0, none⟩) k k) (W.alloc (.cells (flat brow (List.replicate k false)) BlT)) := by
  have q := run_makeN (P := Try.prog) (t := 30) (f := brow) false infoBl Try.underlying30 (fun _ => rfl) (by omega) rfl .i64 .i64 (k : Int) (k : Int) (by omega) (Int.le_refl _) (by omega) (by omega) W
  rwa [Int.toNat_natCast] at q
theorem make_ints (k : Nat) (h : k ≤ 7) (W : World) : (Instr.makeSlice 29 (.int .i64 (k : Int)) (.int .i64 (k : Int))).run Try.prog W = .ok (.slice (some ⟨W.heap.size, 0, none⟩) k k) (W.alloc (.cells (flat irow' (List.replicate k 0)) ItT)) := by
  have q := run_makeN (P := Try.prog) (t := 29) (f := irow') 0 infoIt Try.underlying29 (fun _ => rfl) (by omega) rfl .i64 .i64 (k : Int) (k : Int) (by omega) (Int.le_refl _) (by omega) (by omega) W
  rwa [Int.toNat_natCast] at q
set_option maxRecDepth 100000 in
set_option maxHeartbeats 4000000 in
theorem eonce_any (z : Int) (A : Option Addr) (LL : List E4) (cp : Nat) (w : World) (hL : DeedsE4 w A LL) (hl : LL.length ≤ 9223372036854775807) :
    Calls Try.prog 3 #[.int .i64 z, .slice A LL.length cp] w fun e w' => e = .returned (.bool true) ∧ Only [] w w' := by
  have cU := up_any w
  by_cases h1 : z < 2
  · skip
    --<X>
    go_enter Try.func3, Try.ntmps3
    go_wp2_with ((with_reducible refine cU.mono ?_); clear cU; rintro e w1 ⟨rfl, ho1⟩)
    go_ret
    exact ⟨rfl, ho1⟩
    --</X>
  by_cases h2 : 7 < z
  · skip
    --<X>
    go_enter Try.func3, Try.ntmps3
    go_wp2_with ((with_reducible refine cU.mono ?_); clear cU; rintro e w1 ⟨rfl, ho1⟩)
    go_ret
    exact ⟨rfl, ho1⟩
    --</X>
  by_cases h3 : 120 < LL.length
  · skip
    --<X>
    have h3' : (120 : Int) < (LL.length : Int) := by omega
    go_enter Try.func3, Try.ntmps3
    go_wp2_with ((with_reducible refine cU.mono ?_); clear cU; rintro e w1 ⟨rfl, ho1⟩)
    go_ret
    exact ⟨rfl, ho1⟩
    --</X>
  have h3' : ¬ (120 : Int) < (LL.length : Int) := by omega
  obtain ⟨n, rfl⟩ : ∃ n : Nat, z = n := ⟨z.toNat, by omega⟩
  have hn7 : n ≤ 7 := by omega
  have hn2 : 2 ≤ n := by omega
  have hr : ∀ W : World, _ := fun W => boot_any n hn7 W
  have HB := Lib.hid hr
  clear hr
  go_enter Try.func3, Try.ntmps3
  go_wp2_with fail
  (with_reducible refine cU.mono ?_)
  clear cU
  rintro e w1 ⟨rfl, ho1⟩
  go_wp2_with fail
  (with_reducible refine (HB.out _).mono ?_)
  rintro e w2 ⟨gs, go, rfl, hr2, -, -, ho2⟩
  obtain ⟨pB, hpB⟩ : ∃ pB, Hid (w1.heap.size = pB) := ⟨_, Lib.hid rfl⟩
  rw [hpB.out] at hr2 ⊢
  have cW := rwordsG_any hr2 (boot_eok hn7).sok.fitG
  go_wp2_with fail
  (with_reducible refine cW.mono ?_)
  clear cW HB
  rintro e w3 ⟨rfl, hm3, ho3⟩
  have ng := (ho1.trans ho2).size
  replace ho3 := (ho1.trans ho2).trans ho3
  obtain ⟨g, hg⟩ : ∃ g, Hid (w2.heap.size = g) := ⟨_, Lib.hid rfl⟩
  rw [hg.out] at hm3 ng ⊢
  clear hr2 ho1 ho2 hg hpB
  clear w1 w2
  have HW := Lib.hid (And.intro hm3 (And.intro ho3 ng))
  clear hm3 ho3 ng
  go_wp2_with fail
  rw [make_bools n hn7]
  obtain ⟨gb, hgb⟩ : ∃ gb, Hid (w3.heap.size = gb) := ⟨_, Lib.hid rfl⟩
  obtain ⟨w4, hw4⟩ : ∃ w4, Hid (w4 = w3.alloc (.cells (flat brow (List.replicate n false)) BlT)) := ⟨_, Lib.hid rfl⟩
  have hbb := bools_made w3 n
  have ho4 := HW.out.2.1.alloc (.cells (flat brow (List.replicate n false)) BlT)
  have hm4 := HW.out.1.only ((Only.refl [] w3).alloc (.cells (flat brow (List.replicate n false)) BlT)) (by simp)
  have hnb := HW.out.2.1.size
  rw [← hw4.out] at hbb ho4 hm4 ⊢
  rw [hgb.out] at hbb hnb ⊢
  have HX := Lib.hid (And.intro hm4 (And.intro ho4 (And.intro HW.out.2.2 (And.intro hbb hnb))))
  clear hbb ho4 hm4 hnb hw4 hgb HW
  clear w3
  go_wp2_with fail
  rw [make_ints n hn7]
  obtain ⟨gi, hgi⟩ : ∃ gi, Hid (w4.heap.size = gi) := ⟨_, Lib.hid rfl⟩
  obtain ⟨w5, hw5⟩ : ∃ w5, Hid (w5 = w4.alloc (.cells (flat irow' (List.replicate n 0)) ItT)) := ⟨_, Lib.hid rfl⟩
  have hib := Blk.new w4 ItT (flat irow' (List.replicate n 0))
  have hoz := (Only.refl [] w4).alloc (.cells (flat irow' (List.replicate n 0)) ItT)
  have hni := HX.out.2.1.size
  have hsz : (flat irow' (List.replicate n 0)).size = n := by have := flat_size (f := irow') (L := List.replicate n 0) irow'_len; simpa using this
  rw [← hw5.out] at hib hoz ⊢
  rw [hgi.out] at hib hni ⊢
  have hE : EAt w w5 g gb (.slice none 0 0) (.slice none 0 0) n (bootS n) (fun _ => false) [] [] :=
    ⟨HX.out.1.only hoz (by simp), HX.out.2.1.trans hoz, HX.out.2.2.1, HX.out.2.2.2.1.only hoz (by simp), HX.out.2.2.2.2, World.ownsRow_nil _ _ _ _, World.ownsRow_nil _ _ _ _, fun j hj => by cases hj⟩
  have HE := Lib.hid (And.intro hE (And.intro hib (And.intro hni hsz)))
  clear hib hoz hni hE hw5 hgi hsz HX
  clear w4
  go_wp2_with fail
  go_loopw [12] (fun i wr => ∃ k : Nat, k ≤ n ∧ i = .int .i64 k ∧ EAt w wr g gb (.slice none 0 0) (.slice none 0 0) n (bootS n) (fun _ => false) [] [] ∧ ∃ cur, Blk wr gi ItT cur ∧ w.heap.size ≤ gi ∧ cur.size = n) (fun i _ => n - (intOf i).toNat)
  case atStart => exact ⟨0, by omega, rfl, HE.out.1, _, HE.out.2⟩
  case round =>
    clear HE
    clear w5
    obtain ⟨k, hk, rfl, hE, cur, hib, hni, hsz⟩ := hrel
    by_cases hlt : k < n
    · skip
      --<L>
      have hlt' : (k : Int) < (n : Int) := by omega
      have hk0 : (0 : Int) ≤ (k : Int) := by omega
      obtain ⟨y, hy⟩ : ∃ y, cur[k]? = some y := ⟨_, Array.getElem?_eq_getElem (by omega)⟩
      have c0 : wr.cell? ⟨gi, k, none⟩ = some y := by rw [hib.cell]; exact hy
      have f0 := hib.frozen k
      have hil := hib.lt
      have hO : Only [gi] wr (wr.setCell ⟨gi, k, none⟩ (.int .i64 (-1))) := (Only.refl _ _).setCell (.inl (by simp)) _
      have hne1 : gi ≠ g := by obtain ⟨c2, h2⟩ := hE.mem.blkG; exact hib.ne_ h2 (by decide)
      have hne2 : gi ≠ gb := by obtain ⟨c2, h2, -⟩ := hE.bb; exact hib.ne_ h2 (by decide)
      have HR := Lib.hid (And.intro (hE.other hO (fun j hj => by simp at hj; subst hj; exact ⟨hni, hne1, hne2, by simp [Value.ownBlock], by simp [Value.ownBlock]⟩)) (And.intro (hib.set_ k (.int .i64 (-1))) (And.intro hni (show (cur.setIfInBounds k (.int .i64 (-1))).size = n by rw [Array.size_setIfInBounds]; exact hsz))))
      clear hE hib hni hsz hO hne1 hne2 hy
      go_wp2_with fail
      exact ⟨⟨k + 1, by omega, by go_num, HR.out.1, _, HR.out.2⟩, by simp [intOf]; omega⟩
      --</L>
    · obtain rfl : k = n := by omega
      have HE := Lib.hid hE
      have hlt' : ¬ (k : Int) < (k : Int) := by omega
      clear hE hib hni hsz hlt
      go_wp2_with fail
      obtain ⟨wo, rfl⟩ : ∃ x, x = wr := ⟨_, rfl⟩
      go_loopw [8, 9, 13] (fun vs vg i wr => ∃ (m : Nat) (S : RSt) (bl : Int → Bool) (got sent : List Int), m ≤ LL.length ∧ i = .int .i64 m ∧ got.length ≤ 2 * m ∧ sent.length ≤ m ∧ EAt w wr g gb vg vs k S bl got sent ∧ EO k S bl got sent m) (fun _ _ i _ => LL.length - (intOf i).toNat)
      case atStart => exact ⟨0, _, _, [], [], by omega, rfl, by simp, by simp, HE.out, boot_eo hn7⟩
      case round =>
        clear HE
        clear wo
        obtain ⟨m, S, bl, got, sent, hm, rfl, hgl, hsl, hE, hO⟩ := hrel
        by_cases hml : m < LL.length
        · obtain ⟨d, hd⟩ : ∃ d, LL[m]? = some d := ⟨_, List.getElem?_eq_getElem hml⟩
          obtain ⟨b, off, rfl, hb, hc⟩ := hL.at_ m d hd
          have hok := hL.ok m d hd
          have c0 : wr.cell? ⟨b, off + m * 4, none⟩ = some (.int .i64 d.what) := (hE.only.cell (p := ⟨b, off + m * 4, none⟩) hb (by simp)).trans (hc 0 _ rfl)
          have c1 : wr.cell? ⟨b, off + m * 4 + 1, none⟩ = some (.int .i64 d.t) := (hE.only.cell (p := ⟨b, off + m * 4 + 1, none⟩) hb (by simp)).trans (hc 1 _ rfl)
          have c2 : wr.cell? ⟨b, off + m * 4 + 2, none⟩ = some (.int .i64 d.n) := (hE.only.cell (p := ⟨b, off + m * 4 + 2, none⟩) hb (by simp)).trans (hc 2 _ rfl)
          have c3 : wr.cell? ⟨b, off + m * 4 + 3, none⟩ = some (.int .i64 d.b) := (hE.only.cell (p := ⟨b, off + m * 4 + 3, none⟩) hb (by simp)).trans (hc 3 _ rfl)
          have hbz := hE.only.size
          have hn := Blk.new wr E4T d.arr
          have hE1 := hE.only0 ((Only.refl [] wr).alloc (.cells d.arr E4T))
          have HH := Lib.hid (And.intro hn (And.intro hE1 (And.intro hok hO)))
          have HLT := Lib.hid (And.intro hml (And.intro h3' (And.intro hgl hsl)))
          have hlt' : (m : Int) < (LL.length : Int) := by omega
          clear hd hc hE hn hE1 hok hO hgl hsl
          go_upto_region 18 with fail
          obtain ⟨n0, hn0⟩ : ∃ n0, Hid (n0 = wr.heap.size) := ⟨_, Lib.hid rfl⟩
          obtain ⟨w4, hw4⟩ : ∃ w4, Hid (w4 = wr.alloc (.cells d.arr E4T)) := ⟨_, Lib.hid rfl⟩
          rw [← hw4.out, ← hn0.out] at HH
          rw [← hw4.out, ← hn0.out]
          clear c0 c1 c2 c3 hbz hn0 hw4
          clear wr
          obtain ⟨hn, hE, hok, hO⟩ := HH.out
          obtain ⟨e0, e1, e2, e3⟩ := E4.cells hn
          have hnl := hn.lt
          have htr := pickN_rng d.t (n := (k : Int)) (by omega)
          have hpr := pickN_rng d.what (n := 4) (by decide)
          obtain ⟨t, ht⟩ : ∃ t, pickN d.t k = t := ⟨_, rfl⟩
          obtain ⟨p, hp⟩ : ∃ p, pickN d.what 4 = p := ⟨_, rfl⟩
          have cT := pickN_any d.t k hok.t (by omega) (by omega) w4
          have cP := Lib.hid fun W => pickN_any d.what 4 hok.what (by decide) (by decide) W
          rw [ht] at cT htr
          rw [hp] at cP hpr
          obtain ⟨a, rfl⟩ : ∃ a : Nat, t = a := ⟨t.toNat, by omega⟩
          have hak : a < k := by omega
          have hth := hO.thr a htr.1 htr.2
          have cS := estate_is hE.mem hO.ok hth
          obtain ⟨st, hst⟩ : ∃ st, (S.ob (a : Int)).state = st := ⟨_, rfl⟩
          rw [hst] at cS
          have HS := Lib.hid (And.intro hst hth)
          clear hn hE hok hO ht hp hst hth
          go_wp2_with ((with_reducible refine cT.mono ?_); clear cT; rintro e w' ⟨rfl, hw⟩; replace hw := hw.symm; subst hw)
          (with_reducible refine cS.mono ?_)
          clear cS
          rintro e w5 ⟨rfl, hm5, ho5⟩
          have HE5 := Lib.hid (And.intro (HH.out.2.1.words hm5 ho5) (HH.out.2.1.keep (by decide) HH.out.1 ho5))
          clear hm5 ho5 e0 e1 e2 e3 hnl
          by_cases hs1 : st = 1
          · subst hs1
            have cb := HE5.out.1.bb.cell hak
            have fb := HE5.out.1.bb.frozen a
            have hgl := HE5.out.1.bb.lt
            have ha0 : (0 : Int) ≤ (a : Int) := by omega
            have hak' : (a : Int) < (k : Int) := by omega
            obtain ⟨b1, hb1⟩ : ∃ b1, Hid (bl (a : Int) = b1) := ⟨_, Lib.hid rfl⟩
            rw [hb1.out] at cb
            go_upto_if 88 with fail
            go_cut [9] (fun v W => ∃ (bl' : Int → Bool) (got' : List Int), EAt w W g gb v u8 k S bl' got' sent ∧ EO k S bl' got' sent m ∧ bl' (a : Int) = false ∧ Blk W n0 E4T d.arr ∧ got'.length ≤ 2 * m + 1)
            case first =>
              --<A>
              as_aux_lemma =>
              cases b1 with
              | false =>
                clear cb fb hgl
                go_wp2_with fail
                go_meet
                exact ⟨bl, got, HE5.out.1, HH.out.2.2.2, hb1.out, HE5.out.2, by have := HLT.out; omega⟩
              | true =>
                have s2 := HE5.out.1.setBl hak false
                have n2 := HE5.out.1.keepB (by decide) HE5.out.2 a (.bool false)
                have hO2 := HH.out.2.2.2.collect HS.out.2 HS.out.1 hb1.out
                have hz2 := s2.only.size
                obtain ⟨iI, hi0, hi1, hi2, hi3⟩ := info_parts infoIt
                go_upto_region 22 with fail
                obtain ⟨w6, hw6⟩ : ∃ w6, Hid (w6 = w5.setCell ⟨gb, a, none⟩ (.bool false)) := ⟨_, Lib.hid rfl⟩
                rw [← hw6.out] at s2 n2 hz2 ⊢
                obtain ⟨cw, bw⟩ := s2.wordC HH.out.2.2.2.ok HS.out.2
                obtain ⟨x, hx⟩ : ∃ x, Hid ((S.ob (a : Int)).word = x) := ⟨_, Lib.hid rfl⟩
                rw [hx.out] at cw bw hO2
                have hgl6 : g < w6.heap.size := by obtain ⟨c2, h2⟩ := s2.mem.blkG; exact h2.lt
                have hx0 : 0 ≤ x := bw.1
                have hx1 : x ≤ 1099511627776 := bw.2
                have hxw : IntKind.i64.wrap x = x := IntWalk.i64_in _ (by omega)
                have hw1 : IntKind.i64.wrap (8 * (a : Int)) = 8 * (a : Int) := IntWalk.i64_in _ (by omega)
                have hw2 : IntKind.i64.wrap (480 + 8 * (a : Int)) = 480 + 8 * (a : Int) := IntWalk.i64_in _ (by omega)
                have hw3 : IntKind.i64.wrap (480 + 8 * (a : Int) + 3) = 480 + 8 * (a : Int) + 3 := IntWalk.i64_in _ (by omega)
                have hi1' : (480 + 8 * (a : Int) + 3).toNat = 483 + 8 * a := by omega
                have hi2' : 480 + 8 * (a : Int) + 3 < 738 := by omega
                have hi3' : 0 ≤ 480 + 8 * (a : Int) + 3 := by omega
                have hown := s2.og.alloc (.cells #[.int .i64 x] ItT)
                have H2 := Lib.hid (And.intro s2 (And.intro n2 hO2))
                clear s2 n2 hO2 bw cb fb hgl hw6
                go_wp2_with (at_builtin; refine wpList_append_lies _ (by rfl) _ _ 29 (by rfl) w.heap.size ItT iI (.int .i64 0) 1 8 Try.underlying29 hi0 hi1 hi2 hi3 rfl (by omega) _ got.length _ (by rfl) hown ⟨w6.heap.size, 0, none⟩ 1 1 [.int .i64 x] (by rfl) (by rfl) (World.news_of_block (cs := #[.int .i64 x]) (t := ItT) (fr := (0, 0)) (heap_alloc_new w6 _)) (by simp [Value.oneCell']) (by omega) (by have := HLT.out; unfold maxLen; omega) (by have := HLT.out; omega) (by simp; omega) (w6.heap.size + 1) (by simp) ?_; intro g5 cap5 w7 hrow5 hgrow5 hat5 hlt5)
                go_meet
                have hs1 := HLT.out
                exact ⟨setF bl (a : Int) false, got ++ [x], H2.out.1.gotGrow hrow5 hgrow5 hat5, H2.out.2.2, setF_self _ _ _, own_keep H2.out.1.og (by decide) H2.out.2.1 hgrow5, by rw [List.length_append]; simp; omega⟩
              --</A>
            case rest =>
              clear hgl cb fb
              obtain ⟨bl', got', hE, hO, hba, hn, hgl⟩ := hcut
              obtain ⟨e0, e1, e2, e3⟩ := E4.cells hn
              have HR := Lib.hid (And.intro hE (And.intro hO (And.intro hba (And.intro hn hgl))))
              clear hE hO hba hn hgl HE5 hb1
              go_upto_if 107 with ((with_reducible refine (cP.out _).mono ?_); rintro e w' ⟨rfl, hw⟩; replace hw := hw.symm; subst hw)
              by_cases hp2 : p < 2
              · skip
                --<B>
                go_wp2_with fail
                have hd2 : decide (p < 2) = true := by simp [hp2]
                rw [hd2]
                clear hd2
                obtain ⟨wo, rfl⟩ : ∃ x, x = w' := ⟨_, rfl⟩
                go_loopw [17, 18] (fun rv kv wr => ∃ j : Nat, j ≤ k ∧ kv = .int .i64 j ∧ rv = .bool (recB S j) ∧ EAt w wr g gb u9 u8 k S bl' got' sent ∧ Blk wr n0 E4T d.arr) (fun _ kv _ => k - (intOf kv).toNat)
                case atStart => exact ⟨0, by omega, rfl, rfl, HR.out.1, HR.out.2.2.2.1⟩
                case round =>
                  clear e0 e1 e2 e3
                  obtain ⟨j, hj, rfl, rfl, hE, hn⟩ := hrel
                  by_cases hjl : j < k
                  · skip
                    --<B1>
                    as_aux_lemma =>
                    have hjl' : (j : Int) < (k : Int) := by omega
                    have cS := estate_is hE.mem HR.out.2.1.ok (HR.out.2.1.thr j (by omega) (by omega))
                    obtain ⟨s3, hs3⟩ : ∃ s3, Hid ((S.ob (j : Int)).state = s3) := ⟨_, Lib.hid rfl⟩
                    rw [hs3.out] at cS
                    obtain ⟨rb, hrb⟩ : ∃ rb, Hid (recB S j = rb) := ⟨_, Lib.hid rfl⟩
                    rw [hrb.out]
                    have HE := Lib.hid (And.intro hE hn)
                    clear hE hn
                    cases rb with
                    | true =>
                      clear cS
                      go_wp2_with fail
                      exact ⟨⟨j + 1, by omega, by go_num, by show Value.bool true = .bool (recB S j || _); rw [hrb.out]; rfl, HE.out.1, HE.out.2⟩, by simp [intOf]; omega⟩
                    | false =>
                      go_wp2_with ((with_reducible refine cS.mono ?_); clear cS; rintro e w6 ⟨rfl, hm6, ho6⟩)
                      exact ⟨⟨j + 1, by omega, by go_num, by show Value.bool (s3 == 3) = .bool (recB S j || decide ((S.ob (j : Int)).state = 3)); rw [hrb.out, hs3.out]; by_cases e : s3 = 3 <;> simp [e], HE.out.1.words hm6 ho6, HE.out.1.keep (by decide) HE.out.2 ho6⟩, by simp [intOf]; omega⟩
                    --</B1>
                  · obtain rfl : k = j := by omega
                    have hjl' : ¬ (k : Int) < (k : Int) := by omega
                    obtain ⟨cl, hcl⟩ : ∃ cl, (p == 1) = cl := ⟨_, rfl⟩
                    have cQ := esend_is hE.mem HR.out.2.1.ok HR.out.2.1.ep HS.out.2 HS.out.1 (n := (m : Int) + 1) (b := 0) ⟨by omega, by have := HLT.out; omega⟩ ⟨by decide, by decide⟩ cl
                    have hrec := HR.out.2.1.recB (call := cl)
                    rw [hrec] at cQ
                    have hOS := HR.out.2.1.send (call := cl) HS.out.2 HS.out.1 HR.out.2.2.1 (by have := HLT.out; omega)
                    obtain ⟨S1, hS1⟩ : ∃ S1, sendS S ((k : Int) + 3) (a : Int) 0 ((m : Int) + 1) cl = S1 := ⟨_, rfl⟩
                    rw [hS1] at cQ hOS
                    obtain ⟨rb, hrb⟩ : ∃ rb, Hid (recB S k = rb) := ⟨_, Lib.hid rfl⟩
                    rw [hrb.out] at cQ ⊢
                    have HE := Lib.hid (And.intro hE hOS)
                    have hwm : IntKind.i64.wrap ((m : Int) + 1) = (m : Int) + 1 := IntWalk.i64_in _ (by have := HLT.out; omega)
                    have hcc : (cl != cl) = false := by simp
                    obtain ⟨iI, hi0, hi1, hi2, hi3⟩ := info_parts infoIt
                    clear hE hn hrec hjl hOS hS1
                    cases rb with
                    | true =>
                      go_wp2_with fail
                      (with_reducible refine cQ.mono ?_)
                      clear cQ
                      rintro e w6 ⟨rfl, hm6, ho6⟩
                      have s6 := HE.out.1.words hm6 ho6
                      have hown := s6.os.alloc (.cells #[.int .i64 ((m : Int) + 1)] ItT)
                      have hz6 := s6.only.size
                      have H6 := Lib.hid s6
                      clear s6 hm6 ho6
                      go_wp2_with (at_builtin; refine wpList_append_lies _ (by rfl) _ _ 29 (by rfl) w.heap.size ItT iI (.int .i64 0) 1 8 Try.underlying29 hi0 hi1 hi2 hi3 rfl (by omega) _ sent.length _ (by rfl) hown ⟨w6.heap.size, 0, none⟩ 1 1 [.int .i64 ((m : Int) + 1)] (by rfl) (by rfl) (World.news_of_block (cs := #[.int .i64 ((m : Int) + 1)]) (t := ItT) (fr := (0, 0)) (heap_alloc_new w6 _)) (by simp [Value.oneCell']) (by omega) (by have := HLT.out; have := HR.out.2.2.2.2; unfold maxLen; omega) (by have := HLT.out; have := HR.out.2.2.2.2; omega) (by simp; omega) (w6.heap.size + 1) (by simp) ?_; intro g5 cap5 w7 hrow5 hgrow5 hat5 hlt5)
                      have hs1 := HLT.out
                      exact ⟨⟨m + 1, S1, bl', got', sent ++ [(m : Int) + 1], by omega, by go_num, by have := HR.out.2.2.2.2; omega, by simp; omega, H6.out.sentGrow hrow5 hgrow5 hat5, HE.out.2⟩, by simp [intOf]; omega⟩
                    | false =>
                      go_wp2_with fail
                      (with_reducible refine cQ.mono ?_)
                      clear cQ
                      rintro e w6 ⟨rfl, hm6, ho6⟩
                      have s6 := HE.out.1.words hm6 ho6
                      have hown := s6.os.alloc (.cells #[.int .i64 ((m : Int) + 1)] ItT)
                      have hz6 := s6.only.size
                      have H6 := Lib.hid s6
                      clear s6 hm6 ho6
                      go_wp2_with (at_builtin; refine wpList_append_lies _ (by rfl) _ _ 29 (by rfl) w.heap.size ItT iI (.int .i64 0) 1 8 Try.underlying29 hi0 hi1 hi2 hi3 rfl (by omega) _ sent.length _ (by rfl) hown ⟨w6.heap.size, 0, none⟩ 1 1 [.int .i64 ((m : Int) + 1)] (by rfl) (by rfl) (World.news_of_block (cs := #[.int .i64 ((m : Int) + 1)]) (t := ItT) (fr := (0, 0)) (heap_alloc_new w6 _)) (by simp [Value.oneCell']) (by omega) (by have := HLT.out; have := HR.out.2.2.2.2; unfold maxLen; omega) (by have := HLT.out; have := HR.out.2.2.2.2; omega) (by simp; omega) (w6.heap.size + 1) (by simp) ?_; intro g5 cap5 w7 hrow5 hgrow5 hat5 hlt5)
                      have hs1 := HLT.out
                      exact ⟨⟨m + 1, S1, bl', got', sent ++ [(m : Int) + 1], by omega, by go_num, by have := HR.out.2.2.2.2; omega, by simp; omega, H6.out.sentGrow hrow5 hgrow5 hat5, HE.out.2⟩, by simp [intOf]; omega⟩
                --</B>
              · by_cases hp3 : p = 2
                · skip
                  --<C>
                  subst hp3
                  clear e0 e1 e2 e3 hpr hp2
                  obtain ⟨iI, hi0, hi1, hi2, hi3⟩ := info_parts infoIt
                  by_cases ho0 : 0 ≤ (S.ob (a : Int)).owes
                  · skip
                    --<C1>
                    as_aux_lemma =>
                    have cR := erecv_bad HR.out.1.mem HR.out.2.1.ok HR.out.2.1.ep HS.out.2 HS.out.1 ho0
                    rw [show errV 10 = .iface 44 (.int .i64 10) from rfl] at cR
                    have hq := fun (W : World) => Lib.run_neq_iface_int (P := Try.prog) W (t := 37) (tx := 44) (k := .i64) 10 10 Try.underlying37 (by kernel_rfl) Try.underlying44
                    go_wp2_with fail
                    (with_reducible refine cR.mono ?_)
                    clear cR
                    rintro e w6 ⟨rfl, hm6, ho6⟩
                    have s6 := (HR.out.1.words hm6 ho6).only0 ((Only.refl [] w6).alloc (.cells #[.int .i64 0, .int .i64 0, .int .i64 0] 41))
                    have H6 := Lib.hid s6
                    have hs1 := HLT.out
                    clear s6 hm6 ho6
                    go_wp2_with fail
                    exact ⟨⟨m + 1, S, bl', got', sent, by omega, by go_num, by have := HR.out.2.2.2.2; omega, by omega, H6.out, HR.out.2.1.more⟩, by simp [intOf]; omega⟩
                    --</C1>
                  by_cases hw1 : (S.ob ((k : Int) + 3)).wait = 1
                  · skip
                    --<C2>
                    as_aux_lemma =>
                    have cR := erecv_told HR.out.1.mem HR.out.2.1.ok HR.out.2.1.ep HS.out.2 HS.out.1 ho0 hw1
                    have hOS := HR.out.2.1.told HS.out.2 HS.out.1 ho0 hw1
                    obtain ⟨x, hx⟩ : ∃ x, (S.ob (headQ S ((k : Int) + 3))).word = x := ⟨_, rfl⟩
                    obtain ⟨y, hy⟩ : ∃ y, (S.ob (headQ S ((k : Int) + 3))).badge = y := ⟨_, rfl⟩
                    rw [hx] at cR hOS
                    rw [hy] at cR
                    have HOS := Lib.hid hOS
                    clear hOS hx hy ho0 hw1
                    go_wp2_with fail
                    (with_reducible refine cR.mono ?_)
                    clear cR
                    rintro e w6 ⟨rfl, hm6, ho6⟩
                    have s6 := (HR.out.1.words hm6 ho6).only0 ((Only.refl [] w6).alloc (.cells #[.int .i64 0, .int .i64 x, .int .i64 y] 41))
                    have hrb := Blk.new w6 41 #[.int .i64 0, .int .i64 x, .int .i64 y]
                    have HH6 := Lib.hid (And.intro s6 hrb)
                    clear s6 hm6 ho6 hrb
                    go_upto_region 40 with fail
                    obtain ⟨nr, hnr⟩ : ∃ nr, Hid (nr = w6.heap.size) := ⟨_, Lib.hid rfl⟩
                    obtain ⟨w8, hw8⟩ : ∃ w8, Hid (w8 = w6.alloc (.cells #[.int .i64 0, .int .i64 x, .int .i64 y] 41)) := ⟨_, Lib.hid rfl⟩
                    rw [← hw8.out, ← hnr.out] at HH6
                    rw [← hw8.out, ← hnr.out]
                    clear hw8 hnr
                    clear w6
                    have hcr : w8.cell? ⟨nr, 1, none⟩ = some (.int .i64 x) := HH6.out.2.cell 1
                    have hlr := HH6.out.2.lt
                    have hown := HH6.out.1.og.alloc (.cells #[.int .i64 x] ItT)
                    have hz6 := HH6.out.1.only.size
                    go_wp2_with (at_builtin; refine wpList_append_lies _ (by rfl) _ _ 29 (by rfl) w.heap.size ItT iI (.int .i64 0) 1 8 Try.underlying29 hi0 hi1 hi2 hi3 rfl (by omega) _ got'.length _ (by rfl) hown ⟨w8.heap.size, 0, none⟩ 1 1 [.int .i64 x] (by rfl) (by rfl) (World.news_of_block (cs := #[.int .i64 x]) (t := ItT) (fr := (0, 0)) (heap_alloc_new w8 _)) (by simp [Value.oneCell']) (by omega) (by have := HLT.out; have := HR.out.2.2.2.2; unfold maxLen; omega) (by have := HLT.out; have := HR.out.2.2.2.2; omega) (by simp; omega) (w8.heap.size + 1) (by simp) ?_; intro g5 cap5 w7 hrow5 hgrow5 hat5 hlt5)
                    have hs1 := HLT.out
                    have hs2 := HR.out.2.2.2.2
                    exact ⟨⟨m + 1, recvS S ((k : Int) + 3) (a : Int), bl', got' ++ [x], sent, by omega, by go_num, by simp; omega, by omega, HH6.out.1.gotGrow hrow5 hgrow5 hat5, HOS.out.more⟩, by simp [intOf]; omega⟩
                    --</C2>
                  · skip
                    --<C3>
                    as_aux_lemma =>
                    have cR := erecv_waits HR.out.1.mem HR.out.2.1.ok HR.out.2.1.ep HS.out.2 HS.out.1 ho0 hw1
                    have HOS := Lib.hid (HR.out.2.1.waits HS.out.2 HS.out.1 ho0 hw1 HR.out.2.2.1)
                    clear ho0 hw1
                    go_wp2_with fail
                    (with_reducible refine cR.mono ?_)
                    clear cR
                    rintro e w6 ⟨rfl, hm6, ho6⟩
                    have s6 := (HR.out.1.words hm6 ho6).only0 ((Only.refl [] w6).alloc (.cells #[.int .i64 0, .int .i64 0, .int .i64 0] 41))
                    have HH6 := Lib.hid s6
                    clear s6 hm6 ho6
                    go_upto_region 41 with fail
                    obtain ⟨nr, hnr⟩ : ∃ nr, Hid (nr = w6.heap.size) := ⟨_, Lib.hid rfl⟩
                    obtain ⟨w8, hw8⟩ : ∃ w8, Hid (w8 = w6.alloc (.cells #[.int .i64 0, .int .i64 0, .int .i64 0] 41)) := ⟨_, Lib.hid rfl⟩
                    rw [← hw8.out] at HH6
                    rw [← hw8.out, ← hnr.out]
                    clear hw8 hnr
                    clear w6
                    have cb := HH6.out.bb.cell hak
                    have fb := HH6.out.bb.frozen a
                    have hgl := HH6.out.bb.lt
                    have s9 := Lib.hid (HH6.out.setBl hak true)
                    rw [HR.out.2.2.1] at cb
                    have hs1 := HLT.out
                    have hs2 := HR.out.2.2.2.2
                    go_wp2_with fail
                    exact ⟨⟨m + 1, recvS S ((k : Int) + 3) (a : Int), setF bl' (a : Int) true, got', sent, by omega, by go_num, by omega, by omega, s9.out, HOS.out.more⟩, by simp [intOf]; omega⟩
                    --</C3>
                  --</C>
                · skip
                  --<D>
                  obtain rfl : p = 3 := by omega
                  clear e0 e1 e2 e3 hpr hp2 hp3
                  go_wp2_with fail
                  obtain ⟨wo, rfl⟩ : ∃ x, x = w' := ⟨_, rfl⟩
                  go_loopw [24, 25] (fun hv kv wr => ∃ j : Nat, j ≤ k ∧ kv = .int .i64 j ∧ hv = .int .i64 (repN S j : Nat) ∧ EAt w wr g gb u9 u8 k S bl' got' sent) (fun _ kv _ => k - (intOf kv).toNat)
                  case atStart => exact ⟨0, by omega, rfl, rfl, HR.out.1⟩
                  case round =>
                    obtain ⟨j, hj, rfl, rfl, hE⟩ := hrel
                    have hcl : repN S j ≤ j := cnt_le j
                    by_cases hjl : j < k
                    · skip
                      --<D1>
                      as_aux_lemma =>
                      have hjl' : (j : Int) < (k : Int) := by omega
                      have cS := estate_is hE.mem HR.out.2.1.ok (HR.out.2.1.thr j (by omega) (by omega))
                      obtain ⟨s3, hs3⟩ : ∃ s3, Hid ((S.ob (j : Int)).state = s3) := ⟨_, Lib.hid rfl⟩
                      rw [hs3.out] at cS
                      have HE := Lib.hid hE
                      have HC := Lib.hid hcl
                      have hwc : IntKind.i64.wrap ((repN S j : Int) + 1) = (repN S j : Int) + 1 := IntWalk.i64_in _ (by have : repN S j ≤ j := HC.out; omega)
                      clear hE hcl
                      by_cases h4 : s3 = 4
                      · subst h4
                        have hst : repN S (j + 1) = repN S j + 1 := by
                          show cnt _ j + _ = _
                          rw [if_pos (by simp [hs3.out])]
                          rfl
                        have HST := Lib.hid hst
                        clear hst
                        go_wp2_with ((with_reducible refine cS.mono ?_); clear cS; rintro e w6 ⟨rfl, hm6, ho6⟩)
                        refine ⟨⟨_, _, _, _, _, _, _, _, _, _, _, _, _, _, ⟨j + 1, by omega, ?_, ?_, HE.out.words hm6 ho6⟩, rfl⟩, by simp [intOf]; omega⟩
                        · go_num
                        · rw [HST.out]
                          go_num
                      · have h4' : (s3 == 4) = false := by simpa using h4
                        have hst : repN S (j + 1) = repN S j := by
                          show cnt _ j + _ = _
                          rw [if_neg (by simp [hs3.out, h4])]
                          rfl
                        have HST := Lib.hid hst
                        clear hst
                        go_wp2_with ((with_reducible refine cS.mono ?_); clear cS; rintro e w6 ⟨rfl, hm6, ho6⟩)
                        refine ⟨⟨_, _, _, _, _, _, _, _, _, _, _, _, _, _, ⟨j + 1, by omega, ?_, ?_, HE.out.words hm6 ho6⟩, rfl⟩, by simp [intOf]; omega⟩
                        · go_num
                        · rw [HST.out]
                      --</D1>
                    · obtain rfl : k = j := by omega
                      have hjl' : ¬ (k : Int) < (k : Int) := by omega
                      have cA := eans_is hE.mem HR.out.2.1.ok HS.out.2 (n := 0) ⟨by decide, by decide⟩
                      have hOS := HR.out.2.1.answer HS.out.2
                      have hnow : repN (ansS S (a : Int) 0) k ≤ k := cnt_le k
                      obtain ⟨had, hhad⟩ : ∃ had, repN S k = had := ⟨_, rfl⟩
                      have hway : ((S.ob (a : Int)).owes < 0 ∧ repN (ansS S (a : Int) 0) k = had) ∨ (¬ (S.ob (a : Int)).owes < 0 ∧ repN (ansS S (a : Int) 0) k + 1 = had) := by
                        by_cases h0 : (S.ob (a : Int)).owes < 0
                        · exact .inl ⟨h0, by rw [EO.rep_no h0, hhad]⟩
                        · exact .inr ⟨h0, by rw [← hhad, HR.out.2.1.rep_yes HS.out.2 h0]⟩
                      obtain ⟨S1, hS1⟩ : ∃ S1, ansS S (a : Int) 0 = S1 := ⟨_, rfl⟩
                      rw [hS1] at cA hOS hnow hway
                      rw [hhad] at hcl ⊢
                      have HE := Lib.hid (And.intro hE (And.intro hOS (And.intro hway hnow)))
                      clear hE hOS hjl hway hnow hS1 hhad
                      obtain ⟨er, her⟩ : ∃ er, errV (if (S.ob (a : Int)).owes < 0 then 10 else 0) = er := ⟨_, rfl⟩
                      rw [her] at cA
                      have HER := Lib.hid her
                      clear her
                      go_wp2_with fail
                      (with_reducible refine cA.mono ?_)
                      clear cA
                      rintro e w6 ⟨rfl, hm6, ho6⟩
                      have H6 := Lib.hid (HE.out.1.words hm6 ho6)
                      clear hm6 ho6
                      go_wp2_with fail
                      go_loopw [27, 28] (fun hv kv wr => ∃ j : Nat, j ≤ k ∧ kv = .int .i64 j ∧ hv = .int .i64 (repN S1 j : Nat) ∧ EAt w wr g gb u9 u8 k S1 bl' got' sent) (fun _ kv _ => k - (intOf kv).toNat)
                      case atStart => exact ⟨0, by omega, rfl, rfl, H6.out⟩
                      case round =>
                        obtain ⟨j, hj, rfl, rfl, hE⟩ := hrel
                        have hc2 : repN S1 j ≤ j := cnt_le j
                        by_cases hjl : j < k
                        · skip
                          --<D2>
                          as_aux_lemma =>
                          have hjl' : (j : Int) < (k : Int) := by omega
                          have cS := estate_is hE.mem HE.out.2.1.ok (HE.out.2.1.thr j (by omega) (by omega))
                          obtain ⟨s3, hs3⟩ : ∃ s3, Hid ((S1.ob (j : Int)).state = s3) := ⟨_, Lib.hid rfl⟩
                          rw [hs3.out] at cS
                          have HE7 := Lib.hid hE
                          have HC := Lib.hid hc2
                          have hwc : IntKind.i64.wrap ((repN S1 j : Int) + 1) = (repN S1 j : Int) + 1 := IntWalk.i64_in _ (by have : repN S1 j ≤ j := HC.out; omega)
                          clear hE hc2
                          by_cases h4 : s3 = 4
                          · subst h4
                            have hst : repN S1 (j + 1) = repN S1 j + 1 := by
                              show cnt _ j + _ = _
                              rw [if_pos (by simp [hs3.out])]
                              rfl
                            have HST := Lib.hid hst
                            clear hst
                            go_wp2_with ((with_reducible refine cS.mono ?_); clear cS; rintro e w8 ⟨rfl, hm6, ho6⟩)
                            exact ⟨⟨j + 1, by omega, by go_num, by rw [HST.out]; go_num, HE7.out.words hm6 ho6⟩, by simp [intOf]; omega⟩
                          · have h4' : (s3 == 4) = false := by simpa using h4
                            have hst : repN S1 (j + 1) = repN S1 j := by
                              show cnt _ j + _ = _
                              rw [if_neg (by simp [hs3.out, h4])]
                              rfl
                            have HST := Lib.hid hst
                            clear hst
                            go_wp2_with ((with_reducible refine cS.mono ?_); clear cS; rintro e w8 ⟨rfl, hm6, ho6⟩)
                            exact ⟨⟨j + 1, by omega, by go_num, by rw [HST.out], HE7.out.words hm6 ho6⟩, by simp [intOf]; omega⟩
                          --</D2>
                        · skip
                          --<D3>
                          as_aux_lemma =>
                          obtain rfl : k = j := by omega
                          have hjl' : ¬ (k : Int) < (k : Int) := by omega
                          have hs1 := HLT.out
                          have hs2 := HR.out.2.2.2.2
                          obtain ⟨now, hnw⟩ : ∃ now, repN S1 k = now := ⟨_, rfl⟩
                          have hc2 : now ≤ k := by rw [← hnw]; exact hc2
                          have hwc : IntKind.i64.wrap ((had : Int) - 1) = (had : Int) - 1 := IntWalk.i64_in _ (by have : had ≤ k := hcl; omega)
                          have hend : (∃ (m' : Nat) (S' : RSt) (bl'' : Int → Bool) (got'' sent' : List Int), m' ≤ LL.length ∧ Value.int .i64 ((m : Int) + 1) = .int .i64 m' ∧ got''.length ≤ 2 * m' ∧ sent'.length ≤ m' ∧ EAt w wr g gb u9 u8 k S' bl'' got'' sent' ∧ EO k S' bl'' got'' sent' m') :=
                            ⟨m + 1, S1, bl', got', sent, by omega, by go_num, by omega, by omega, hE, HE.out.2.1.more⟩
                          have HEND := Lib.hid hend
                          have HWAY := HE.out.2.2.1
                          rw [hnw] at HWAY ⊢
                          clear hend hE hnw hjl
                          rcases HWAY with ⟨h0, h1⟩ | ⟨h0, h1⟩
                          · have her : er = .iface 44 (.int .i64 10) := by rw [← HER.out, if_pos h0]; rfl
                            subst her
                            subst h1
                            have hq := fun (W : World) => Lib.run_neq_iface_int (P := Try.prog) W (t := 37) (tx := 44) (k := .i64) 10 10 Try.underlying37 (by kernel_rfl) Try.underlying44
                            have hn1 : ((now : Int) == (now : Int) - 1) = false := by simp; omega
                            clear h0
                            go_wp2_with fail
                            exact ⟨HEND.out, by simp [intOf]; omega⟩
                          · have her : er = .nilIface := by rw [← HER.out, if_neg (by omega)]; rfl
                            subst her
                            have hn1 : ((now : Int) == (had : Int) - 1) = true := by simp; omega
                            clear h0
                            go_wp2_with fail
                            exact ⟨HEND.out, by simp [intOf]; omega⟩
                          --</D3>
                  --</D>
          · skip
            --<Z>
            have hs1' : (st != 1) = true := by simpa using hs1
            go_wp2_with fail
            exact ⟨⟨m + 1, S, bl, got, sent, by have := HLT.out; omega, by go_num, by have := HLT.out; omega, by have := HLT.out; omega, HE5.out.1, HH.out.2.2.2.more⟩, by have := HLT.out; simp [intOf]; omega⟩
            --</Z>
        · skip
          --<E>
          obtain rfl : m = LL.length := by omega
          have hlt' : ¬ (LL.length : Int) < (LL.length : Int) := by omega
          have HE := Lib.hid (And.intro hE hO)
          have HLN := Lib.hid (And.intro hgl hsl)
          clear hE hO hgl hsl hml hm
          go_wp2_with fail
          obtain ⟨wo, rfl⟩ : ∃ x, x = wr := ⟨_, rfl⟩
          go_loopw [9, 29] (fun vg tv wr => ∃ j : Nat, j ≤ k ∧ tv = .int .i64 j ∧ EAt w wr g gb vg u8 k S bl (got ++ coll S bl j) sent) (fun _ tv _ => k - (intOf tv).toNat)
          case atStart => exact ⟨0, by omega, rfl, by show EAt w wo g gb u9 u8 k S bl (got ++ []) sent; rw [List.append_nil]; exact HE.out.1⟩
          case round =>
            obtain ⟨j, hj, rfl, hE⟩ := hrel
            by_cases hjl : j < k
            · skip
              --<E1>
              as_aux_lemma =>
              have hjl' : (j : Int) < (k : Int) := by omega
              have hj0 : (0 : Int) ≤ (j : Int) := by omega
              have hjt := HE.out.2.thr j (by omega) (by omega)
              have cb := hE.bb.cell hjl
              have hbl := hE.bb.lt
              have cS := estate_is hE.mem HE.out.2.ok hjt
              obtain ⟨bj, hbj⟩ : ∃ bj, Hid (bl (j : Int) = bj) := ⟨_, Lib.hid rfl⟩
              obtain ⟨s3, hs3⟩ : ∃ s3, Hid ((S.ob (j : Int)).state = s3) := ⟨_, Lib.hid rfl⟩
              obtain ⟨gt, hgt⟩ : ∃ gt, Hid (got ++ coll S bl j = gt) := ⟨_, Lib.hid rfl⟩
              have hgtl : Hid (gt.length ≤ 300) := Lib.hid (by rw [← hgt.out, List.length_append]; have := HLN.out.1; have := coll_len S bl j; omega)
              rw [hbj.out] at cb
              rw [hs3.out] at cS
              rw [hgt.out] at hE
              have HJ := Lib.hid (And.intro hE hjt)
              obtain ⟨iI, hi0, hi1, hi2, hi3⟩ := info_parts infoIt
              clear hE hjt
              cases bj with
              | false =>
                clear cS
                go_wp2_with fail
                exact ⟨⟨j + 1, by omega, by go_num, by rw [coll_no (.inl hbj.out), hgt.out]; exact HJ.out.1⟩, by simp [intOf]; omega⟩
              | true =>
                by_cases h1 : s3 = 1
                · subst h1
                  go_upto_region 61 with ((with_reducible refine cS.mono ?_); clear cS; rintro e w6 ⟨rfl, hm6, ho6⟩)
                  have s6 := HJ.out.1.words hm6 ho6
                  obtain ⟨cw, bw⟩ := s6.wordC HE.out.2.ok HJ.out.2
                  obtain ⟨x, hx⟩ : ∃ x, Hid ((S.ob (j : Int)).word = x) := ⟨_, Lib.hid rfl⟩
                  rw [hx.out] at cw bw
                  have hgl6 : g < w6.heap.size := by obtain ⟨c2, h2⟩ := s6.mem.blkG; exact h2.lt
                  have hx0 : 0 ≤ x := bw.1
                  have hx1 : x ≤ 1099511627776 := bw.2
                  have hxw : IntKind.i64.wrap x = x := IntWalk.i64_in _ (by omega)
                  have hw1 : IntKind.i64.wrap (8 * (j : Int)) = 8 * (j : Int) := IntWalk.i64_in _ (by omega)
                  have hw2 : IntKind.i64.wrap (480 + 8 * (j : Int)) = 480 + 8 * (j : Int) := IntWalk.i64_in _ (by omega)
                  have hw3 : IntKind.i64.wrap (480 + 8 * (j : Int) + 3) = 480 + 8 * (j : Int) + 3 := IntWalk.i64_in _ (by omega)
                  have hi1' : (480 + 8 * (j : Int) + 3).toNat = 483 + 8 * j := by omega
                  have hi2' : 480 + 8 * (j : Int) + 3 < 738 := by omega
                  have hi3' : 0 ≤ 480 + 8 * (j : Int) + 3 := by omega
                  have hown := s6.og.alloc (.cells #[.int .i64 x] ItT)
                  have hz6 := s6.only.size
                  have H6 := Lib.hid s6
                  clear s6 bw hm6 ho6 cb hbl
                  go_wp2_with (at_builtin; refine wpList_append_lies _ (by rfl) _ _ 29 (by rfl) w.heap.size ItT iI (.int .i64 0) 1 8 Try.underlying29 hi0 hi1 hi2 hi3 rfl (by omega) _ gt.length _ (by rfl) hown ⟨w6.heap.size, 0, none⟩ 1 1 [.int .i64 x] (by rfl) (by rfl) (World.news_of_block (cs := #[.int .i64 x]) (t := ItT) (fr := (0, 0)) (heap_alloc_new w6 _)) (by simp [Value.oneCell']) (by omega) (by have := hgtl.out; unfold maxLen; omega) (by have := hgtl.out; omega) (by simp; omega) (w6.heap.size + 1) (by simp) ?_; intro g5 cap5 w7 hrow5 hgrow5 hat5 hlt5)
                  exact ⟨⟨j + 1, by omega, by go_num, by rw [coll_yes hbj.out hs3.out, ← List.append_assoc, hgt.out, hx.out]; exact H6.out.gotGrow hrow5 hgrow5 hat5⟩, by simp [intOf]; omega⟩
                · have h1' : (s3 == 1) = false := by simpa using h1
                  go_wp2_with fail
                  (with_reducible refine cS.mono ?_)
                  clear cS
                  rintro e w6 ⟨rfl, hm6, ho6⟩
                  have H6 := Lib.hid (HJ.out.1.words hm6 ho6)
                  clear hm6 ho6
                  go_wp2_with fail
                  exact ⟨⟨j + 1, by omega, by go_num, by rw [coll_no (.inr (by rw [hs3.out]; exact h1)), hgt.out]; exact H6.out⟩, by simp [intOf]; omega⟩
              --</E1>
            · skip
              --<E2>
              as_aux_lemma =>
              obtain rfl : k = j := by omega
              have hjl' : ¬ (k : Int) < (k : Int) := by omega
              obtain ⟨gt, hgt⟩ : ∃ gt, Hid (got ++ coll S bl k = gt) := ⟨_, Lib.hid rfl⟩
              have hall := HE.out.2.all
              have honce := HE.out.2.once
              have hgtl : Hid (gt.length ≤ 300) := Lib.hid (by rw [← hgt.out, List.length_append]; have := HLN.out.1; have := coll_len S bl k; omega)
              rw [hgt.out] at hE hall honce
              obtain ⟨A9, c9, rfl⟩ := own_slice hE.og
              obtain ⟨A8, c8, rfl⟩ := own_slice hE.os
              have HJ := Lib.hid (And.intro hE (And.intro hall (And.intro honce.1 honce.2)))
              clear hE hall honce hjl
              go_wp2_with fail
              obtain ⟨wo, rfl⟩ : ∃ x, x = wr := ⟨_, rfl⟩
              go_loopw [30, 31] (fun sv tv wr => ∃ j : Nat, j ≤ k ∧ tv = .int .i64 j ∧ sv = .int .i64 (sendN S j : Nat) ∧ EAt w wr g gb (.slice A9 gt.length c9) (.slice A8 sent.length c8) k S bl gt sent) (fun _ tv _ => k - (intOf tv).toNat)
              case atStart => exact ⟨0, by omega, rfl, rfl, HJ.out.1⟩
              case round =>
                obtain ⟨j, hj, rfl, rfl, hE⟩ := hrel
                have hsn := sendN_le S j
                by_cases hjl : j < k
                · skip
                  --<E3>
                  as_aux_lemma =>
                  have hjl' : (j : Int) < (k : Int) := by omega
                  have hjt := HE.out.2.thr j (by omega) (by omega)
                  have cS := estate_is hE.mem HE.out.2.ok hjt
                  have cS2 := Lib.hid fun (W : World) (hm : MemP g 738 UT W (wordsG S)) => estate_is hm HE.out.2.ok hjt
                  obtain ⟨s3, hs3⟩ : ∃ s3, Hid ((S.ob (j : Int)).state = s3) := ⟨_, Lib.hid rfl⟩
                  rw [hs3.out] at cS cS2
                  have hwc : IntKind.i64.wrap ((sendN S j : Int) + 1) = (sendN S j : Int) + 1 := IntWalk.i64_in _ (by omega)
                  have HQ := Lib.hid hE
                  clear hE hjt hsn
                  by_cases h2 : s3 = 2
                  · subst h2
                    have HST := Lib.hid (sendN_yes (S := S) (j := j) (.inl hs3.out))
                    go_wp2_with fail
                    (with_reducible refine cS.mono ?_)
                    clear cS
                    rintro e w6 ⟨rfl, hm6, ho6⟩
                    have H6 := Lib.hid (HQ.out.words hm6 ho6)
                    clear hm6 ho6
                    go_wp2_with fail
                    exact ⟨⟨j + 1, by omega, by go_num, by rw [HST.out]; go_num, H6.out⟩, by simp [intOf]; omega⟩
                  · have h2' : (s3 == 2) = false := by simpa using h2
                    go_wp2_with fail
                    (with_reducible refine cS.mono ?_)
                    clear cS
                    rintro e w6 ⟨rfl, hm6, ho6⟩
                    have cS3 := cS2.out w6 hm6
                    have H6 := Lib.hid (HQ.out.words hm6 ho6)
                    clear hm6 ho6
                    by_cases h6 : s3 = 6
                    · subst h6
                      have HST := Lib.hid (sendN_yes (S := S) (j := j) (.inr hs3.out))
                      go_wp2_with fail
                      (with_reducible refine cS3.mono ?_)
                      clear cS3
                      rintro e w7 ⟨rfl, hm7, ho7⟩
                      have H7 := Lib.hid (H6.out.words hm7 ho7)
                      clear hm7 ho7
                      go_wp2_with fail
                      exact ⟨⟨j + 1, by omega, by go_num, by rw [HST.out]; go_num, H7.out⟩, by simp [intOf]; omega⟩
                    · have h6' : (s3 == 6) = false := by simpa using h6
                      have HST := Lib.hid (sendN_no (S := S) (j := j) (by rw [hs3.out]; exact h2) (by rw [hs3.out]; exact h6))
                      go_wp2_with fail
                      (with_reducible refine cS3.mono ?_)
                      clear cS3
                      rintro e w7 ⟨rfl, hm7, ho7⟩
                      have H7 := Lib.hid (H6.out.words hm7 ho7)
                      clear hm7 ho7
                      go_wp2_with fail
                      exact ⟨⟨j + 1, by omega, by go_num, by rw [HST.out], H7.out⟩, by simp [intOf]; omega⟩
                  --</E3>
                · skip
                  --<E4>
                  obtain rfl : k = j := by omega
                  have hjl' : ¬ (k : Int) < (k : Int) := by omega
                  have hgtl' := hgtl.out
                  have hsum := HJ.out.2.1
                  have hwc : IntKind.i64.wrap ((gt.length : Int) + (sendN S k : Int)) = (sent.length : Int) := by rw [IntWalk.i64_in _ (by omega)]; omega
                  have hne : ((sent.length : Int) != (sent.length : Int)) = false := by simp
                  have HQ := Lib.hid hE
                  clear hE hsn hjl hsum
                  go_wp2_with fail
                  obtain ⟨wo, rfl⟩ : ∃ x, x = wr := ⟨_, rfl⟩
                  go_loopw [32] (fun iv wr => ∃ j : Nat, j ≤ gt.length ∧ iv = .int .i64 j ∧ EAt w wr g gb (.slice A9 gt.length c9) (.slice A8 sent.length c8) k S bl gt sent) (fun iv _ => gt.length - (intOf iv).toNat)
                  case atStart => exact ⟨0, by omega, rfl, HQ.out⟩
                  case round =>
                    obtain ⟨j, hj, rfl, hE⟩ := hrel
                    by_cases hjl : j < gt.length
                    · have hjl' : (j : Int) < (gt.length : Int) := by omega
                      have hj0 : (0 : Int) ≤ (j : Int) := by omega
                      obtain ⟨x, hx⟩ : ∃ x, gt[j]? = some x := ⟨_, List.getElem?_eq_getElem hjl⟩
                      have hxs := HJ.out.2.2.2 x (List.mem_of_getElem? hx)
                      have HX := Lib.hid (And.intro hx hxs)
                      have HE8 := Lib.hid hE
                      clear hE hx hxs
                      go_wp2_with fail
                      obtain ⟨wo, rfl⟩ : ∃ x, x = wr := ⟨_, rfl⟩
                      go_loopw [33, 34] (fun mv lv wr => ∃ l : Nat, l ≤ sent.length ∧ lv = .int .i64 l ∧ mv = .int .i64 ((sent.take l).count x : Nat) ∧ EAt w wr g gb (.slice A9 gt.length c9) (.slice A8 sent.length c8) k S bl gt sent) (fun _ lv _ => sent.length - (intOf lv).toNat)
                      case atStart => exact ⟨0, by omega, rfl, rfl, HE8.out⟩
                      case round =>
                        obtain ⟨l, hll, rfl, rfl, hE⟩ := hrel
                        have hct : (sent.take l).count x ≤ l := Nat.le_trans List.count_le_length (by rw [List.length_take]; omega)
                        by_cases hls : l < sent.length
                        · skip
                          --<E5>
                          as_aux_lemma =>
                          have hls' : (l : Int) < (sent.length : Int) := by omega
                          have hl0 : (0 : Int) ≤ (l : Int) := by omega
                          obtain ⟨y, hy⟩ : ∃ y, sent[l]? = some y := ⟨_, List.getElem?_eq_getElem hls⟩
                          obtain ⟨b9, rfl, hb9, k9⟩ := hE.gotC HX.out.1
                          obtain ⟨b8, rfl, hb8, k8⟩ := hE.sentC hy
                          have HC := Lib.hid (take_cnt (x := x) hy)
                          have hsl2 := HLN.out.2
                          have hwc2 : IntKind.i64.wrap (((sent.take l).count x : Nat) + 1 : Int) = ((sent.take l).count x : Nat) + 1 := IntWalk.i64_in _ (by omega)
                          have hwl : IntKind.i64.wrap ((l : Int) + 1) = (l : Int) + 1 := IntWalk.i64_in _ (by omega)
                          have HE9 := Lib.hid hE
                          clear hE hct hsl2 hy
                          by_cases hyx : y = x
                          · have q1 : (y == x) = true := by simp [hyx]
                            have HY := Lib.hid hyx
                            clear hyx
                            go_upto_region 77 with fail
                            go_quiet (fail)
                            go_wp2_with fail
                            exact ⟨⟨l + 1, by omega, by go_num, by rw [HC.out, if_pos HY.out]; go_num, HE9.out.only0 ((Only.refl [] wr).drewN nq)⟩, by simp [intOf]; omega⟩
                          · have q1 : (y == x) = false := by simp [hyx]
                            have HY := Lib.hid hyx
                            clear hyx
                            go_upto_region 77 with fail
                            go_quiet (fail)
                            go_wp2_with fail
                            exact ⟨⟨l + 1, by omega, by go_num, by rw [HC.out, if_neg HY.out]; go_num, HE9.out.only0 ((Only.refl [] wr).drewN nq)⟩, by simp [intOf]; omega⟩
                          --</E5>
                        · skip
                          --<E6>
                          as_aux_lemma =>
                          obtain rfl : l = sent.length := by omega
                          have hls' : ¬ (sent.length : Int) < (sent.length : Int) := by omega
                          have hone : (sent.take sent.length).count x = 1 := by rw [List.take_length]; exact once_cnt HE.out.2.nd HX.out.2
                          rw [hone]
                          have HE9 := Lib.hid hE
                          clear hE hct hone hls
                          go_wp2_with fail
                          obtain ⟨wo, rfl⟩ : ∃ x, x = wr := ⟨_, rfl⟩
                          go_loopw [35] (fun lv wr => ∃ l : Nat, l ≤ j ∧ lv = .int .i64 l ∧ EAt w wr g gb (.slice A9 gt.length c9) (.slice A8 sent.length c8) k S bl gt sent) (fun lv _ => j - (intOf lv).toNat)
                          case atStart => exact ⟨0, by omega, rfl, HE9.out⟩
                          case round =>
                            obtain ⟨l, hll, rfl, hE⟩ := hrel
                            by_cases hls : l < j
                            · have hls' : (l : Int) < (j : Int) := by omega
                              have hls2 : (l : Int) < (gt.length : Int) := by omega
                              have hl0 : (0 : Int) ≤ (l : Int) := by omega
                              obtain ⟨y, hy⟩ : ∃ y, gt[l]? = some y := ⟨_, List.getElem?_eq_getElem (by omega)⟩
                              have q1 : (y == x) = false := by simp; exact nodup_ne HJ.out.2.2.1 hy HX.out.1 hls
                              obtain ⟨b9, rfl, hb9, k9⟩ := hE.gotC HX.out.1
                              obtain ⟨b8, e8, hb8, k8⟩ := hE.gotC hy
                              injection e8 with e8
                              injection e8 with e8
                              subst e8
                              have HE10 := Lib.hid hE
                              clear hE hy
                              go_upto_region 82 with fail
                              go_quiet (fail)
                              go_wp2_with fail
                              exact ⟨⟨l + 1, by omega, by go_num, HE10.out.only0 ((Only.refl [] wr).drewN nq)⟩, by simp [intOf]; omega⟩
                            · obtain rfl : j = l := by omega
                              have hls' : ¬ (j : Int) < (j : Int) := by omega
                              have HE10 := Lib.hid hE
                              clear hE hls
                              go_wp2_with fail
                              exact ⟨⟨j + 1, by omega, by go_num, HE10.out⟩, by simp [intOf]; omega⟩
                          --</E6>
                    · obtain rfl : j = gt.length := by omega
                      have hjl' : ¬ (gt.length : Int) < (gt.length : Int) := by omega
                      have HE8 := Lib.hid hE.only
                      clear hE hjl
                      go_wp2_with fail
                      go_ret
                      exact ⟨rfl, HE8.out⟩
                  --</E4>
              --</E2>
          --</E>
end Go.Proofs.Ytgbcgcmcfklnjaa
