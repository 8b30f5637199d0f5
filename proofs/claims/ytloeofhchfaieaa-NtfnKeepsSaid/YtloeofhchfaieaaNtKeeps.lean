/- NtfnKeeps' walk: for all numbers of threads, all slices of deeds. -/
import Derived.Test.YtloeofhchfaieaaNtUp
import Derived.Test.YtloeofhchfaieaaJ16
import Derived.Test.YtloeofhchfaieaaEndAt
import Derived.Laws.BitsLemmas
import Derived.Deep.RegionHeld3
import Derived.Deep.CutBlock
import Derived.Deep.DeepCutAuto
namespace Go.Proofs.Ytloeofhchfaieaa
open Go.RowKit
/-- words of a state of one's own -/
structure SoloE (w0 w : World) (g : Nat) (S : RSt) : Prop where
  mem : MemP g 738 UT w (wordsG S)
  only : Only [] w0 w
  ng : w0.heap.size ≤ g
section
variable {w0 w w' : World} {g : Nat} {S S' : RSt}
theorem SoloE.only0 (h : SoloE w0 w g S) (ho : Only [] w w') : SoloE w0 w' g S := ⟨h.mem.only ho (by simp), h.only.trans ho, h.ng⟩
theorem SoloE.to (h : SoloE w0 w g S) (hm : MemP g 738 UT w' (wordsG S')) (ho : Only [g] w w') : SoloE w0 w' g S' :=
  ⟨hm, h.only.then ho (fun x hx => .inr (by have := h.ng; simp at hx; omega)), h.ng⟩
theorem SoloE.keep {t : TypeId} {k : Nat} {cs : Array Value} (h : SoloE w0 w g S) (ht : t ≠ UT) (hb : Blk w k t cs) (ho : Only [g] w w') : Blk w' k t cs := by
  obtain ⟨cur, hg⟩ := h.mem.blkG
  exact ho.blk hb (fun e => by simp at e; exact hb.ne_ hg ht e)
theorem SoloE.other (h : SoloE w0 w g S) {k : Nat} (ho : Only [k] w w') (hk : w0.heap.size ≤ k) (hg : k ≠ g) : SoloE w0 w' g S :=
  ⟨h.mem.only ho (by simp; exact fun e => hg e.symm), h.only.then ho (fun x hx => .inr (by simp at hx; omega)), h.ng⟩
theorem SoloE.boolsK (h : SoloE w0 w g S) {k n : Nat} {bl : Int → Bool} (hb : Bools w k n bl) (ho : Only [g] w w') : Bools w' k n bl := by
  obtain ⟨cur, hg⟩ := h.mem.blkG
  obtain ⟨c2, h2, h3⟩ := hb
  exact ⟨c2, ho.blk h2 (fun e => by simp at e; exact h2.ne_ hg (by decide) e), h3⟩
theorem SoloE.boolsNe (h : SoloE w0 w g S) {k n : Nat} {bl : Int → Bool} (hb : Bools w k n bl) : k ≠ g := by
  obtain ⟨cur, hg⟩ := h.mem.blkG
  obtain ⟨c2, h2, h3⟩ := hb
  exact h2.ne_ hg (by decide)
theorem SoloE.wordC (s : SoloE w0 w g S) (ok : Eok S) {a : Nat} (ht : S.Thr (a : Int)) : w.cell? ⟨g, 483 + 8 * a, none⟩ = some (.int .u64 (S.ob (a : Int)).word) ∧ b40 (S.ob (a : Int)).word := by
  have ha : a < 32 := by have := ht.1; omega
  have hc := s.mem.cell (m := 483 + 8 * a) (by omega)
  have hQ : ¬ (S.ob (a : Int)).isQ := fun e => isQ_no5 e ht.2
  have e := (Wok.of ok.sok ok.ei.qf).fld a 3 ha (by omega) (fun _ => by omega) (fun e => absurd e hQ)
  rw [(fldW_thr ht.2).2.1] at e
  rw [show ((483 + 8 * a : Nat) : Int) = ow a 3 by unfold ow; omega, e] at hc
  exact ⟨hc, (ok.sok.obs a ha).word⟩
end
theorem or_is {a b : Int} (ha : 0 ≤ a ∧ a < 65536) (hb : 0 ≤ b ∧ b < 65536) : bits .or .i64 a b = orI a b := by
  obtain ⟨x, rfl⟩ : ∃ x : Nat, a = x := ⟨a.toNat, by omega⟩
  obtain ⟨y, rfl⟩ : ∃ y : Nat, b = y := ⟨b.toNat, by omega⟩
  have h := (bits_nat .i64 16 (by decide) (fun n h0 h1 => IntWalk.i64_in _ (by have h9 : n < 65536 := (by simpa using h1); omega)) x y (by omega) (by omega)).2
  rw [h]
  unfold orI
  rw [Int.toNat_natCast, Int.toNat_natCast]
theorem make_boolsN (k : Nat) (h : k ≤ 7) (W : World) : (Instr.makeSlice 49 (.int .i64 (k : Int)) (.int .i64 (k : Int))).run Try.prog W = .ok (.slice (some ⟨W.heap.size, 0, none⟩) k k) (W.alloc (.cells (flat brow (List.replicate k false)) BlT)) := by
  have q := run_makeN (P := Try.prog) (t := 49) (f := brow) false infoBl Try.underlying49 (fun _ => rfl) (by omega) rfl .i64 .i64 (k : Int) (k : Int) (by omega) (Int.le_refl _) (by omega) (by omega) W
  rwa [Int.toNat_natCast] at q
/-- what a signal comes to: whom it was told (n: none) -/
theorem KP.way {n : Nat} {S : RSt} {i o b : Int} (h : KP n S i o) (hb : 0 ≤ b ∧ b < 65536) : ∃ t0 : Nat, t0 ≤ n ∧ KP n (sigS S ((n : Int) + 4) b) (orI i b) (if t0 < n then orI o b else o) ∧
    (∀ k : Nat, k < n → ((S.ob (k : Int)).state = 5 ∧ ((sigS S ((n : Int) + 4) b).ob (k : Int)).state = 1 ↔ k = t0)) ∧ (t0 < n → ((sigS S ((n : Int) + 4) b).ob (t0 : Int)).word = b) := by
  cases hq : (S.ob ((n : Int) + 4)).queue with
  | nil =>
    refine ⟨n, Nat.le_refl _, by rw [if_neg (by omega)]; exact h.sig hb hq, fun k hk => ⟨fun ⟨h5, _⟩ => ?_, fun e => by omega⟩, fun e => by omega⟩
    have ht := h.thr k (by omega) (by omega)
    have h1 := (h.ok.ei.cls _ ht).2 (by unfold blk; omega)
    have h2 := (h.ok.ei.on _ ht _ h1).1 rfl
    have h3 := h.oq _ (fun e => by rw [e] at h2; simp at h2)
    rw [h3, hq] at h2
    simp at h2
  | cons t l =>
    obtain ⟨q1, q2, q3, q4, q5⟩ := h.told hb hq
    have htn := h.thn t q2
    obtain ⟨a, rfl, ha⟩ := nat_of q2.1
    refine ⟨a, by omega, by rw [if_pos (by omega)]; exact q1, fun k hk => ?_, fun _ => q4⟩
    rw [q5]
    constructor
    · rintro ⟨h5, h1⟩
      by_cases e : (k : Int) = (a : Int)
      · omega
      · rw [if_neg e] at h1; omega
    · rintro rfl
      exact ⟨q3, if_pos rfl⟩
set_option maxRecDepth 100000 in
set_option maxHeartbeats 4000000 in
theorem nkeeps_any (z : Int) (A : Option Addr) (LL : List N3) (cp : Nat) (w : World) (hL : DeedsN3 w A LL) (hl : LL.length ≤ 9223372036854775807) :
    Calls Try.prog 4 #[.int .i64 z, .slice A LL.length cp] w fun e w' => e = .returned (.bool true) ∧ Only [] w w' := by
  have cU := nup_any w
  by_cases h1 : z < 1
  · skip
    --<X>
    go_enter Try.func4, Try.ntmps4
    go_wp2_with ((with_reducible refine cU.mono ?_); clear cU; rintro e w1 ⟨rfl, ho1⟩)
    go_ret
    exact ⟨rfl, ho1⟩
    --</X>
  by_cases h2 : 7 < z
  · skip
    --<X>
    go_enter Try.func4, Try.ntmps4
    go_wp2_with ((with_reducible refine cU.mono ?_); clear cU; rintro e w1 ⟨rfl, ho1⟩)
    go_ret
    exact ⟨rfl, ho1⟩
    --</X>
  by_cases h3 : 120 < LL.length
  · skip
    --<X>
    have h3' : (120 : Int) < (LL.length : Int) := by omega
    go_enter Try.func4, Try.ntmps4
    go_wp2_with ((with_reducible refine cU.mono ?_); clear cU; rintro e w1 ⟨rfl, ho1⟩)
    go_ret
    exact ⟨rfl, ho1⟩
    --</X>
  have h3' : ¬ (120 : Int) < (LL.length : Int) := by omega
  obtain ⟨n, rfl⟩ : ∃ n : Nat, z = n := ⟨z.toNat, by omega⟩
  have hn7 : n ≤ 7 := by omega
  have hn2 : 1 ≤ n := by omega
  have hr : ∀ W : World, _ := fun W => boot_any n hn7 W
  have HB := Lib.hid hr
  clear hr
  go_enter Try.func4, Try.ntmps4
  go_wp2_with fail
  (with_reducible refine cU.mono ?_)
  clear cU
  rintro e w1 ⟨rfl, ho1⟩
  go_wp2_with fail
  (with_reducible refine (HB.out _).mono ?_)
  rintro e w2 ⟨gs, go, rfl, hr2, -, -, ho2⟩
  obtain ⟨pB, hpB⟩ : ∃ pB, Hid (w1.heap.size = pB) := ⟨_, Lib.hid rfl⟩
  rw [hpB.out] at hr2 ⊢
  have cW := rwordsG_any hr2 (boot_eok hn7).sok.fitG
  go_wp2_with fail
  (with_reducible refine cW.mono ?_)
  clear cW HB
  rintro e w3 ⟨rfl, hm3, ho3⟩
  have ng := (ho1.trans ho2).size
  replace ho3 := (ho1.trans ho2).trans ho3
  obtain ⟨g, hg⟩ : ∃ g, Hid (w2.heap.size = g) := ⟨_, Lib.hid rfl⟩
  rw [hg.out] at hm3 ng ⊢
  clear hr2 ho1 ho2 hg hpB
  clear w1 w2
  have HE : Hid (SoloE w w3 g (bootS n)) := Lib.hid ⟨hm3, ho3, ng⟩
  clear hm3 ho3 ng
  go_wp2_with fail
  go_loopw [8, 9, 10] (fun iv ov jv wr => ∃ (m : Nat) (S : RSt) (i o : Int), m ≤ LL.length ∧ jv = .int .i64 m ∧ iv = .int .i64 i ∧ ov = .int .i64 o ∧ SoloE w wr g S ∧ KP n S i o) (fun _ _ jv _ => LL.length - (intOf jv).toNat)
  case atStart => exact ⟨0, _, 0, 0, by omega, rfl, rfl, rfl, HE.out, boot_kp hn7⟩
  case round =>
    clear HE
    clear w3
    obtain ⟨m, S, i, o, hm, rfl, rfl, rfl, hE, hO⟩ := hrel
    by_cases hml : m < LL.length
    · obtain ⟨d, hd⟩ : ∃ d, LL[m]? = some d := ⟨_, List.getElem?_eq_getElem hml⟩
      obtain ⟨b0, off, rfl, hb, hc⟩ := hL.at_ m d hd
      have hok := hL.ok m d hd
      have c0 : wr.cell? ⟨b0, off + m * 3, none⟩ = some (.int .i64 d.what) := (hE.only.cell (p := ⟨b0, off + m * 3, none⟩) hb (by simp)).trans (hc 0 _ rfl)
      have c1 : wr.cell? ⟨b0, off + m * 3 + 1, none⟩ = some (.int .i64 d.t) := (hE.only.cell (p := ⟨b0, off + m * 3 + 1, none⟩) hb (by simp)).trans (hc 1 _ rfl)
      have c2 : wr.cell? ⟨b0, off + m * 3 + 2, none⟩ = some (.int .i64 d.b) := (hE.only.cell (p := ⟨b0, off + m * 3 + 2, none⟩) hb (by simp)).trans (hc 2 _ rfl)
      have hbz := hE.only.size
      have hn := Blk.new wr N3T d.arr
      have hE1 := hE.only0 ((Only.refl [] wr).alloc (.cells d.arr N3T))
      have HH := Lib.hid (And.intro hE1 (And.intro hok hO))
      have HLT := Lib.hid hml
      have hlt' : (m : Int) < (LL.length : Int) := by omega
      obtain ⟨b, hbb⟩ : ∃ b, pickN d.b 65536 = b := ⟨_, rfl⟩
      obtain ⟨t, ht⟩ : ∃ t, pickN d.t n = t := ⟨_, rfl⟩
      obtain ⟨p, hp⟩ : ∃ p, pickN d.what 4 = p := ⟨_, rfl⟩
      have hbr := pickN_rng d.b (n := 65536) (by decide)
      have htr := pickN_rng d.t (n := (n : Int)) (by omega)
      have hpr := pickN_rng d.what (n := 4) (by decide)
      have cB := Lib.hid fun W => pickN_any d.b 65536 hok.b (by decide) (by decide) W
      have cT := Lib.hid fun W => pickN_any d.t n hok.t (by omega) (by omega) W
      have cP := Lib.hid fun W => pickN_any d.what 4 hok.what (by decide) (by decide) W
      rw [hbb] at cB hbr
      rw [ht] at cT htr
      rw [hp] at cP hpr
      obtain ⟨a, rfl⟩ : ∃ a : Nat, t = a := ⟨t.toNat, by omega⟩
      have hak : a < n := by omega
      clear hd hc hE hn hE1 hok hO hbb ht hp
      go_upto_if 64 with (first | ((with_reducible refine (cB.out _).mono ?_); rintro e w' ⟨rfl, hw⟩; replace hw := hw.symm; subst hw) | ((with_reducible refine (cT.out _).mono ?_); rintro e w' ⟨rfl, hw⟩; replace hw := hw.symm; subst hw) | ((with_reducible refine (cP.out _).mono ?_); rintro e w' ⟨rfl, hw⟩; replace hw := hw.symm; subst hw))
      clear cB cT cP c0 c1 c2 hb
      have hor := or_is (a := i) (b := b) HH.out.2.2.hi hbr
      obtain ⟨w4, hw4⟩ : ∃ w4, Hid (w4 = wr.alloc (.cells d.arr N3T)) := ⟨_, Lib.hid rfl⟩
      rw [← hw4.out] at HH ⊢
      clear hw4
      by_cases hp2 : p < 2
      · skip
        --<A>
        as_aux_lemma =>
        go_wp2_with fail
        rw [make_boolsN n hn7]
        obtain ⟨gw, hgw⟩ : ∃ gw, Hid (w4.heap.size = gw) := ⟨_, Lib.hid rfl⟩
        obtain ⟨w5, hw5⟩ : ∃ w5, Hid (w5 = w4.alloc (.cells (flat brow (List.replicate n false)) BlT)) := ⟨_, Lib.hid rfl⟩
        have hbb := bools_made w4 n
        have hoz := (Only.refl [] w4).alloc (.cells (flat brow (List.replicate n false)) BlT)
        have hnw := HH.out.1.only.size
        rw [← hw5.out] at hbb hoz ⊢
        rw [hgw.out] at hbb hnw ⊢
        have HX := Lib.hid (And.intro (HH.out.1.only0 hoz) (And.intro hbb hnw))
        have HK := Lib.hid (And.intro HH.out.2 hor)
        clear hbb hoz hnw hw5 hgw HH hor
        go_wp2_with fail
        go_loopw [16] (fun kv wr => ∃ (j : Nat) (bl : Int → Bool), j ≤ n ∧ kv = .int .i64 j ∧ SoloE w wr g S ∧ Bools wr gw n bl ∧ ∀ k : Nat, k < j → bl (k : Int) = decide ((S.ob (k : Int)).state = 5)) (fun kv _ => n - (intOf kv).toNat)
        case atStart => exact ⟨0, _, by omega, rfl, HX.out.1, HX.out.2.1, fun k hk => by omega⟩
        case round =>
          obtain ⟨j, bl, hj, rfl, hE, hB, hbl⟩ := hrel
          by_cases hjn : j < n
          · skip
            --<A1>
            as_aux_lemma =>
            have hjn' : (j : Int) < (n : Int) := by omega
            have hj0 : (0 : Int) ≤ (j : Int) := by omega
            have cS := estate_is hE.mem HK.out.1.2.ok (HK.out.1.2.thr j (by omega) (by omega))
            obtain ⟨s3, hs3⟩ : ∃ s3, Hid ((S.ob (j : Int)).state = s3) := ⟨_, Lib.hid rfl⟩
            rw [hs3.out] at cS
            have HE := Lib.hid (And.intro hE (And.intro hB hbl))
            clear hE hB hbl
            go_wp2_with fail
            (with_reducible refine cS.mono ?_)
            clear cS
            rintro e w6 ⟨rfl, hm6, ho6⟩
            have hE6 := HE.out.1.to hm6 ho6
            have hB6 := HE.out.1.boolsK HE.out.2.1 ho6
            have kc := hB6.cell hjn
            have kf := hB6.frozen j
            have kl := hB6.lt
            have hO7 : Only [gw] w6 (w6.setCell ⟨gw, j, none⟩ (.bool (s3 == 5))) := (Only.refl _ _).setCell (.inl (by simp)) _
            have H7 := Lib.hid (And.intro (hE6.other hO7 HX.out.2.2 (hE6.boolsNe hB6)) (hB6.set_ hjn (s3 == 5)))
            clear hm6 ho6 hE6 hB6 hO7
            go_wp2_with fail
            exact ⟨⟨j + 1, _, by omega, by go_num, H7.out.1, H7.out.2, fun k hk => by
              by_cases e : k = j
              · subst e
                rw [setF_self, hs3.out]
                by_cases e2 : s3 = 5 <;> simp [e2]
              · rw [setF_ne (by omega)]
                exact HE.out.2.2 k (by omega)⟩, by simp [intOf]; omega⟩
            --</A1>
          · skip
            --<A2>
            obtain rfl : n = j := by omega
            have hjn' : ¬ (n : Int) < (n : Int) := by omega
            have hor := HK.out.2
            have cQ := nsignal_is hE.mem HK.out.1.2.ok HK.out.1.2.nt HK.out.1.2.hw.2 hbr
            obtain ⟨t0, ht0, hkp, hway, hwb⟩ := HK.out.1.2.way hbr
            obtain ⟨S1, hS1⟩ : ∃ S1, sigS S ((n : Int) + 4) b = S1 := ⟨_, rfl⟩
            rw [hS1] at cQ hkp hway hwb
            have HE := Lib.hid (And.intro hE (And.intro hB hbl))
            have HP := Lib.hid (And.intro hkp (And.intro hway hwb))
            clear hE hB hbl hkp hway hwb hS1
            go_wp2_with fail
            (with_reducible refine cQ.mono ?_)
            clear cQ
            rintro e w6 ⟨rfl, hm6, ho6⟩
            have H6 := Lib.hid (And.intro (HE.out.1.to hm6 ho6) (HE.out.1.boolsK HE.out.2.1 ho6))
            clear hm6 ho6
            go_wp2_with fail
            go_loopw [9, 17] (fun ov kv wr => ∃ j : Nat, j ≤ n ∧ kv = .int .i64 j ∧ ov = .int .i64 (if t0 < j then orI o b else o) ∧ SoloE w wr g S1 ∧ Bools wr gw n bl) (fun _ kv _ => n - (intOf kv).toNat)
            case atStart => exact ⟨0, by omega, rfl, by rw [if_neg (by omega)], H6.out.1, H6.out.2⟩
            case round =>
              obtain ⟨j, hj, rfl, rfl, hE, hB⟩ := hrel
              by_cases hjn : j < n
              · skip
                --<A3>
                as_aux_lemma =>
                have hjn2 : (j : Int) < (n : Int) := by omega
                have hj0 : (0 : Int) ≤ (j : Int) := by omega
                have hth := HP.out.1.thr j (by omega) (by omega)
                have cS := estate_is hE.mem HP.out.1.ok hth
                have kc := hB.cell hjn
                have kl := hB.lt
                obtain ⟨s3, hs3⟩ : ∃ s3, Hid ((S1.ob (j : Int)).state = s3) := ⟨_, Lib.hid rfl⟩
                obtain ⟨bj, hbj⟩ : ∃ bj, Hid (bl (j : Int) = bj) := ⟨_, Lib.hid rfl⟩
                obtain ⟨oj, hoj⟩ : ∃ oj, Hid ((if t0 < j then orI o b else o) = oj) := ⟨_, Lib.hid rfl⟩
                rw [hs3.out] at cS
                rw [hbj.out] at kc
                rw [hoj.out]
                have HQ := Lib.hid (And.intro hE (And.intro hB hth))
                clear hE hB hth
                have hiff := HP.out.2.1 j hjn
                rw [hs3.out] at hiff
                have hb5 := HE.out.2.2 j hjn
                rw [hbj.out] at hb5
                by_cases hjt : j = t0
                · subst hjt
                  obtain ⟨h5, h1⟩ := hiff.2 rfl
                  subst h1
                  have : bj = true := by rw [hb5]; simp [h5]
                  subst this
                  have ho : oj = o := by rw [← hoj.out, if_neg (by omega)]
                  subst ho
                  clear hiff hb5 h5
                  have hor2 := or_is (a := oj) (b := b) HK.out.1.2.ho hbr
                  go_upto_region 28 with ((with_reducible refine cS.mono ?_); clear cS; rintro e w7 ⟨rfl, hm7, ho7⟩)
                  have hE7 := HQ.out.1.to hm7 ho7
                  have hB7 := HQ.out.1.boolsK HQ.out.2.1 ho7
                  obtain ⟨cw, -⟩ := hE7.wordC HP.out.1.ok HQ.out.2.2
                  rw [HP.out.2.2 hjn] at cw
                  have hgl6 : g < w7.heap.size := by obtain ⟨c2, h2⟩ := hE7.mem.blkG; exact h2.lt
                  have hxw : IntKind.i64.wrap b = b := IntWalk.i64_in _ (by omega)
                  have hw1 : IntKind.i64.wrap (8 * (j : Int)) = 8 * (j : Int) := IntWalk.i64_in _ (by omega)
                  have hw2 : IntKind.i64.wrap (480 + 8 * (j : Int)) = 480 + 8 * (j : Int) := IntWalk.i64_in _ (by omega)
                  have hw3 : IntKind.i64.wrap (480 + 8 * (j : Int) + 3) = 480 + 8 * (j : Int) + 3 := IntWalk.i64_in _ (by omega)
                  have hi1' : (480 + 8 * (j : Int) + 3).toNat = 483 + 8 * j := by omega
                  have hi2' : 480 + 8 * (j : Int) + 3 < 738 := by omega
                  have hi3' : 0 ≤ 480 + 8 * (j : Int) + 3 := by omega
                  have H7 := Lib.hid (And.intro hE7 hB7)
                  clear hE7 hB7 hm7 ho7 kc kl
                  go_wp2_with fail
                  exact ⟨⟨j + 1, by omega, by go_num, by rw [if_pos (by omega)], H7.out.1, H7.out.2⟩, by simp [intOf]; omega⟩
                · have hne : ¬ (bj = true ∧ s3 = 1) := fun z => hjt (hiff.1 ⟨by have := z.1; rw [hb5] at this; simpa using this, z.2⟩)
                  have ho' : (if t0 < j + 1 then orI o b else o) = oj := by
                    rw [← hoj.out]
                    by_cases e : t0 < j
                    · rw [if_pos e, if_pos (by omega)]
                    · rw [if_neg e, if_neg (by omega)]
                  have HO' := Lib.hid ho'
                  clear hiff hb5 ho'
                  cases bj with
                  | false =>
                    clear cS
                    go_wp2_with fail
                    exact ⟨⟨j + 1, by omega, by go_num, by rw [HO'.out], HQ.out.1, HQ.out.2.1⟩, by simp [intOf]; omega⟩
                  | true =>
                    have h1 : ¬ s3 = 1 := fun e => hne ⟨rfl, e⟩
                    have h1' : (s3 == 1) = false := by simpa using h1
                    clear hne
                    go_wp2_with fail
                    (with_reducible refine cS.mono ?_)
                    clear cS
                    rintro e w7 ⟨rfl, hm7, ho7⟩
                    have H7 := Lib.hid (And.intro (HQ.out.1.to hm7 ho7) (HQ.out.1.boolsK HQ.out.2.1 ho7))
                    clear hm7 ho7
                    go_wp2_with fail
                    exact ⟨⟨j + 1, by omega, by go_num, by rw [HO'.out], H7.out.1, H7.out.2⟩, by simp [intOf]; omega⟩
                --</A3>
              · skip
                --<A4>
                obtain rfl : n = j := by omega
                have hjn2 : ¬ (n : Int) < (n : Int) := by omega
                have HQ := Lib.hid hE
                clear hE hB hjn
                go_wp2_with fail
                exact ⟨⟨m + 1, S1, orI i b, _, by have := HLT.out; omega, by go_num, rfl, rfl, HQ.out, HP.out.1⟩, by have := HLT.out; simp [intOf]; omega⟩
                --</A4>
            --</A2>
        --</A>
      · by_cases hp3 : p = 2
        · skip
          --<B>
          as_aux_lemma =>
          subst hp3
          clear hor hpr hp2
          have hth := HH.out.2.2.thr a htr.1 htr.2
          have cS := estate_is HH.out.1.mem HH.out.2.2.ok hth
          have cS2 := Lib.hid fun (S' : RSt) (W : World) (hm : MemP g 738 UT W (wordsG S')) (h : Eok S') (ht : S'.Thr (a : Int)) => estate_is hm h ht
          obtain ⟨s3, hs3⟩ : ∃ s3, Hid ((S.ob (a : Int)).state = s3) := ⟨_, Lib.hid rfl⟩
          rw [hs3.out] at cS
          have HT := Lib.hid hth
          clear hth
          go_wp2_with fail
          (with_reducible refine cS.mono ?_)
          clear cS
          rintro e w6 ⟨rfl, hm6, ho6⟩
          have H6 := Lib.hid (HH.out.1.to hm6 ho6)
          clear hm6 ho6
          by_cases h1 : s3 = 1
          · subst h1
            by_cases hw0 : (S.ob ((n : Int) + 4)).word = 0
            · skip
              --<B1>
              have cW := nwait_blocks H6.out.mem HH.out.2.2.ok HH.out.2.2.nt HT.out hs3.out hw0
              have hK := HH.out.2.2.wait HT.out hs3.out hw0
              have hs5 : ((ntwS S ((n : Int) + 4) (a : Int)).ob (a : Int)).state = 5 := by
                unfold ntwS
                rw [if_pos hw0]
                simp only [blockS, onS_state, pushS_state]
                rw [if_pos trivial]
              have hkd : (ntwS S ((n : Int) + 4) (a : Int)).Thr (a : Int) := hK.thr a (by omega) (by omega)
              obtain ⟨S1, hS1⟩ : ∃ S1, ntwS S ((n : Int) + 4) (a : Int) = S1 := ⟨_, rfl⟩
              rw [hS1] at cW hK hs5 hkd
              have HP := Lib.hid (And.intro hK (And.intro hs5 hkd))
              have hor2 := or_is (a := o) (b := 0) HH.out.2.2.ho (by decide)
              rw [orI_zero HH.out.2.2.ho.1] at hor2
              clear hK hs5 hkd hS1 hw0
              go_wp2_with fail
              (with_reducible refine cW.mono ?_)
              clear cW
              rintro e w7 ⟨rfl, hm7, ho7⟩
              have oA := (Only.refl [] w7).alloc (.cells #[.int .i64 0, .int .i64 0, .int .i64 0] 38)
              have hE7 := (H6.out.to hm7 ho7).only0 oA
              have hbR := Blk.new w7 38 #[.int .i64 0, .int .i64 0, .int .i64 0]
              have cS3 := cS2.out S1 _ hE7.mem HP.out.1.ok HP.out.2.2
              rw [HP.out.2.1] at cS3
              have H7 := Lib.hid (And.intro hE7 hbR)
              clear hm7 ho7 oA hE7 hbR
              go_wp2_with fail
              (with_reducible refine cS3.mono ?_)
              clear cS3
              rintro e w8 ⟨rfl, hm8, ho8⟩
              have hE8 := H7.out.1.to hm8 ho8
              have hb8 := H7.out.1.keep (by decide) H7.out.2 ho8
              have k1 : w8.cell? ⟨w7.heap.size, 1, none⟩ = some (.int .i64 0) := hb8.cell 1
              have kl := hb8.lt
              have H8 := Lib.hid hE8
              clear hm8 ho8 hE8 hb8
              go_wp2_with fail
              exact ⟨⟨m + 1, S1, i, o, by have := HLT.out; omega, by go_num, rfl, rfl, H8.out, HP.out.1⟩, by have := HLT.out; simp [intOf]; omega⟩
              --</B1>
            · skip
              --<B2>
              have cW := nwait_told H6.out.mem HH.out.2.2.ok HH.out.2.2.nt HT.out hw0
              have hK := HH.out.2.2.poll
              have eS : ntwS S ((n : Int) + 4) (a : Int) = wordS S ((n : Int) + 4) 0 := by unfold ntwS; rw [if_neg hw0]
              have hs5 : ((wordS S ((n : Int) + 4) 0).ob (a : Int)).state = 1 := by rw [wordS_state]; exact hs3.out
              have hkd := hK.thr a (by omega) (by omega)
              rw [eS] at cW
              obtain ⟨S1, hS1⟩ : ∃ S1, wordS S ((n : Int) + 4) 0 = S1 := ⟨_, rfl⟩
              obtain ⟨x, hx⟩ : ∃ x, (S.ob ((n : Int) + 4)).word = x := ⟨_, rfl⟩
              have hor2 := or_is HH.out.2.2.ho HH.out.2.2.hw
              have hxr := HH.out.2.2.hw
              rw [hS1] at cW hK hs5 hkd
              rw [hx] at cW hK hor2 hxr hw0
              have HP := Lib.hid (And.intro hK (And.intro hs5 hkd))
              have hx0 : (x == 0) = false := by simpa using hw0
              clear hK hs5 hkd hS1 eS hx
              go_wp2_with fail
              (with_reducible refine cW.mono ?_)
              clear cW
              rintro e w7 ⟨rfl, hm7, ho7⟩
              have oA := (Only.refl [] w7).alloc (.cells #[.int .i64 0, .int .i64 x, .int .i64 0] 38)
              have hE7 := (H6.out.to hm7 ho7).only0 oA
              have hbR := Blk.new w7 38 #[.int .i64 0, .int .i64 x, .int .i64 0]
              have cS3 := cS2.out S1 _ hE7.mem HP.out.1.ok HP.out.2.2
              rw [HP.out.2.1] at cS3
              have H7 := Lib.hid (And.intro hE7 hbR)
              clear hm7 ho7 oA hE7 hbR
              go_wp2_with fail
              (with_reducible refine cS3.mono ?_)
              clear cS3
              rintro e w8 ⟨rfl, hm8, ho8⟩
              have hE8 := H7.out.1.to hm8 ho8
              have hb8 := H7.out.1.keep (by decide) H7.out.2 ho8
              have k1 : w8.cell? ⟨w7.heap.size, 1, none⟩ = some (.int .i64 x) := hb8.cell 1
              have kl := hb8.lt
              have H8 := Lib.hid hE8
              clear hm8 ho8 hE8 hb8
              go_wp2_with fail
              exact ⟨⟨m + 1, S1, i, orI o x, by have := HLT.out; omega, by go_num, rfl, rfl, H8.out, HP.out.1⟩, by have := HLT.out; simp [intOf]; omega⟩
              --</B2>
          · skip
            --<B3>
            have h1' : (s3 == 1) = false := by simpa using h1
            go_wp2_with fail
            exact ⟨⟨m + 1, S, i, o, by have := HLT.out; omega, by go_num, rfl, rfl, H6.out, HH.out.2.2⟩, by have := HLT.out; simp [intOf]; omega⟩
            --</B3>
          --</B>
        · skip
          --<C>
          as_aux_lemma =>
          obtain rfl : p = 3 := by omega
          clear hor hpr hp2 hp3
          have cW := npoll_is HH.out.1.mem HH.out.2.2.ok HH.out.2.2.nt
          have hK := HH.out.2.2.poll
          obtain ⟨S1, hS1⟩ : ∃ S1, wordS S ((n : Int) + 4) 0 = S1 := ⟨_, rfl⟩
          obtain ⟨x, hx⟩ : ∃ x, (S.ob ((n : Int) + 4)).word = x := ⟨_, rfl⟩
          have hor2 := or_is HH.out.2.2.ho HH.out.2.2.hw
          have hxr := HH.out.2.2.hw
          rw [hS1] at cW hK
          rw [hx] at cW hK hor2 hxr
          have HP := Lib.hid hK
          clear hK hS1 hx
          go_wp2_with fail
          (with_reducible refine cW.mono ?_)
          clear cW
          rintro e w7 ⟨rfl, hm7, ho7⟩
          have oA := (Only.refl [] w7).alloc (.cells #[.int .i64 0, .int .i64 x, .int .i64 0] 38)
          have H7 := Lib.hid ((HH.out.1.to hm7 ho7).only0 oA)
          clear hm7 ho7 oA
          go_wp2_with fail
          exact ⟨⟨m + 1, S1, i, orI o x, by have := HLT.out; omega, by go_num, rfl, rfl, H7.out, HP.out⟩, by have := HLT.out; simp [intOf]; omega⟩
          --</C>
    · skip
      --<D>
      as_aux_lemma =>
      obtain rfl : m = LL.length := by omega
      have hlt' : ¬ (LL.length : Int) < (LL.length : Int) := by omega
      have cW := npoll_is hE.mem hO.ok hO.nt
      have hor2 := or_is hO.ho hO.hw
      have heq := hO.eq
      obtain ⟨x, hx⟩ : ∃ x, (S.ob ((n : Int) + 4)).word = x := ⟨_, rfl⟩
      rw [hx] at cW hor2 heq
      subst heq
      have HE := Lib.hid hE
      have hqq : ((orI o x) == (orI o x)) = true := by simp
      clear hE hO hml hm hx
      go_wp2_with fail
      (with_reducible refine cW.mono ?_)
      clear cW
      rintro e w7 ⟨rfl, hm7, ho7⟩
      have oA := (Only.refl [] w7).alloc (.cells #[.int .i64 0, .int .i64 x, .int .i64 0] 38)
      have H7 := Lib.hid ((HE.out.to hm7 ho7).only0 oA)
      clear hm7 ho7 oA
      go_wp2_with fail
      go_ret
      exact ⟨rfl, H7.out.only⟩
      --</D>
end Go.Proofs.Ytloeofhchfaieaa
