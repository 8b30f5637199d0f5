/- SpaceOnce's walk: for all slices of deeds, any frame. -/
import Derived.Test.YtihipcbhfjpgbaaSpPlays
import Derived.Test.YtihipcbhfjpgbaaJ10
namespace Go.Proofs.Ytihipcbhfjpgbaa
open Go.RowKit
/-- is a frame mapped at one of the first N pages -/
def cntS (S : RSt) (f N : Int) : Int := if 0 ≤ (S.ob f).inn ∧ ((S.ob f).inn - 4) * 4 + (S.ob f).page < N then 1 else 0
section
variable {w wr w' : World} {g : Nat} {S S' : RSt} {f b p x N : Int}
theorem cntS_le : 0 ≤ cntS S f N ∧ cntS S f N ≤ 1 := by unfold cntS; split <;> omega
theorem SP.cnt0 (h : SP S) (hf : 0 ≤ f ∧ f < 4) : cntS S f 0 = 0 := by
  unfold cntS
  rcases h.fr f hf with q | ⟨q1, q2, -⟩
  · rw [if_neg (by omega)]
  · rw [if_neg (by omega)]
theorem SP.cnt_miss (h : SP S) (hb : 4 ≤ b ∧ b < 6) (hp : 0 ≤ p ∧ p < 4) (hx : ¬ 0 ≤ (S.ob b).at p) (hf : 0 ≤ f ∧ f < 4) (hN : N = (b - 4) * 4 + p) : cntS S f (N + 1) = cntS S f N := by
  unfold cntS
  rcases h.fr f hf with q | ⟨q1, q2, q3⟩
  · rw [if_neg (by omega), if_neg (by omega)]
  · have hne : ¬ ((S.ob f).inn = b ∧ (S.ob f).page = p) := fun z => by rw [z.1, z.2] at q3; omega
    by_cases e : ((S.ob f).inn - 4) * 4 + (S.ob f).page < N
    · rw [if_pos ⟨by omega, by omega⟩, if_pos ⟨by omega, e⟩]
    · rw [if_neg (by omega), if_neg (by omega)]
theorem SP.cnt_hit (h : SP S) (hb : 4 ≤ b ∧ b < 6) (hp : 0 ≤ p ∧ p < 4) (hx : (S.ob b).at p = x) (h0 : 0 ≤ x) (hN : N = (b - 4) * 4 + p) :
    x < 4 ∧ cntS S x N = 0 ∧ cntS S x (N + 1) = 1 ∧ ∀ f, 0 ≤ f ∧ f < 4 → f ≠ x → cntS S f (N + 1) = cntS S f N := by
  obtain ⟨z1, z2, -⟩ := (h.sp b p hb hp).resolve_left (fun z => by omega)
  rw [hx] at z1 z2
  refine ⟨z1.2, by unfold cntS; rw [z2.1, z2.2, if_neg (by omega)], by unfold cntS; rw [z2.1, z2.2, if_pos (by omega)], fun f hf hne => ?_⟩
  unfold cntS
  rcases h.fr f hf with q | ⟨q1, q2, q3⟩
  · rw [if_neg (by omega), if_neg (by omega)]
  · have hne : ¬ ((S.ob f).inn = b ∧ (S.ob f).page = p) := fun z => by rw [z.1, z.2, hx] at q3; exact hne q3.symm
    by_cases e : ((S.ob f).inn - 4) * 4 + (S.ob f).page < N
    · rw [if_pos ⟨by omega, by omega⟩, if_pos ⟨by omega, e⟩]
    · rw [if_neg (by omega), if_neg (by omega)]
/-- words that a law has made, of frames in spaces -/
structure SWd (w wr : World) (g : Nat) (S : RSt) : Prop where
  mem : MemP g 738 UT wr (wordsG S)
  sp : SP S
  only : Only [] w wr
  ng : w.heap.size ≤ g
theorem SWd.only0 (h : SWd w wr g S) (ho : Only [] wr w') : SWd w w' g S := ⟨h.mem.only ho (by simp), h.sp, h.only.trans ho, h.ng⟩
theorem SWd.only0' (h : SWd w wr g S) {k : Nat} (hk : w.heap.size ≤ k) (i : Nat) (v : Value) (hg : k ≠ g) : SWd w (wr.setCell ⟨k, i, none⟩ v) g S :=
  ⟨h.mem.only (((Only.refl [k] wr).setCell (.inl (by simp)) v) : Only [k] wr _) (by simp; exact Ne.symm hg), h.sp, h.only.setCell (.inr hk) v, h.ng⟩
theorem SWd.step (h : SWd w wr g S) (hm : MemP g 738 UT w' (wordsG S')) (ho : Only [g] wr w') (k : SP S') : SWd w w' g S' :=
  ⟨hm, k, h.only.then ho (fun y hy => .inr (by have := h.ng; simp at hy; omega)), h.ng⟩
theorem SWd.keep {t : TypeId} {k : Nat} {cs : Array Value} (h : SWd w wr g S) (ht : t ≠ UT) (hb : Blk wr k t cs) (ho : Only [g] wr w') : Blk w' k t cs := by
  obtain ⟨cur, hg⟩ := h.mem.blkG
  exact ho.blk hb (fun e => by simp at e; exact hb.ne_ hg ht e)
abbrev cArr (S : RSt) (N : Int) : Array Value := #[.int .i64 (cntS S 0 N), .int .i64 (cntS S 1 N), .int .i64 (cntS S 2 N), .int .i64 (cntS S 3 N)]
theorem c_all {k : Nat} (h : Blk w k ItT (cArr S N)) : w.cell? ⟨k, 0, none⟩ = some (.int .i64 (cntS S 0 N)) ∧ w.cell? ⟨k, 1, none⟩ = some (.int .i64 (cntS S 1 N)) ∧ w.cell? ⟨k, 2, none⟩ = some (.int .i64 (cntS S 2 N)) ∧ w.cell? ⟨k, 3, none⟩ = some (.int .i64 (cntS S 3 N)) := ⟨h.cell 0, h.cell 1, h.cell 2, h.cell 3⟩
theorem unm_out (h : SP S) (hf : 0 ≤ f ∧ f < 4) (hb : 4 ≤ b ∧ b < 6) (hp : 0 ≤ p ∧ p < 4) : ((unmS S f).ob b).at p ≠ f := by
  have k := h.unm (f := f)
  intro e
  rcases k.sp b p hb hp with z | ⟨-, z2, -⟩
  · omega
  · rw [e] at z2
    have hi : ((unmS S f).ob f).inn = -1 := by
      unfold unmS
      by_cases h0 : unmN S f = 0
      · rw [if_pos h0, innS_inn, if_pos rfl]
      · rw [if_neg h0]
        unfold unmN at h0
        rw [h.isF, decide_eq_true hf, if_pos rfl] at h0
        by_cases h1 : (S.ob f).inn < 0
        · rcases h.fr f hf with z | z
          · exact z.1
          · omega
        · rw [if_neg h1] at h0; exact absurd rfl h0
    omega
theorem unm_twice (h : SP S) (hf : 0 ≤ f ∧ f < 4) : unmN (unmS S f) f = 10 := by
  have k := h.unm (f := f)
  have hi : ((unmS S f).ob f).inn < 0 := by
    rcases k.fr f hf with z | ⟨z1, z2, z3⟩
    · omega
    · exact absurd z3 (unm_out h hf z1 z2)
  unfold unmN
  rw [k.isF, decide_eq_true hf, if_pos rfl, if_pos hi]
end
theorem made4 (W : World) : (Instr.makeSlice 41 (.int .i64 4) (.int .i64 4)).run Try.prog W = .ok (.slice (some ⟨W.heap.size, 0, none⟩) 4 4) (W.alloc (.cells #[.int .i64 0, .int .i64 0, .int .i64 0, .int .i64 0] ItT)) :=
  run_makeN (P := Try.prog) (t := 41) (f := irow') 0 infoIt Try.underlying41 (fun _ => rfl) (by omega) rfl .i64 .i64 4 4 (by omega) (by omega) (by omega) (by omega) W
set_option maxRecDepth 100000 in
set_option maxHeartbeats 8000000 in
theorem sonce_any (A : Option Addr) (LL : List S5) (cp : Nat) (fr : Int) (hfr : -9223372036854775808 ≤ fr ∧ fr ≤ 9223372036854775807) (w : World) (hL : DeedsS5 w A LL) (hl : LL.length ≤ 9223372036854775807) :
    Calls Try.prog 4 #[.slice A LL.length cp, .int .i64 fr] w fun e w' => e = .returned (.bool true) ∧ Only [] w w' := by
  have cU := sup_any w
  by_cases h3 : 120 < LL.length
  · skip
    --<X>
    have h3' : (120 : Int) < (LL.length : Int) := by omega
    go_enter Try.func4, Try.ntmps4
    go_wp2_with ((with_reducible refine cU.mono ?_); clear cU; rintro e w1 ⟨rfl, ho1⟩)
    go_ret
    exact ⟨rfl, ho1⟩
    --</X>
  have h3' : ¬ (120 : Int) < (LL.length : Int) := by omega
  have HB := Lib.hid fun W : World => begun_any W
  go_enter Try.func4, Try.ntmps4
  go_wp2_with fail
  (with_reducible refine cU.mono ?_)
  clear cU
  rintro e w1 ⟨rfl, ho1⟩
  go_wp2_with fail
  (with_reducible refine (HB.out _).mono ?_)
  rintro e w2 ⟨gs, go, rfl, hr2, -, -, ho2⟩
  obtain ⟨pB, hpB⟩ : ∃ pB, Hid (w1.heap.size = pB) := ⟨_, Lib.hid rfl⟩
  rw [hpB.out] at hr2 ⊢
  have cW := rwordsG_any hr2 begS_sp.sok.fitG
  go_wp2_with fail
  (with_reducible refine cW.mono ?_)
  clear cW HB
  rintro e w3 ⟨rfl, hm3, ho3⟩
  have ng := (ho1.trans ho2).size
  replace ho3 := (ho1.trans ho2).trans ho3
  obtain ⟨g, hg⟩ : ∃ g, Hid (w2.heap.size = g) := ⟨_, Lib.hid rfl⟩
  rw [hg.out] at hm3 ng ⊢
  have HE : Hid (SWd w w3 g (begS 6)) := Lib.hid ⟨hm3, begS_sp, ho3, ng⟩
  clear hr2 ho1 ho2 hg hpB hm3 ho3 ng
  clear w1 w2
  go_wp2_with fail
  go_loopw [7] (fun jv wr => ∃ (m : Nat) (S : RSt), m ≤ LL.length ∧ jv = .int .i64 m ∧ SWd w wr g S) (fun jv _ => LL.length - (intOf jv).toNat)
  case atStart => exact ⟨0, _, by omega, rfl, HE.out⟩
  case round =>
    clear HE
    clear w3
    obtain ⟨m, S, hm, rfl, hE⟩ := hrel
    by_cases hml : m < LL.length
    · obtain ⟨d, hd⟩ : ∃ d, LL[m]? = some d := ⟨_, List.getElem?_eq_getElem hml⟩
      obtain ⟨b0, off, rfl, hb, hc⟩ := hL.at_ m d hd
      have c0 : wr.cell? ⟨b0, off + m * 5, none⟩ = some (.bool d.un) := (hE.only.cell (p := ⟨b0, off + m * 5, none⟩) hb (by simp)).trans (hc 0 _ rfl)
      have c1 : wr.cell? ⟨b0, off + m * 5 + 1, none⟩ = some (.int .i64 d.a) := (hE.only.cell (p := ⟨b0, off + m * 5 + 1, none⟩) hb (by simp)).trans (hc 1 _ rfl)
      have c2 : wr.cell? ⟨b0, off + m * 5 + 2, none⟩ = some (.int .i64 d.b) := (hE.only.cell (p := ⟨b0, off + m * 5 + 2, none⟩) hb (by simp)).trans (hc 2 _ rfl)
      have c3 : wr.cell? ⟨b0, off + m * 5 + 3, none⟩ = some (.int .i64 d.page) := (hE.only.cell (p := ⟨b0, off + m * 5 + 3, none⟩) hb (by simp)).trans (hc 3 _ rfl)
      have c4 : wr.cell? ⟨b0, off + m * 5 + 4, none⟩ = some (.int .i64 d.rights) := (hE.only.cell (p := ⟨b0, off + m * 5 + 4, none⟩) hb (by simp)).trans (hc 4 _ rfl)
      have hbz := hE.only.size
      have hn := Blk.new wr S5T d.arr
      have hE1 := hE.only0 ((Only.refl [] wr).alloc (.cells d.arr S5T))
      have HH := Lib.hid (And.intro hE1 hn)
      have HLT := Lib.hid hml
      have hlt' : (m : Int) < (LL.length : Int) := by omega
      clear hd hc hE hn hE1
      go_upto_region 9 with fail
      clear c0 c1 c2 c3 c4 hb hbz
      obtain ⟨n0, hn0⟩ : ∃ n0, Hid (n0 = wr.heap.size) := ⟨_, Lib.hid rfl⟩
      obtain ⟨w4, hw4⟩ : ∃ w4, Hid (w4 = wr.alloc (.cells d.arr S5T)) := ⟨_, Lib.hid rfl⟩
      rw [← hw4.out, ← hn0.out] at HH
      rw [← hw4.out, ← hn0.out]
      clear hw4 hn0
      clear wr
      obtain ⟨e0, e1, e2, e3, e4⟩ := S5.all HH.out.2
      have hnl := HH.out.2.lt
      obtain ⟨un, hun⟩ : ∃ u, d.un = u := ⟨_, rfl⟩
      rw [hun] at e0
      clear hun
      go_upto_if 40 with fail
      go_cut [] (fun W => ∃ S1, SWd w W g S1)
      case first =>
        cases un with
        | true =>
          have cE := sunm_is HH.out.1.mem HH.out.1.sp d.a
          go_wp2_with ((with_reducible refine cE.mono ?_); clear cE; rintro e w5 ⟨rfl, hm5, ho5⟩)
          go_meet
          exact ⟨_, HH.out.1.step hm5 ho5 (HH.out.1.sp.unm (f := d.a))⟩
        | false =>
          have cE := smap_is HH.out.1.mem HH.out.1.sp d.a d.b d.page d.rights
          go_wp2_with ((with_reducible refine cE.mono ?_); clear cE; rintro e w5 ⟨rfl, hm5, ho5⟩)
          go_meet
          exact ⟨_, HH.out.1.step hm5 ho5 (HH.out.1.sp.map (f := d.a) (s := d.b) (p := d.page) (r := d.rights))⟩
      case rest =>
        obtain ⟨S1, hE⟩ := hcut
        have HE := Lib.hid hE
        clear hE HH e0 e1 e2 e3 e4 hnl
        go_wp2
        rw [made4]
        have hB := Blk.new wc ItT #[.int .i64 0, .int .i64 0, .int .i64 0, .int .i64 0]
        have hE1 := HE.out.only0 ((Only.refl [] wc).alloc (.cells #[.int .i64 0, .int .i64 0, .int .i64 0, .int .i64 0] ItT))
        go_wp2_with fail
        obtain ⟨nB, hnB⟩ : ∃ x, Hid (x = wc.heap.size) := ⟨_, Lib.hid rfl⟩
        obtain ⟨w5, hw5⟩ : ∃ x, Hid (x = wc.alloc (.cells #[.int .i64 0, .int .i64 0, .int .i64 0, .int .i64 0] ItT)) := ⟨_, Lib.hid rfl⟩
        have hnw : w.heap.size ≤ nB := by rw [hnB.out]; exact HE.out.only.size
        rw [← hw5.out, ← hnB.out] at hB
        rw [← hw5.out] at hE1
        rw [← hw5.out, ← hnB.out]
        have hB0 : Blk w5 nB ItT (cArr S1 0) := by
          have e : cArr S1 0 = #[.int .i64 0, .int .i64 0, .int .i64 0, .int .i64 0] := by
            show (#[.int .i64 (cntS S1 0 0), .int .i64 (cntS S1 1 0), .int .i64 (cntS S1 2 0), .int .i64 (cntS S1 3 0)] : Array Value) = _
            rw [HE.out.sp.cnt0 (f := 0) (by decide), HE.out.sp.cnt0 (f := 1) (by decide), HE.out.sp.cnt0 (f := 2) (by decide), HE.out.sp.cnt0 (f := 3) (by decide)]
          rw [e]
          exact hB
        have HI := Lib.hid (And.intro hE1 (And.intro hB0 hnw))
        clear hB hE1 hB0 hnw hw5 hnB HE
        clear wc
        go_loopw [10] (fun bv wr => ∃ i : Nat, i ≤ 2 ∧ bv = .int .i64 (4 + i) ∧ SWd w wr g S1 ∧ Blk wr nB ItT (cArr S1 (4 * (i : Int))) ∧ w.heap.size ≤ nB) (fun bv _ => 6 - (intOf bv).toNat)
        case atStart => exact ⟨0, by omega, rfl, HI.out.1, HI.out.2.1, HI.out.2.2⟩
        case round =>
          clear HI
          clear w5
          obtain ⟨i, hi, rfl, hE, hB, hnw⟩ := hrel
          by_cases hil : i < 2
          · have hil' : (4 : Int) + (i : Int) < 6 := by omega
            have HI := Lib.hid (And.intro hE (And.intro hB hnw))
            clear hE hB hnw
            go_wp2_with fail
            obtain ⟨wo, rfl⟩ : ∃ wo, wo = wr := ⟨_, rfl⟩
            go_loopw [11] (fun pv wr => ∃ p : Nat, p ≤ 4 ∧ pv = .int .i64 p ∧ SWd w wr g S1 ∧ Blk wr nB ItT (cArr S1 (4 * (i : Int) + p)) ∧ w.heap.size ≤ nB) (fun pv _ => 4 - (intOf pv).toNat)
            case atStart => exact ⟨0, by omega, rfl, HI.out.1, by rw [show (4 * (i : Int) + ((0 : Nat) : Int)) = 4 * (i : Int) by omega]; exact HI.out.2.1, HI.out.2.2⟩
            case round =>
              clear HI
              obtain ⟨p, hp, rfl, hE, hB, hnw⟩ := hrel
              by_cases hpl : p < 4
              · have hpl' : (p : Int) < 4 := by omega
                obtain ⟨b, hb⟩ : ∃ b, (4 : Int) + (i : Int) = b := ⟨_, rfl⟩
                obtain ⟨N, hN⟩ : ∃ N, 4 * (i : Int) + (p : Int) = N := ⟨_, rfl⟩
                rw [hN] at hB
                have hbr : 4 ≤ b ∧ b < 6 := by omega
                have hpr : (0 : Int) ≤ (p : Int) ∧ (p : Int) < 4 := by omega
                have hN2 : N = (b - 4) * 4 + (p : Int) := by omega
                have hI : isO S1 b 7 = true := by rw [hE.sp.isS]; exact decide_eq_true hbr
                rw [hb]
                by_cases h0 : 0 ≤ (S1.ob b).at p
                · obtain ⟨x, hx⟩ : ∃ x, (S1.ob b).at p = x := ⟨_, rfl⟩
                  obtain ⟨r, hr⟩ : ∃ r, (S1.ob b).with p = r := ⟨_, rfl⟩
                  have hA : pageA S1 b p = (x, r, true) := by unfold pageA; rw [if_pos ⟨hI, hpr, h0⟩, hx, hr]
                  have cG := spage_is hE.mem hE.sp hA
                  obtain ⟨y1, y2, y3, y4⟩ := hE.sp.cnt_hit hbr hpr hx (hx ▸ h0) hN2
                  rw [hx] at h0
                  have HE := Lib.hid (And.intro hE (And.intro hB hnw))
                  clear hE hB hnw hA hI hx hr
                  go_wp2_with fail
                  (with_reducible refine cG.mono ?_)
                  clear cG
                  rintro e w8 ⟨rfl, hm8, ho8⟩
                  have HB8 := Lib.hid (HE.out.1.keep (by decide) HE.out.2.1 ho8)
                  have hgn : nB ≠ g := by
                    obtain ⟨cur, hg⟩ := HE.out.1.mem.blkG
                    exact Blk.ne_ HE.out.2.1 hg (by decide)
                  have HE8 := Lib.hid (And.intro (HE.out.1.step hm8 ho8 HE.out.1.sp) (And.intro HE.out.2.2 hgn))
                  clear hm8 ho8 HE hgn
                  --<H>
                  obtain rfl | rfl | rfl | rfl : x = 0 ∨ x = 1 ∨ x = 2 ∨ x = 3 := by omega
                  · have hBn : Blk (w8.setCell ⟨nB, 0, none⟩ (.int .i64 1)) nB ItT (cArr S1 (N + 1)) := by
                      have q := HB8.out.set_ 0 (.int .i64 1)
                      have e : (cArr S1 N).setIfInBounds 0 (.int .i64 1) = cArr S1 (N + 1) := by
                        show _ = (#[.int .i64 (cntS S1 0 (N + 1)), .int .i64 (cntS S1 1 (N + 1)), .int .i64 (cntS S1 2 (N + 1)), .int .i64 (cntS S1 3 (N + 1))] : Array Value)
                        rw [y3, y4 1 (by decide) (by decide), y4 2 (by decide) (by decide), y4 3 (by decide) (by decide)]
                        rfl
                      rw [e] at q
                      exact q
                    have hEn := HE8.out.1.only0' (k := nB) HE8.out.2.1 0 (.int .i64 1) HE8.out.2.2
                    obtain ⟨z0, z1, z2, z3⟩ := c_all HB8.out
                    rw [y2] at z0
                    have hf0 := HB8.out.frozen 0
                    have hbl := HB8.out.lt
                    have HZ := Lib.hid (And.intro hEn hBn)
                    clear hEn hBn
                    go_wp2_with fail
                    go_roundw
                    case rel => exact ⟨p + 1, by omega, by go_num, HZ.out.1, by rw [show (4 * (i : Int) + ((p + 1 : Nat) : Int)) = N + 1 by omega]; exact HZ.out.2, HE8.out.2.1⟩
                    case measure => simp [intOf]; omega
                  · have hBn : Blk (w8.setCell ⟨nB, 1, none⟩ (.int .i64 1)) nB ItT (cArr S1 (N + 1)) := by
                      have q := HB8.out.set_ 1 (.int .i64 1)
                      have e : (cArr S1 N).setIfInBounds 1 (.int .i64 1) = cArr S1 (N + 1) := by
                        show _ = (#[.int .i64 (cntS S1 0 (N + 1)), .int .i64 (cntS S1 1 (N + 1)), .int .i64 (cntS S1 2 (N + 1)), .int .i64 (cntS S1 3 (N + 1))] : Array Value)
                        rw [y4 0 (by decide) (by decide), y3, y4 2 (by decide) (by decide), y4 3 (by decide) (by decide)]
                        rfl
                      rw [e] at q
                      exact q
                    have hEn := HE8.out.1.only0' (k := nB) HE8.out.2.1 1 (.int .i64 1) HE8.out.2.2
                    obtain ⟨z0, z1, z2, z3⟩ := c_all HB8.out
                    rw [y2] at z1
                    have hf0 := HB8.out.frozen 1
                    have hbl := HB8.out.lt
                    have HZ := Lib.hid (And.intro hEn hBn)
                    clear hEn hBn
                    go_wp2_with fail
                    go_roundw
                    case rel => exact ⟨p + 1, by omega, by go_num, HZ.out.1, by rw [show (4 * (i : Int) + ((p + 1 : Nat) : Int)) = N + 1 by omega]; exact HZ.out.2, HE8.out.2.1⟩
                    case measure => simp [intOf]; omega
                  · have hBn : Blk (w8.setCell ⟨nB, 2, none⟩ (.int .i64 1)) nB ItT (cArr S1 (N + 1)) := by
                      have q := HB8.out.set_ 2 (.int .i64 1)
                      have e : (cArr S1 N).setIfInBounds 2 (.int .i64 1) = cArr S1 (N + 1) := by
                        show _ = (#[.int .i64 (cntS S1 0 (N + 1)), .int .i64 (cntS S1 1 (N + 1)), .int .i64 (cntS S1 2 (N + 1)), .int .i64 (cntS S1 3 (N + 1))] : Array Value)
                        rw [y4 0 (by decide) (by decide), y4 1 (by decide) (by decide), y3, y4 3 (by decide) (by decide)]
                        rfl
                      rw [e] at q
                      exact q
                    have hEn := HE8.out.1.only0' (k := nB) HE8.out.2.1 2 (.int .i64 1) HE8.out.2.2
                    obtain ⟨z0, z1, z2, z3⟩ := c_all HB8.out
                    rw [y2] at z2
                    have hf0 := HB8.out.frozen 2
                    have hbl := HB8.out.lt
                    have HZ := Lib.hid (And.intro hEn hBn)
                    clear hEn hBn
                    go_wp2_with fail
                    go_roundw
                    case rel => exact ⟨p + 1, by omega, by go_num, HZ.out.1, by rw [show (4 * (i : Int) + ((p + 1 : Nat) : Int)) = N + 1 by omega]; exact HZ.out.2, HE8.out.2.1⟩
                    case measure => simp [intOf]; omega
                  · have hBn : Blk (w8.setCell ⟨nB, 3, none⟩ (.int .i64 1)) nB ItT (cArr S1 (N + 1)) := by
                      have q := HB8.out.set_ 3 (.int .i64 1)
                      have e : (cArr S1 N).setIfInBounds 3 (.int .i64 1) = cArr S1 (N + 1) := by
                        show _ = (#[.int .i64 (cntS S1 0 (N + 1)), .int .i64 (cntS S1 1 (N + 1)), .int .i64 (cntS S1 2 (N + 1)), .int .i64 (cntS S1 3 (N + 1))] : Array Value)
                        rw [y4 0 (by decide) (by decide), y4 1 (by decide) (by decide), y4 2 (by decide) (by decide), y3]
                        rfl
                      rw [e] at q
                      exact q
                    have hEn := HE8.out.1.only0' (k := nB) HE8.out.2.1 3 (.int .i64 1) HE8.out.2.2
                    obtain ⟨z0, z1, z2, z3⟩ := c_all HB8.out
                    rw [y2] at z3
                    have hf0 := HB8.out.frozen 3
                    have hbl := HB8.out.lt
                    have HZ := Lib.hid (And.intro hEn hBn)
                    clear hEn hBn
                    go_wp2_with fail
                    go_roundw
                    case rel => exact ⟨p + 1, by omega, by go_num, HZ.out.1, by rw [show (4 * (i : Int) + ((p + 1 : Nat) : Int)) = N + 1 by omega]; exact HZ.out.2, HE8.out.2.1⟩
                    case measure => simp [intOf]; omega
                  --</H>
                · have hA : pageA S1 b p = (0, 0, false) := by unfold pageA; rw [if_neg (fun z => h0 z.2.2)]
                  have cG := spage_is hE.mem hE.sp hA
                  have hBn : Blk wr nB ItT (cArr S1 (N + 1)) := by
                    have e : cArr S1 (N + 1) = cArr S1 N := by
                      show (#[.int .i64 (cntS S1 0 (N + 1)), .int .i64 (cntS S1 1 (N + 1)), .int .i64 (cntS S1 2 (N + 1)), .int .i64 (cntS S1 3 (N + 1))] : Array Value) = _
                      rw [hE.sp.cnt_miss hbr hpr h0 (f := 0) (by decide) hN2, hE.sp.cnt_miss hbr hpr h0 (f := 1) (by decide) hN2, hE.sp.cnt_miss hbr hpr h0 (f := 2) (by decide) hN2, hE.sp.cnt_miss hbr hpr h0 (f := 3) (by decide) hN2]
                    rw [e]
                    exact hB
                  have HE := Lib.hid (And.intro hE (And.intro hBn hnw))
                  clear hE hB hBn hnw hA hI h0
                  go_wp2_with fail
                  (with_reducible refine cG.mono ?_)
                  clear cG
                  rintro e w8 ⟨rfl, hm8, ho8⟩
                  have HZ := Lib.hid (And.intro (HE.out.1.step hm8 ho8 HE.out.1.sp) (HE.out.1.keep (by decide) HE.out.2.1 ho8))
                  clear hm8 ho8
                  go_wp2_with fail
                  go_roundw
                  case rel => exact ⟨p + 1, by omega, by go_num, HZ.out.1, by rw [show (4 * (i : Int) + ((p + 1 : Nat) : Int)) = N + 1 by omega]; exact HZ.out.2, HE.out.2.2⟩
                  case measure => simp [intOf]; omega
              · obtain rfl : p = 4 := by omega
                have HZ := Lib.hid (And.intro hE (And.intro hB hnw))
                clear hE hB hnw
                go_wp2_with fail
                go_roundw
                case rel => exact ⟨i + 1, by omega, by go_num, HZ.out.1, by rw [show (4 * ((i + 1 : Nat) : Int)) = 4 * (i : Int) + ((4 : Nat) : Int) by omega]; exact HZ.out.2.1, HZ.out.2.2⟩
                case measure => simp [intOf]; omega
          · obtain rfl : i = 2 := by omega
            have HI := Lib.hid (And.intro hE (And.intro hB hnw))
            clear hE hB hnw
            go_wp2_with fail
            obtain ⟨wp, rfl⟩ : ∃ x, x = wr := ⟨_, rfl⟩
            go_loopw [15] (fun fv wr => ∃ f : Nat, f ≤ 4 ∧ fv = .int .i64 f ∧ SWd w wr g S1 ∧ Blk wr nB ItT (cArr S1 8)) (fun fv _ => 4 - (intOf fv).toNat)
            case atStart => exact ⟨0, by omega, rfl, HI.out.1, HI.out.2.1⟩
            case round =>
              clear HI
              obtain ⟨f, hf, rfl, hE, hB⟩ := hrel
              by_cases hfl : f < 4
              · have hfl' : (f : Int) < 4 := by omega
                have hle := fun (k : Int) => cntS_le (S := S1) (f := k) (N := 8)
                obtain ⟨z0, z1, z2, z3⟩ := c_all hB
                have hbl := hB.lt
                have HZ := Lib.hid (And.intro hE hB)
                clear hE hB
                obtain ⟨c, hc⟩ : ∃ c, cntS S1 f 8 = c := ⟨_, rfl⟩
                have hcl : c ≤ 1 := by rw [← hc]; exact (hle f).2
                have hce : wr.cell? ⟨nB, f, none⟩ = some (.int .i64 c) := by
                  rw [← hc]
                  obtain rfl | rfl | rfl | rfl : f = 0 ∨ f = 1 ∨ f = 2 ∨ f = 3 := by omega
                  · exact z0
                  · exact z1
                  · exact z2
                  · exact z3
                have hcn : ¬ 1 < c := by omega
                have hf0 : (0 : Int) ≤ (f : Int) := by omega
                clear z0 z1 z2 z3 hle hc hcl
                go_wp2_with fail
                go_roundw
                case rel => exact ⟨f + 1, by omega, by go_num, HZ.out.1, HZ.out.2⟩
                case measure => simp [intOf]; omega
              · obtain rfl : f = 4 := by omega
                have HZ := Lib.hid hE
                clear hE hB
                go_wp2_with fail
                exact ⟨⟨m + 1, S1, by have := HLT.out; omega, by go_num, HZ.out⟩, by have := HLT.out; simp [intOf]; omega⟩
    · skip
      --<E>
      obtain rfl : m = LL.length := by omega
      have hlt' : ¬ (LL.length : Int) < (LL.length : Int) := by omega
      obtain ⟨f, hf⟩ : ∃ f, pickN fr 4 = f := ⟨_, rfl⟩
      have hfr4 := pickN_rng fr (n := 4) (by decide)
      have cP := Lib.hid fun W => pickN_any fr 4 hfr (by decide) (by decide) W
      rw [hf] at cP hfr4
      have cE := sunm_is hE.mem hE.sp f
      have hout := fun (b p : Int) (hb : 4 ≤ b ∧ b < 6) (hp : 0 ≤ p ∧ p < 4) => unm_out hE.sp hfr4 hb hp
      have htw := unm_twice hE.sp hfr4
      have hsp := hE.sp.unm (f := f)
      obtain ⟨S1, hS1⟩ : ∃ S1, unmS S f = S1 := ⟨_, rfl⟩
      simp only [hS1] at cE hout htw hsp
      have HU := Lib.hid (And.intro hout (And.intro htw hsp))
      have HE := Lib.hid hE
      clear hE hml hm hf hout htw hsp hS1
      go_wp2_with fail
      (with_reducible refine (cP.out _).mono ?_)
      clear cP
      rintro e w' ⟨rfl, hw⟩
      replace hw := hw.symm
      subst hw
      go_wp2_with fail
      (with_reducible refine cE.mono ?_)
      clear cE
      rintro e w5 ⟨rfl, hm5, ho5⟩
      have HE5 := Lib.hid (HE.out.step hm5 ho5 HU.out.2.2)
      clear hm5 ho5 HE
      go_wp2_with fail
      go_loopw [17] (fun bv wr => ∃ i : Nat, i ≤ 2 ∧ bv = .int .i64 (4 + i) ∧ SWd w wr g S1) (fun bv _ => 6 - (intOf bv).toNat)
      case atStart => exact ⟨0, by omega, rfl, HE5.out⟩
      case round =>
        clear HE5
        clear w5
        obtain ⟨i, hi, rfl, hE⟩ := hrel
        by_cases hil : i < 2
        · have hil' : (4 : Int) + (i : Int) < 6 := by omega
          have HI := Lib.hid hE
          clear hE
          go_wp2_with fail
          obtain ⟨wo, rfl⟩ : ∃ wo, wo = wr := ⟨_, rfl⟩
          go_loopw [18] (fun pv wr => ∃ p : Nat, p ≤ 4 ∧ pv = .int .i64 p ∧ SWd w wr g S1) (fun pv _ => 4 - (intOf pv).toNat)
          case atStart => exact ⟨0, by omega, rfl, HI.out⟩
          case round =>
            clear HI
            obtain ⟨p, hp, rfl, hE⟩ := hrel
            by_cases hpl : p < 4
            · have hpl' : (p : Int) < 4 := by omega
              obtain ⟨b, hb⟩ : ∃ b, (4 : Int) + (i : Int) = b := ⟨_, rfl⟩
              have hbr : 4 ≤ b ∧ b < 6 := by omega
              have hne := HU.out.1 b p hbr ⟨by omega, by omega⟩
              obtain ⟨⟨x, r, q⟩, hA⟩ : ∃ y, pageA S1 b p = y := ⟨_, rfl⟩
              have hxq : (q = true ∧ (x == f) = false) ∨ q = false := by
                unfold pageA at hA
                split at hA
                · cases hA
                  exact .inl ⟨rfl, by simpa using hne⟩
                · cases hA
                  exact .inr rfl
              have cG := spage_is hE.mem hE.sp hA
              rw [hb]
              have HE := Lib.hid hE
              clear hE hA hne
              go_wp2_with fail
              (with_reducible refine cG.mono ?_)
              clear cG
              rintro e w8 ⟨rfl, hm8, ho8⟩
              have HZ := Lib.hid (HE.out.step hm8 ho8 HE.out.sp)
              clear hm8 ho8 HE
              rcases hxq with ⟨rfl, hxf⟩ | rfl
              all_goals
                go_wp2_with fail
                go_roundw
                case rel => exact ⟨p + 1, by omega, by go_num, HZ.out⟩
                case measure => simp [intOf]; omega
            · obtain rfl : p = 4 := by omega
              have HZ := Lib.hid hE
              clear hE
              go_wp2_with fail
              go_roundw
              case rel => exact ⟨i + 1, by omega, by go_num, HZ.out⟩
              case measure => simp [intOf]; omega
        · obtain rfl : i = 2 := by omega
          have cE := sunm_is hE.mem hE.sp f
          rw [HU.out.2.1, show errV 10 = .iface 53 (.int .i64 10) from rfl] at cE
          have hq := fun (a : Int) (W : World) => Lib.run_eql_iface_int (P := Try.prog) W (t := 32) (tx := 53) (k := .i64) 10 a Try.underlying32 (by kernel_rfl) Try.underlying53
          have HE := Lib.hid hE
          clear hE
          go_wp2_with fail
          (with_reducible refine cE.mono ?_)
          clear cE
          rintro e w8 ⟨rfl, hm8, ho8⟩
          have HZ := Lib.hid (HE.out.only.then ho8 (fun y hy => .inr (by have := HE.out.ng; simp at hy; omega)))
          clear hm8 ho8 HE
          go_wp2_with fail
          go_ret
          exact ⟨rfl, HZ.out⟩
      --</E>
end Go.Proofs.Ytihipcbhfjpgbaa
