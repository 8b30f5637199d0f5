/- TcbPlays' walk: for all numbers of threads, all slices of deeds. -/
import Derived.Test.YtdkjfalhalepgaaTcLeaves
import Derived.Test.YtdkjfalhalepgaaJ21
import Derived.Test.YtdkjfalhalepgaaJ22
import Derived.Deep.RegionHeld3
namespace Go.Proofs.Ytdkjfalhalepgaa
open Go.RowKit
section
variable {w w' w0 : World} {p gs go g n : Nat} {S : RSt} {t : Int}
theorem T9.all {w : World} {g : Nat} {d : T9} (h : Blk w g T9T d.arr) : (w.cell? ⟨g, 0, none⟩ = some (.int .i64 d.what) ∧ w.cell? ⟨g, 1, none⟩ = some (.int .i64 d.t) ∧ w.cell? ⟨g, 2, none⟩ = some (.int .i64 d.n)) ∧ w.cell? ⟨g, 3, none⟩ = some (.int .i64 d.kind) ∧ w.cell? ⟨g, 4, none⟩ = some (.int .i64 d.rights) ∧ w.cell? ⟨g, 5, none⟩ = some (.int .i64 d.obj) ∧ w.cell? ⟨g, 6, none⟩ = some (.int .i64 d.badge) ∧ w.cell? ⟨g, 7, none⟩ = some (.int .i64 d.guard) ∧ w.cell? ⟨g, 8, none⟩ = some (.int .i64 d.bits) :=
  ⟨⟨h.cell 0, h.cell 1, h.cell 2⟩, h.cell 3, h.cell 4, h.cell 5, h.cell 6, h.cell 7, h.cell 8⟩
abbrev T9.c (d : T9) : Cp := ⟨d.kind, d.rights, d.obj, d.badge, d.guard, d.bits⟩
theorem tset_d (hm : MemP g 738 UT w (wordsG S)) (h : Eok S) (hn : Nodes S) (t : Int) (d : T9) :
    Calls Try.prog 15 #[pvw g, .int .i64 t, .agg #[.int .i64 d.kind, .int .i64 d.rights, .int .i64 d.obj, .int .i64 d.badge, .int .i64 d.guard, .int .i64 d.bits]] w fun e w' => e = .returned (errV (setrN S t d.c)) ∧ MemP g 738 UT w' (wordsG (setrS S t d.c)) ∧ Only [g] w w' := tset_is hm h hn t d.c
theorem rset_d (h : RefM w p gs go S) (t : Int) (d : T9) :
    Calls Try.prog 16 #[.pointer (some ⟨p, 0, none⟩), .int .i64 t, .agg #[.int .i64 d.kind, .int .i64 d.rights, .int .i64 d.obj, .int .i64 d.badge, .int .i64 d.guard, .int .i64 d.bits]] w fun e w' => e = .returned (.int .i64 (setrN S t d.c)) ∧ RefM w' p gs go (setrS S t d.c) ∧ Only [go] w w' := rsetroot_any h t d.c
theorem susN_ok (S : RSt) (t : Int) : susN S t = 0 ∨ (1 ≤ susN S t ∧ susN S t ≤ 14) := by unfold susN; split <;> (try split) <;> simp
theorem resN_ok (S : RSt) (t : Int) : resN S t = 0 ∨ (1 ≤ resN S t ∧ resN S t ≤ 14) := by unfold resN; split <;> (try split) <;> simp
theorem prioN_ok (S : RSt) (t n : Int) : prioN S t n = 0 ∨ (1 ≤ prioN S t n ∧ prioN S t n ≤ 14) := by unfold prioN; split <;> (try split) <;> simp
theorem setrN_ok (S : RSt) (t : Int) (c : Cp) : setrN S t c = 0 ∨ (1 ≤ setrN S t c ∧ setrN S t c ≤ 14) := by unfold setrN; split <;> (try split) <;> simp
theorem TP.qlen (h : TP n S) (x : Int) : (S.ob x).queue.length ≤ 900 := Nat.le_trans (h.ok.qlen32 x) (by decide)
theorem keepP {t : TypeId} {k : Nat} {cs : Array Value} (h : RefM w p gs go S) (ht : t ≠ ObT) (hb : Blk w k t cs) (ho : Only [go] w w') : Blk w' k t cs := by
  obtain ⟨-, cur, hg⟩ := h.blkG
  exact ho.blk hb (fun e => by simp at e; exact hb.ne_ hg ht e)
/-- a call on the words, then its like on the state: both, and the deed -/
structure TDu (w W : World) (p gs go g n n0 : Nat) (d : T9) (S : RSt) : Prop where
  du : Duet w W p gs go g S
  tp : TP n S
  dd : Blk W n0 T9T d.arr
variable {n0 : Nat} {d : T9} {S' : RSt} {w1 w2 : World}
theorem TDu.two (h : TDu w0 w p gs go g n n0 d S) (hm : MemP g 738 UT w1 (wordsG S')) (ho : Only [g] w w1) (hr : RefM w2 p gs go S') (ho2 : Only [go] w1 w2) (k : TP n S') : TDu w0 w2 p gs go g n n0 d S' :=
  ⟨h.du.both hm ho hr ho2 (by simp) k.ok.sok, k, keepP (apartG h.du.ref h.du.mem ho) (by decide) (h.du.keep (by decide) h.dd ho) ho2⟩
theorem TDu.read (h : TDu w0 w p gs go g n n0 d S) (hm : MemP g 738 UT w1 (wordsG S)) (ho : Only [g] w w1) : TDu w0 w1 p gs go g n n0 d S :=
  ⟨h.du.read hm ho, h.tp, h.du.keep (by decide) h.dd ho⟩
theorem TDu.only0 (h : TDu w0 w p gs go g n n0 d S) (ho : Only [] w w1) : TDu w0 w1 p gs go g n n0 d S := ⟨h.du.only0 ho, h.tp, ho.blk h.dd (by simp)⟩
end
set_option maxRecDepth 100000 in
set_option maxHeartbeats 20000000 in
theorem tplays_any (z : Int) (A : Option Addr) (LL : List T9) (cp : Nat) (w : World) (hL : DeedsT9 w A LL) (hl : LL.length ≤ 9223372036854775807) :
    Calls Try.prog 3 #[.int .i64 z, .slice A LL.length cp] w fun e w' => e = .returned (.bool true) ∧ Only [] w w' := by
  have cU := tup_any w
  by_cases h1 : z < 1
  · skip
    --<X>
    go_enter Try.func3, Try.ntmps3
    go_wp2_with ((with_reducible refine cU.mono ?_); clear cU; rintro e w1 ⟨rfl, ho1⟩)
    go_ret
    exact ⟨rfl, ho1⟩
    --</X>
  by_cases h2 : 7 < z
  · skip
    --<X>
    go_enter Try.func3, Try.ntmps3
    go_wp2_with ((with_reducible refine cU.mono ?_); clear cU; rintro e w1 ⟨rfl, ho1⟩)
    go_ret
    exact ⟨rfl, ho1⟩
    --</X>
  by_cases h3 : 100 < LL.length
  · skip
    --<X>
    have h3' : (100 : Int) < (LL.length : Int) := by omega
    go_enter Try.func3, Try.ntmps3
    go_wp2_with ((with_reducible refine cU.mono ?_); clear cU; rintro e w1 ⟨rfl, ho1⟩)
    go_ret
    exact ⟨rfl, ho1⟩
    --</X>
  have h3' : ¬ (100 : Int) < (LL.length : Int) := by omega
  obtain ⟨n, rfl⟩ : ∃ n : Nat, z = n := ⟨z.toNat, by omega⟩
  have hn7 : n ≤ 7 := by omega
  have hn1 : 1 ≤ n := by omega
  have HB := Lib.hid fun W : World => boot_any n hn7 W
  go_enter Try.func3, Try.ntmps3
  go_wp2_with fail
  (with_reducible refine cU.mono ?_)
  clear cU
  rintro e w1 ⟨rfl, ho1⟩
  go_wp2_with fail
  (with_reducible refine (HB.out _).mono ?_)
  rintro e w2 ⟨gs, go, rfl, hr2, hgs, hgo, ho2⟩
  have hpw := ho1.size
  obtain ⟨pB, hpB⟩ : ∃ pB, Hid (w1.heap.size = pB) := ⟨_, Lib.hid rfl⟩
  rw [hpB.out] at hr2 hgs hgo hpw ⊢
  have cW := rwordsG_any hr2 (boot_tp hn7).ok.sok.fitG
  go_wp2_with fail
  (with_reducible refine cW.mono ?_)
  clear cW HB
  rintro e w3 ⟨rfl, hm3, ho3⟩
  have ng := (ho1.trans ho2).size
  have hr3 := hr2.only0 ho3
  replace ho3 := (ho1.trans ho2).trans ho3
  obtain ⟨g, hg⟩ : ∃ g, Hid (w2.heap.size = g) := ⟨_, Lib.hid rfl⟩
  rw [hg.out] at hm3 ng ⊢
  have HE : Hid (Duet w w3 pB gs go g (bootS n)) := Lib.hid ⟨hm3, hr3, (boot_tp hn7).ok.sok, ho3, ng, hpw, by omega, by omega⟩
  clear hr2 ho1 ho2 hg hpB hm3 hr3 ho3 ng hpw hgs hgo
  clear w1 w2
  go_wp2_with fail
  go_loopw [8] (fun jv wr => ∃ (m : Nat) (S : RSt), m ≤ LL.length ∧ jv = .int .i64 m ∧ Duet w wr pB gs go g S ∧ TP n S) (fun jv _ => LL.length - (intOf jv).toNat)
  case atStart => exact ⟨0, _, by omega, rfl, HE.out, boot_tp hn7⟩
  case round =>
    clear HE
    clear w3
    obtain ⟨m, S, hm, rfl, hE, hT⟩ := hrel
    by_cases hml : m < LL.length
    · obtain ⟨d, hd⟩ : ∃ d, LL[m]? = some d := ⟨_, List.getElem?_eq_getElem hml⟩
      obtain ⟨b0, off, rfl, hb, hc⟩ := hL.at_ m d hd
      have hok := hL.ok m d hd
      have c0 : wr.cell? ⟨b0, off + m * 9, none⟩ = some (.int .i64 d.what) := (hE.only.cell (p := ⟨b0, off + m * 9, none⟩) hb (by simp)).trans (hc 0 _ rfl)
      have c1 : wr.cell? ⟨b0, off + m * 9 + 1, none⟩ = some (.int .i64 d.t) := (hE.only.cell (p := ⟨b0, off + m * 9 + 1, none⟩) hb (by simp)).trans (hc 1 _ rfl)
      have c2 : wr.cell? ⟨b0, off + m * 9 + 2, none⟩ = some (.int .i64 d.n) := (hE.only.cell (p := ⟨b0, off + m * 9 + 2, none⟩) hb (by simp)).trans (hc 2 _ rfl)
      have c3 : wr.cell? ⟨b0, off + m * 9 + 3, none⟩ = some (.int .i64 d.kind) := (hE.only.cell (p := ⟨b0, off + m * 9 + 3, none⟩) hb (by simp)).trans (hc 3 _ rfl)
      have c4 : wr.cell? ⟨b0, off + m * 9 + 4, none⟩ = some (.int .i64 d.rights) := (hE.only.cell (p := ⟨b0, off + m * 9 + 4, none⟩) hb (by simp)).trans (hc 4 _ rfl)
      have c5 : wr.cell? ⟨b0, off + m * 9 + 5, none⟩ = some (.int .i64 d.obj) := (hE.only.cell (p := ⟨b0, off + m * 9 + 5, none⟩) hb (by simp)).trans (hc 5 _ rfl)
      have c6 : wr.cell? ⟨b0, off + m * 9 + 6, none⟩ = some (.int .i64 d.badge) := (hE.only.cell (p := ⟨b0, off + m * 9 + 6, none⟩) hb (by simp)).trans (hc 6 _ rfl)
      have c7 : wr.cell? ⟨b0, off + m * 9 + 7, none⟩ = some (.int .i64 d.guard) := (hE.only.cell (p := ⟨b0, off + m * 9 + 7, none⟩) hb (by simp)).trans (hc 7 _ rfl)
      have c8 : wr.cell? ⟨b0, off + m * 9 + 8, none⟩ = some (.int .i64 d.bits) := (hE.only.cell (p := ⟨b0, off + m * 9 + 8, none⟩) hb (by simp)).trans (hc 8 _ rfl)
      have hbz := hE.only.size
      have hn := Blk.new wr T9T d.arr
      have hE1 : TDu w (wr.alloc (.cells d.arr T9T)) pB gs go g n wr.heap.size d S := ⟨hE.only0 ((Only.refl [] wr).alloc (.cells d.arr T9T)), hT, hn⟩
      have HH := Lib.hid (And.intro hE1 hok)
      have HLT := Lib.hid hml
      have hlt' : (m : Int) < (LL.length : Int) := by omega
      clear hd hc hE hn hE1 hT
      go_upto_region 10 with fail
      clear c0 c1 c2 c3 c4 c5 c6 c7 c8 hb hbz
      obtain ⟨n0, hn0⟩ : ∃ n0, Hid (n0 = wr.heap.size) := ⟨_, Lib.hid rfl⟩
      obtain ⟨w4, hw4⟩ : ∃ w4, Hid (w4 = wr.alloc (.cells d.arr T9T)) := ⟨_, Lib.hid rfl⟩
      rw [← hw4.out, ← hn0.out] at HH
      rw [← hw4.out, ← hn0.out]
      clear hw4 hn0
      clear wr
      obtain ⟨t, ht⟩ : ∃ t, pickN d.t n = t := ⟨_, rfl⟩
      have htr := pickN_rng d.t (n := (n : Int)) (by omega)
      have cT := Lib.hid fun W => pickN_any d.t n hok.t (by omega) (by omega) W
      obtain ⟨p, hp⟩ : ∃ p, pickN d.what 8 = p := ⟨_, rfl⟩
      have hpr := pickN_rng d.what (n := 8) (by decide)
      have cP := Lib.hid fun W => pickN_any d.what 8 hok.what (by decide) (by decide) W
      rw [ht] at cT htr
      rw [hp] at cP hpr
      clear ht hp hok
      obtain ⟨⟨e0, e1, e2⟩, e3, e4, e5, e6, e7, e8⟩ := T9.all HH.out.1.dd
      have hnl := HH.out.1.dd.lt
      go_upto_block 2 with (first | ((with_reducible refine (cT.out _).mono ?_); rintro e w' ⟨rfl, hw⟩; replace hw := hw.symm; subst hw) | ((with_reducible refine (cP.out _).mono ?_); rintro e w' ⟨rfl, hw⟩; replace hw := hw.symm; subst hw) | fail)
      go_cut [12, 13] (fun a b W => ∃ (k : Int) (S1 : RSt), a = .int .i64 k ∧ b = errV k ∧ (k = 0 ∨ (1 ≤ k ∧ k ≤ 14)) ∧ TDu w W pB gs go g n n0 d S1)
      case first =>
        have hpc : p = 0 ∨ p = 1 ∨ p = 2 ∨ p = 3 ∨ p = 4 ∨ p = 5 ∨ p = 6 ∨ p = 7 := by omega
        clear hpr
        rcases hpc with rfl | rfl | rfl | rfl | rfl | rfl | rfl | rfl
        · skip
          --<S0>
          as_aux_lemma =>
          have cE := tsus_is HH.out.1.du.mem HH.out.1.tp.ok d.t
          have HK := Lib.hid (HH.out.1.tp.sus d.t)
          have cR := Lib.hid fun (W : World) (h : RefM W pB gs go S) => rsuspend_any h d.t HH.out.1.tp.ok
          have hN := susN_ok S d.t
          obtain ⟨k, hk⟩ : ∃ k, susN S d.t = k := ⟨_, rfl⟩
          obtain ⟨S1, hS1⟩ : ∃ S1, susS S d.t = S1 := ⟨_, rfl⟩
          rw [hk] at cE cR hN
          rw [hS1] at cE cR HK
          have HN := Lib.hid hN
          clear hk hS1 hN
          go_wp2_with fail
          (with_reducible refine cE.mono ?_)
          clear cE e0 e1 e2 e3 e4 e5 e6 e7 e8
          rintro e w5 ⟨rfl, hm5, ho5⟩
          have hd5 := HH.out.1.du.keep (by decide) HH.out.1.dd ho5
          have cX := cR.out w5 (apartG HH.out.1.du.ref HH.out.1.du.mem ho5)
          have H5 := Lib.hid (And.intro hm5 ho5)
          obtain ⟨⟨-, e1, e2⟩, e3, e4, e5, e6, e7, e8⟩ := T9.all hd5
          have hnl5 := hd5.lt
          clear hm5 ho5 cR hd5 hnl
          go_wp2_with fail
          (with_reducible refine cX.mono ?_)
          clear cX e1 e2 e3 e4 e5 e6 e7 e8
          rintro e w6 ⟨rfl, hr6, ho6⟩
          have hD6 := HH.out.1.two H5.out.1 H5.out.2 hr6 ho6 HK.out
          clear hr6 ho6 H5
          go_wp2_with fail
          go_meet
          exact ⟨k, S1, rfl, rfl, HN.out, hD6⟩
          --</S0>
        · skip
          --<S1>
          as_aux_lemma =>
          have cE := tres_is HH.out.1.du.mem HH.out.1.tp.ok d.t
          have HK := Lib.hid (HH.out.1.tp.res d.t)
          have cR := Lib.hid fun (W : World) (h : RefM W pB gs go S) => rresume_any h d.t
          have hN := resN_ok S d.t
          obtain ⟨k, hk⟩ : ∃ k, resN S d.t = k := ⟨_, rfl⟩
          obtain ⟨S1, hS1⟩ : ∃ S1, resS S d.t = S1 := ⟨_, rfl⟩
          rw [hk] at cE cR hN
          rw [hS1] at cE cR HK
          have HN := Lib.hid hN
          clear hk hS1 hN
          go_wp2_with fail
          (with_reducible refine cE.mono ?_)
          clear cE e0 e1 e2 e3 e4 e5 e6 e7 e8
          rintro e w5 ⟨rfl, hm5, ho5⟩
          have hd5 := HH.out.1.du.keep (by decide) HH.out.1.dd ho5
          have cX := cR.out w5 (apartG HH.out.1.du.ref HH.out.1.du.mem ho5)
          have H5 := Lib.hid (And.intro hm5 ho5)
          obtain ⟨⟨-, e1, e2⟩, e3, e4, e5, e6, e7, e8⟩ := T9.all hd5
          have hnl5 := hd5.lt
          clear hm5 ho5 cR hd5 hnl
          go_wp2_with fail
          (with_reducible refine cX.mono ?_)
          clear cX e1 e2 e3 e4 e5 e6 e7 e8
          rintro e w6 ⟨rfl, hr6, ho6⟩
          have hD6 := HH.out.1.two H5.out.1 H5.out.2 hr6 ho6 HK.out
          clear hr6 ho6 H5
          go_wp2_with fail
          go_meet
          exact ⟨k, S1, rfl, rfl, HN.out, hD6⟩
          --</S1>
        · skip
          --<S2>
          as_aux_lemma =>
          have cE := tres_is HH.out.1.du.mem HH.out.1.tp.ok d.t
          have HK := Lib.hid (HH.out.1.tp.res d.t)
          have cR := Lib.hid fun (W : World) (h : RefM W pB gs go S) => rresume_any h d.t
          have hN := resN_ok S d.t
          obtain ⟨k, hk⟩ : ∃ k, resN S d.t = k := ⟨_, rfl⟩
          obtain ⟨S1, hS1⟩ : ∃ S1, resS S d.t = S1 := ⟨_, rfl⟩
          rw [hk] at cE cR hN
          rw [hS1] at cE cR HK
          have HN := Lib.hid hN
          clear hk hS1 hN
          go_wp2_with fail
          (with_reducible refine cE.mono ?_)
          clear cE e0 e1 e2 e3 e4 e5 e6 e7 e8
          rintro e w5 ⟨rfl, hm5, ho5⟩
          have hd5 := HH.out.1.du.keep (by decide) HH.out.1.dd ho5
          have cX := cR.out w5 (apartG HH.out.1.du.ref HH.out.1.du.mem ho5)
          have H5 := Lib.hid (And.intro hm5 ho5)
          obtain ⟨⟨-, e1, e2⟩, e3, e4, e5, e6, e7, e8⟩ := T9.all hd5
          have hnl5 := hd5.lt
          clear hm5 ho5 cR hd5 hnl
          go_wp2_with fail
          (with_reducible refine cX.mono ?_)
          clear cX e1 e2 e3 e4 e5 e6 e7 e8
          rintro e w6 ⟨rfl, hr6, ho6⟩
          have hD6 := HH.out.1.two H5.out.1 H5.out.2 hr6 ho6 HK.out
          clear hr6 ho6 H5
          go_wp2_with fail
          go_meet
          exact ⟨k, S1, rfl, rfl, HN.out, hD6⟩
          --</S2>
        · skip
          --<S3>
          as_aux_lemma =>
          have cE := tpri_is HH.out.1.du.mem HH.out.1.tp.ok d.t d.n HH.out.2.n
          have HK := Lib.hid (HH.out.1.tp.pri d.t d.n)
          have cR := Lib.hid fun (W : World) (h : RefM W pB gs go S) => rprio_any h d.t d.n
          have hN := prioN_ok S d.t d.n
          obtain ⟨k, hk⟩ : ∃ k, prioN S d.t d.n = k := ⟨_, rfl⟩
          obtain ⟨S1, hS1⟩ : ∃ S1, prioT S d.t d.n = S1 := ⟨_, rfl⟩
          rw [hk] at cE cR hN
          rw [hS1] at cE cR HK
          have HN := Lib.hid hN
          clear hk hS1 hN
          go_wp2_with fail
          (with_reducible refine cE.mono ?_)
          clear cE e0 e1 e2 e3 e4 e5 e6 e7 e8
          rintro e w5 ⟨rfl, hm5, ho5⟩
          have hd5 := HH.out.1.du.keep (by decide) HH.out.1.dd ho5
          have cX := cR.out w5 (apartG HH.out.1.du.ref HH.out.1.du.mem ho5)
          have H5 := Lib.hid (And.intro hm5 ho5)
          obtain ⟨⟨-, e1, e2⟩, e3, e4, e5, e6, e7, e8⟩ := T9.all hd5
          have hnl5 := hd5.lt
          clear hm5 ho5 cR hd5 hnl
          go_wp2_with fail
          (with_reducible refine cX.mono ?_)
          clear cX e1 e2 e3 e4 e5 e6 e7 e8
          rintro e w6 ⟨rfl, hr6, ho6⟩
          have hD6 := HH.out.1.two H5.out.1 H5.out.2 hr6 ho6 HK.out
          clear hr6 ho6 H5
          go_wp2_with fail
          go_meet
          exact ⟨k, S1, rfl, rfl, HN.out, hD6⟩
          --</S3>
        · skip
          --<S4>
          as_aux_lemma =>
          have cE := tset_d HH.out.1.du.mem HH.out.1.tp.ok HH.out.1.tp.nd d.t d
          have HK := Lib.hid (HH.out.1.tp.setr d.t d.c)
          have cR := Lib.hid fun (W : World) (h : RefM W pB gs go S) => rset_d h d.t d
          have hN := setrN_ok S d.t d.c
          obtain ⟨k, hk⟩ : ∃ k, setrN S d.t d.c = k := ⟨_, rfl⟩
          obtain ⟨S1, hS1⟩ : ∃ S1, setrS S d.t d.c = S1 := ⟨_, rfl⟩
          rw [hk] at cE cR hN
          rw [hS1] at cE cR HK
          have HN := Lib.hid hN
          clear hk hS1 hN
          go_wp2_with fail
          (with_reducible refine cE.mono ?_)
          clear cE e0 e1 e2 e3 e4 e5 e6 e7 e8
          rintro e w5 ⟨rfl, hm5, ho5⟩
          have hd5 := HH.out.1.du.keep (by decide) HH.out.1.dd ho5
          have cX := cR.out w5 (apartG HH.out.1.du.ref HH.out.1.du.mem ho5)
          have H5 := Lib.hid (And.intro hm5 ho5)
          obtain ⟨⟨-, e1, e2⟩, e3, e4, e5, e6, e7, e8⟩ := T9.all hd5
          have hnl5 := hd5.lt
          clear hm5 ho5 cR hd5 hnl
          go_wp2_with fail
          (with_reducible refine cX.mono ?_)
          clear cX e1 e2 e3 e4 e5 e6 e7 e8
          rintro e w6 ⟨rfl, hr6, ho6⟩
          have hD6 := HH.out.1.two H5.out.1 H5.out.2 hr6 ho6 HK.out
          clear hr6 ho6 H5
          go_wp2_with fail
          go_meet
          exact ⟨k, S1, rfl, rfl, HN.out, hD6⟩
          --</S4>
        · skip
          --<S5>
          as_aux_lemma =>
          have hth := HH.out.1.tp.thr.2 htr
          obtain ⟨a, rfl⟩ : ∃ a : Nat, t = a := ⟨t.toNat, by omega⟩
          have cR := rready_any HH.out.1.du.ref (a : Int)
          rw [isO_of hth, Bool.true_and] at cR
          obtain ⟨st, hst⟩ : ∃ st, (S.ob (a : Int)).state = st := ⟨_, rfl⟩
          rw [hst] at cR
          have HT := Lib.hid (And.intro hth hst)
          clear hth hst
          go_wp2_with fail
          (with_reducible refine cR.mono ?_)
          clear cR
          rintro e w' ⟨rfl, hw⟩
          subst hw
          by_cases hs1 : st = 1
          · subst hs1
            rw [decide_eq_true rfl]
            obtain ⟨q, hq⟩ : ∃ q, pickN d.n 2 = q := ⟨_, rfl⟩
            have cQ := Lib.hid fun W => pickN_any d.n 2 HH.out.2.n (by decide) (by decide) W
            rw [hq] at cQ
            have cE := esend_is (n := 2) (b := 1) HH.out.1.du.mem HH.out.1.tp.ok HH.out.1.tp.ep HT.out.1 HT.out.2 ⟨by decide, by decide⟩ ⟨by decide, by decide⟩ (q == 1)
            obtain ⟨qb, hqb⟩ : ∃ x, (q == 1) = x := ⟨_, rfl⟩
            rw [hqb] at cE
            clear hq
            have hep : EpAt S ((n + 3 : Nat) : Int) := by rw [show ((n + 3 : Nat) : Int) = (n : Int) + 3 by omega]; exact HH.out.1.tp.ep
            have HEP := Lib.hid hep
            clear hep
            have HK := Lib.hid (HH.out.1.tp.send HT.out.1 HT.out.2 (w := 2) (b := 1) ⟨by decide, by decide⟩ ⟨by decide, by decide⟩ qb)
            have cR := Lib.hid fun (W : World) (h : RefM W pB gs go S) => rsend_any h HH.out.1.tp.ok (ep := n + 3) (t := a) HEP.out (by have := HT.out.1.1; omega) 2 1 qb
            rw [show ((n + 3 : Nat) : Int) = (n : Int) + 3 by omega] at cR
            obtain ⟨S1, hS1⟩ : ∃ S1, sendS S ((n : Int) + 3) (a : Int) 1 2 qb = S1 := ⟨_, rfl⟩
            rw [hS1] at cE cR HK
            clear hS1
            go_wp2_with (first | ((with_reducible refine (cQ.out _).mono ?_); rintro e w' ⟨rfl, hw⟩; replace hw := hw.symm; subst hw) | fail)
            (with_reducible refine cE.mono ?_)
            clear cE e0 e1 e2 e3 e4 e5 e6 e7 e8
            rintro e w5 ⟨rfl, hm5, ho5⟩
            have hd5 := HH.out.1.du.keep (by decide) HH.out.1.dd ho5
            have cX := cR.out w5 (apartG HH.out.1.du.ref HH.out.1.du.mem ho5)
            have H5 := Lib.hid (And.intro hm5 ho5)
            obtain ⟨⟨-, -, e2⟩, -⟩ := T9.all hd5
            have hnl5 := hd5.lt
            clear hm5 ho5 cR hd5 hnl
            go_wp2_with (first | ((with_reducible refine (cQ.out _).mono ?_); rintro e w' ⟨rfl, hw⟩; replace hw := hw.symm; subst hw) | fail)
            (with_reducible refine cX.mono ?_)
            clear cX e2
            rintro e w6 ⟨rfl, hr6, ho6⟩
            have hD6 := HH.out.1.two H5.out.1 H5.out.2 hr6 ho6 HK.out
            clear hr6 ho6 H5
            go_wp2_with fail
            go_meet
            exact ⟨0, S1, rfl, rfl, .inl rfl, hD6⟩
          · rw [decide_eq_false hs1]
            have HZ := Lib.hid (And.intro HH.out.1.du HH.out.1.tp)
            clear e0 e1 e2 e3 e4 e5 e6 e7 e8 hnl
            go_wp2_with fail
            exact ⟨⟨m + 1, _, by have := HLT.out; omega, by go_num, HZ.out⟩, by have := HLT.out; simp [intOf]; omega⟩
          --</S5>
        · skip
          --<S6>
          as_aux_lemma =>
          have hth := HH.out.1.tp.thr.2 htr
          obtain ⟨a, rfl⟩ : ∃ a : Nat, t = a := ⟨t.toNat, by omega⟩
          have cR := rready_any HH.out.1.du.ref (a : Int)
          rw [isO_of hth, Bool.true_and] at cR
          obtain ⟨st, hst⟩ : ∃ st, (S.ob (a : Int)).state = st := ⟨_, rfl⟩
          rw [hst] at cR
          have HT := Lib.hid (And.intro hth hst)
          clear hth hst
          go_wp2_with fail
          (with_reducible refine cR.mono ?_)
          clear cR
          rintro e w' ⟨rfl, hw⟩
          subst hw
          by_cases hs1 : st = 1
          · subst hs1
            rw [decide_eq_true rfl]
            have cE := erecv_any HH.out.1.du.mem HH.out.1.tp HT.out.1 HT.out.2
            have hep : EpAt S ((n + 3 : Nat) : Int) := by rw [show ((n + 3 : Nat) : Int) = (n : Int) + 3 by omega]; exact HH.out.1.tp.ep
            have HEP := Lib.hid hep
            clear hep
            obtain ⟨ra, rb, rq, rk, hA⟩ : ∃ ra rb rq rk, recvA S ((n + 3 : Nat) : Int) (a : Int) = (ra, rb, rq, rk) := ⟨_, _, _, _, rfl⟩
            have HA := Lib.hid hA
            clear hA
            have HK := Lib.hid (HH.out.1.tp.recv HT.out.1 HT.out.2)
            have cR := Lib.hid fun (W : World) (h : RefM W pB gs go S) => rrecv_any h HH.out.1.tp.ok (ep := n + 3) (t := a) HEP.out (by have := HT.out.1.1; omega) HA.out
            rw [show ((n + 3 : Nat) : Int) = (n : Int) + 3 by omega] at cR
            obtain ⟨S1, hS1⟩ : ∃ S1, recvS S ((n : Int) + 3) (a : Int) = S1 := ⟨_, rfl⟩
            rw [hS1] at cE cR HK
            clear hS1
            go_wp2_with fail
            (with_reducible refine cE.mono ?_)
            clear cE e0 e1 e2 e3 e4 e5 e6 e7 e8
            rintro e w5 ⟨⟨v5, rfl⟩, hm5, ho5⟩
            have hd5 := HH.out.1.du.keep (by decide) HH.out.1.dd ho5
            have cX := cR.out w5 (apartG HH.out.1.du.ref HH.out.1.du.mem ho5)
            have H5 := Lib.hid (And.intro hm5 ho5)
            obtain ⟨⟨-, -, e2⟩, -⟩ := T9.all hd5
            have hnl5 := hd5.lt
            clear hm5 ho5 cR hd5 hnl
            go_wp2_with fail
            (with_reducible refine cX.mono ?_)
            clear cX e2
            rintro e w6 ⟨rfl, hr6, ho6⟩
            have hD6 := HH.out.1.two H5.out.1 H5.out.2 hr6 ho6 HK.out
            clear hr6 ho6 H5
            go_wp2_with fail
            go_meet
            exact ⟨0, S1, rfl, rfl, .inl rfl, hD6⟩
          · rw [decide_eq_false hs1]
            have HZ := Lib.hid (And.intro HH.out.1.du HH.out.1.tp)
            clear e0 e1 e2 e3 e4 e5 e6 e7 e8 hnl
            go_wp2_with fail
            exact ⟨⟨m + 1, _, by have := HLT.out; omega, by go_num, HZ.out⟩, by have := HLT.out; simp [intOf]; omega⟩
          --</S6>
        · skip
          --<S7>
          as_aux_lemma =>
          have hth := HH.out.1.tp.thr.2 htr
          obtain ⟨a, rfl⟩ : ∃ a : Nat, t = a := ⟨t.toNat, by omega⟩
          have cR := rready_any HH.out.1.du.ref (a : Int)
          rw [isO_of hth, Bool.true_and] at cR
          obtain ⟨st, hst⟩ : ∃ st, (S.ob (a : Int)).state = st := ⟨_, rfl⟩
          rw [hst] at cR
          have HT := Lib.hid (And.intro hth hst)
          clear hth hst
          go_wp2_with fail
          (with_reducible refine cR.mono ?_)
          clear cR
          rintro e w' ⟨rfl, hw⟩
          subst hw
          by_cases hs1 : st = 1
          · subst hs1
            rw [decide_eq_true rfl]
            have cE := nwait_blocks HH.out.1.du.mem HH.out.1.tp.ok HH.out.1.tp.nt HT.out.1 HT.out.2 HH.out.1.tp.wd
            have HK := Lib.hid (HH.out.1.tp.ntw HT.out.1 HT.out.2)
            have cR := Lib.hid fun (W : World) (h : RefM W pB gs go S) => rwait_any h (o := n + 4) (t := a) (by omega) (by have := HT.out.1.1; omega) (HH.out.1.tp.qlen _)
            rw [show ((n + 4 : Nat) : Int) = (n : Int) + 4 by omega] at cR
            obtain ⟨S1, hS1⟩ : ∃ S1, ntwS S ((n : Int) + 4) (a : Int) = S1 := ⟨_, rfl⟩
            rw [hS1] at cE cR HK
            clear hS1
            go_wp2_with fail
            (with_reducible refine cE.mono ?_)
            clear cE e0 e1 e2 e3 e4 e5 e6 e7 e8
            rintro e w5 ⟨rfl, hm5, ho5⟩
            have hd5 := HH.out.1.du.keep (by decide) HH.out.1.dd ho5
            have cX := cR.out w5 (apartG HH.out.1.du.ref HH.out.1.du.mem ho5)
            have H5 := Lib.hid (And.intro hm5 ho5)
            obtain ⟨⟨-, -, e2⟩, -⟩ := T9.all hd5
            have hnl5 := hd5.lt
            clear hm5 ho5 cR hd5 hnl
            go_wp2_with fail
            (with_reducible refine cX.mono ?_)
            clear cX e2
            rintro e w6 ⟨rfl, hr6, ho6⟩
            have hD6 := HH.out.1.two H5.out.1 H5.out.2 hr6 ho6 HK.out
            clear hr6 ho6 H5
            go_wp2_with fail
            go_meet
            exact ⟨0, S1, rfl, rfl, .inl rfl, hD6⟩
          · rw [decide_eq_false hs1]
            have HZ := Lib.hid (And.intro HH.out.1.du HH.out.1.tp)
            clear e0 e1 e2 e3 e4 e5 e6 e7 e8 hnl
            go_wp2_with fail
            exact ⟨⟨m + 1, _, by have := HLT.out; omega, by go_num, HZ.out⟩, by have := HLT.out; simp [intOf]; omega⟩
          --</S7>
      case rest =>
        --<R>
        obtain ⟨k, S1, rfl, rfl, hk, hD⟩ := hcut
        have hth := hD.tp.thr.2 htr
        obtain ⟨a, rfl⟩ : ∃ a : Nat, t = a := ⟨t.toNat, by omega⟩
        have ha32 : a < 32 := by have := hth.1; omega
        have HK := Lib.hid hk
        have HTH := Lib.hid hth
        have cH := thi_is hD.du.mem hD.tp.ok
        obtain ⟨hi, hhi⟩ : ∃ hi, hiN S1 32 = hi := ⟨_, rfl⟩
        have hrg := hiN_rng S1 32
        rw [hhi] at cH hrg
        have cR := Lib.hid fun (W : World) (h : RefM W pB gs go S1) => rhigh_any h
        rw [hhi] at cR
        have HD := Lib.hid hD
        clear hD hk hth hhi HH cT cP e0 e1 e2 e3 e4 e5 e6 e7 e8 hnl
        by_cases hh : 0 ≤ hi
        · skip
          --<R1>
          as_aux_lemma =>
          have q1 : decide (0 ≤ hi) = true := by simpa using hh
          rw [q1, if_neg (by omega)] at cH
          go_wp2_with fail
          (with_reducible refine cH.mono ?_)
          clear cH
          rintro e w5 ⟨rfl, hm5, ho5⟩
          have HD5 := Lib.hid (HD.out.read hm5 ho5)
          have c := cR.out _ HD5.out.du.ref
          clear hm5 ho5 cR HD
          go_wp2_with fail
          (with_reducible refine c.mono ?_)
          clear c
          rintro e w6 ⟨rfl, ho6⟩
          have hD6 := HD5.out.only0 ho6
          obtain ⟨co, c1⟩ := hD6.du.ref.cObjs
          obtain ⟨Ar, cpr, hcO, -⟩ := hD6.du.ref.obj ha32
          have h0 : (0 : Int) ≤ (a : Int) := by omega
          have h1 : (a : Int) < 32 := by omega
          obtain ⟨rc, hrc⟩ : ∃ rc, (S1.ob (a : Int)).root = rc := ⟨_, rfl⟩
          have cRt := Lib.hid fun (W : World) (hm : MemP g 738 UT W (wordsG S1)) => trt_is hm hD6.tp.ok HTH.out (hD6.tp.rt _ HTH.out)
          rw [hrc] at cRt
          have r0 : w6.cell? ⟨go, a * 32 + 14, none⟩ = some (.int .i64 rc.kind) := hrc ▸ hcO 14 _ rfl
          have r1 : w6.cell? ⟨go, a * 32 + 15, none⟩ = some (.int .i64 rc.rights) := hrc ▸ hcO 15 _ rfl
          have r2 : w6.cell? ⟨go, a * 32 + 16, none⟩ = some (.int .i64 rc.obj) := hrc ▸ hcO 16 _ rfl
          have r3 : w6.cell? ⟨go, a * 32 + 17, none⟩ = some (.int .i64 rc.badge) := hrc ▸ hcO 17 _ rfl
          have r4 : w6.cell? ⟨go, a * 32 + 18, none⟩ = some (.int .i64 rc.guard) := hrc ▸ hcO 18 _ rfl
          have r5 : w6.cell? ⟨go, a * 32 + 19, none⟩ = some (.int .i64 rc.bits) := hrc ▸ hcO 19 _ rfl
          have hlp := hD6.du.ref.ltP
          have hlo := hD6.du.ref.ltO
          have hpg : ∀ k, k ∈ [g] → k ≠ pB ∧ k ≠ go := fun k hk => by
            have := hD6.du.away
            simp at hk this
            subst hk
            exact ⟨this.1, this.2.2⟩
          have hSS : ∀ (W : World) (F : List Nat), Only F w6 W → pB ∉ F → go ∉ F → W.cell? ⟨pB, 1, none⟩ = some (.slice (some ⟨go, 0, none⟩) 32 co) ∧ W.cell? ⟨go, a * 32 + 14, none⟩ = some (.int .i64 rc.kind) ∧ W.cell? ⟨go, a * 32 + 15, none⟩ = some (.int .i64 rc.rights) ∧ W.cell? ⟨go, a * 32 + 16, none⟩ = some (.int .i64 rc.obj) ∧ W.cell? ⟨go, a * 32 + 17, none⟩ = some (.int .i64 rc.badge) ∧ W.cell? ⟨go, a * 32 + 18, none⟩ = some (.int .i64 rc.guard) ∧ W.cell? ⟨go, a * 32 + 19, none⟩ = some (.int .i64 rc.bits) := fun W F q f1 f2 =>
            ⟨(q.cell (p := ⟨pB, 1, none⟩) hlp f1).trans c1, (q.cell (p := ⟨go, a * 32 + 14, none⟩) hlo f2).trans r0, (q.cell (p := ⟨go, a * 32 + 15, none⟩) hlo f2).trans r1, (q.cell (p := ⟨go, a * 32 + 16, none⟩) hlo f2).trans r2, (q.cell (p := ⟨go, a * 32 + 17, none⟩) hlo f2).trans r3, (q.cell (p := ⟨go, a * 32 + 18, none⟩) hlo f2).trans r4, (q.cell (p := ⟨go, a * 32 + 19, none⟩) hlo f2).trans r5⟩
          have HS := Lib.hid hSS
          have HG := Lib.hid hpg
          have HD6 := Lib.hid hD6
          have cC := Lib.hid fun (W : World) => code_any HK.out W
          have cW := Lib.hid fun (W : World) (h : RefM W pB gs go S1) => rwordsG_any h HD6.out.tp.ok.sok.fitG
          have ncmp : ∀ W : World, (binOp .neq 30 (.agg #[.int .i64 rc.kind, .int .i64 rc.rights, .int .i64 rc.obj, .int .i64 rc.badge, .int .i64 rc.guard, .int .i64 rc.bits]) (.agg #[.int .i64 rc.kind, .int .i64 rc.rights, .int .i64 rc.obj, .int .i64 rc.badge, .int .i64 rc.guard, .int .i64 rc.bits])).run Try.prog W = .ok (.bool false) W := fun W => cap_neq _ _ _ _ _ _ W
          have hkk : (k != k) = false := by simp
          clear hSS hpg hD6 hcO c1 r0 r1 r2 r3 r4 r5 hrc ho6 HD5 hlp hlo
          go_upto_region 40 with fail
          have oy : Only [] w6 w6.drew := (Only.refl [] w6).drewN 1
          have hQ0 := HD6.out.only0 oy
          have hS0 := HS.out _ [] oy (by simp) (by simp)
          obtain ⟨g2, hg2⟩ : ∃ x, Hid (x = w6.drew.heap.size) := ⟨_, Lib.hid rfl⟩
          go_region_held3 (fun W => W.cell? ⟨pB, 1, none⟩ = some (.slice (some ⟨go, 0, none⟩) 32 co) ∧ W.cell? ⟨go, a * 32 + 14, none⟩ = some (.int .i64 rc.kind) ∧ W.cell? ⟨go, a * 32 + 15, none⟩ = some (.int .i64 rc.rights) ∧ W.cell? ⟨go, a * 32 + 16, none⟩ = some (.int .i64 rc.obj) ∧ W.cell? ⟨go, a * 32 + 17, none⟩ = some (.int .i64 rc.badge) ∧ W.cell? ⟨go, a * 32 + 18, none⟩ = some (.int .i64 rc.guard) ∧ W.cell? ⟨go, a * 32 + 19, none⟩ = some (.int .i64 rc.bits))
            (first | exact hS3 | exact hS2 | exact hS1 | exact hS0 | fail)
            (first
              | (go_at_call 26; (with_reducible refine (cC.out _).mono ?_); rintro e w7 ⟨rfl, rfl⟩)
              | (go_at_call 7; (with_reducible refine (cW.out _ hQ0.du.ref).mono ?_); rintro e w7 ⟨he, hm7, ho7⟩; rw [← hg2.out] at he hm7; subst he; have hQ1 := hQ0.only0 ho7; have hS1 := HS.out _ [] (oy.trans ho7) (by simp) (by simp))
              | (go_at_call 27; (with_reducible refine (sameG_yes 738 738 (wordsG_len _) hQ1.du.mem.row.wds hm7.row.wds).mono ?_); rintro e w8 ⟨rfl, ho8⟩; have hQ2 := hQ1.only0 ho8; have hS2 := HS.out _ [] ((oy.trans ho7).trans ho8) (by simp) (by simp))
              | (go_at_call 28; (with_reducible refine (cRt.out _ hQ2.du.mem).mono ?_); rintro e w9 ⟨rfl, hm9, ho9⟩; have hQ3 := hQ2.read hm9 ho9; have hS3 := HS.out _ [g] ((((oy.trans ho7).trans ho8).more (S' := [g]) (fun _ _ hx => absurd hx List.not_mem_nil)).trans ho9) (fun e => (HG.out _ e).1 rfl) (fun e => (HG.out _ e).2 rfl))
              | fail)
          have HQ := Lib.hid hQ3
          clear hQ0 hS0 hQ1 hS1 hQ2 hS2 hQ3 hS3 hm7 ho7 ho8 hm9 ho9 oy hg2 ncmp cC cW cRt HS HG HD6
          clear w7 w8 w6
          go_wp2_with fail
          exact ⟨⟨m + 1, S1, by have := HLT.out; omega, by go_num, HQ.out.du, HQ.out.tp⟩, by have := HLT.out; simp [intOf]; omega⟩
          --</R1>
        · skip
          --<R2>
          as_aux_lemma =>
          have q1 : decide (0 ≤ hi) = false := by simpa using hh
          rw [q1, if_pos (by omega)] at cH
          have hh0 : hi < 0 := by omega
          go_wp2_with fail
          (with_reducible refine cH.mono ?_)
          clear cH
          rintro e w5 ⟨rfl, hm5, ho5⟩
          have HD5 := Lib.hid (HD.out.read hm5 ho5)
          have c := cR.out _ HD5.out.du.ref
          clear hm5 ho5 cR HD
          go_wp2_with fail
          (with_reducible refine c.mono ?_)
          clear c
          rintro e w6 ⟨rfl, ho6⟩
          have hD6 := HD5.out.only0 ho6
          obtain ⟨co, c1⟩ := hD6.du.ref.cObjs
          obtain ⟨Ar, cpr, hcO, -⟩ := hD6.du.ref.obj ha32
          have h0 : (0 : Int) ≤ (a : Int) := by omega
          have h1 : (a : Int) < 32 := by omega
          obtain ⟨rc, hrc⟩ : ∃ rc, (S1.ob (a : Int)).root = rc := ⟨_, rfl⟩
          have cRt := Lib.hid fun (W : World) (hm : MemP g 738 UT W (wordsG S1)) => trt_is hm hD6.tp.ok HTH.out (hD6.tp.rt _ HTH.out)
          rw [hrc] at cRt
          have r0 : w6.cell? ⟨go, a * 32 + 14, none⟩ = some (.int .i64 rc.kind) := hrc ▸ hcO 14 _ rfl
          have r1 : w6.cell? ⟨go, a * 32 + 15, none⟩ = some (.int .i64 rc.rights) := hrc ▸ hcO 15 _ rfl
          have r2 : w6.cell? ⟨go, a * 32 + 16, none⟩ = some (.int .i64 rc.obj) := hrc ▸ hcO 16 _ rfl
          have r3 : w6.cell? ⟨go, a * 32 + 17, none⟩ = some (.int .i64 rc.badge) := hrc ▸ hcO 17 _ rfl
          have r4 : w6.cell? ⟨go, a * 32 + 18, none⟩ = some (.int .i64 rc.guard) := hrc ▸ hcO 18 _ rfl
          have r5 : w6.cell? ⟨go, a * 32 + 19, none⟩ = some (.int .i64 rc.bits) := hrc ▸ hcO 19 _ rfl
          have hlp := hD6.du.ref.ltP
          have hlo := hD6.du.ref.ltO
          have hpg : ∀ k, k ∈ [g] → k ≠ pB ∧ k ≠ go := fun k hk => by
            have := hD6.du.away
            simp at hk this
            subst hk
            exact ⟨this.1, this.2.2⟩
          have hSS : ∀ (W : World) (F : List Nat), Only F w6 W → pB ∉ F → go ∉ F → W.cell? ⟨pB, 1, none⟩ = some (.slice (some ⟨go, 0, none⟩) 32 co) ∧ W.cell? ⟨go, a * 32 + 14, none⟩ = some (.int .i64 rc.kind) ∧ W.cell? ⟨go, a * 32 + 15, none⟩ = some (.int .i64 rc.rights) ∧ W.cell? ⟨go, a * 32 + 16, none⟩ = some (.int .i64 rc.obj) ∧ W.cell? ⟨go, a * 32 + 17, none⟩ = some (.int .i64 rc.badge) ∧ W.cell? ⟨go, a * 32 + 18, none⟩ = some (.int .i64 rc.guard) ∧ W.cell? ⟨go, a * 32 + 19, none⟩ = some (.int .i64 rc.bits) := fun W F q f1 f2 =>
            ⟨(q.cell (p := ⟨pB, 1, none⟩) hlp f1).trans c1, (q.cell (p := ⟨go, a * 32 + 14, none⟩) hlo f2).trans r0, (q.cell (p := ⟨go, a * 32 + 15, none⟩) hlo f2).trans r1, (q.cell (p := ⟨go, a * 32 + 16, none⟩) hlo f2).trans r2, (q.cell (p := ⟨go, a * 32 + 17, none⟩) hlo f2).trans r3, (q.cell (p := ⟨go, a * 32 + 18, none⟩) hlo f2).trans r4, (q.cell (p := ⟨go, a * 32 + 19, none⟩) hlo f2).trans r5⟩
          have HS := Lib.hid hSS
          have HG := Lib.hid hpg
          have HD6 := Lib.hid hD6
          have cC := Lib.hid fun (W : World) => code_any HK.out W
          have cW := Lib.hid fun (W : World) (h : RefM W pB gs go S1) => rwordsG_any h HD6.out.tp.ok.sok.fitG
          have ncmp : ∀ W : World, (binOp .neq 30 (.agg #[.int .i64 rc.kind, .int .i64 rc.rights, .int .i64 rc.obj, .int .i64 rc.badge, .int .i64 rc.guard, .int .i64 rc.bits]) (.agg #[.int .i64 rc.kind, .int .i64 rc.rights, .int .i64 rc.obj, .int .i64 rc.badge, .int .i64 rc.guard, .int .i64 rc.bits])).run Try.prog W = .ok (.bool false) W := fun W => cap_neq _ _ _ _ _ _ W
          have hkk : (k != k) = false := by simp
          clear hSS hpg hD6 hcO c1 r0 r1 r2 r3 r4 r5 hrc ho6 HD5 hlp hlo
          go_upto_region 40 with fail
          have oy : Only [] w6 w6.drew := (Only.refl [] w6).drewN 1
          have hQ0 := HD6.out.only0 oy
          have hS0 := HS.out _ [] oy (by simp) (by simp)
          obtain ⟨g2, hg2⟩ : ∃ x, Hid (x = w6.drew.heap.size) := ⟨_, Lib.hid rfl⟩
          have q2 : decide (0 ≤ hi) = false := decide_eq_false (by omega)
          have q3 : ¬ 0 ≤ hi := by omega
          refine wp_region_held_drew (S := fun W => W.cell? ⟨pB, 1, none⟩ = some (.slice (some ⟨go, 0, none⟩) 32 co) ∧ W.cell? ⟨go, a * 32 + 14, none⟩ = some (.int .i64 rc.kind) ∧ W.cell? ⟨go, a * 32 + 15, none⟩ = some (.int .i64 rc.rights) ∧ W.cell? ⟨go, a * 32 + 16, none⟩ = some (.int .i64 rc.obj) ∧ W.cell? ⟨go, a * 32 + 17, none⟩ = some (.int .i64 rc.badge) ∧ W.cell? ⟨go, a * 32 + 18, none⟩ = some (.int .i64 rc.guard) ∧ W.cell? ⟨go, a * 32 + 19, none⟩ = some (.int .i64 rc.bits)) (by kernel_rfl) hS0 (fun hHeld => ?_)
          refine wpAnyH_take (i := 0) (v := ?_) rfl (by kernel_rfl) (by kernel_rfl) (by kernel_rfl) (fun _ _ _ h => h) (Or.inl ⟨by rfl, ?_⟩) (by assumption) ?_
          rotate_left
          · intro w hSw
            try dsimp only at hSw
            go_simp
            all_goals with_reducible rfl
          simp only [List.getElem_toArray, List.getElem_cons_succ, List.getElem_cons_zero, Act.put, List.setIfInBounds_toArray, List.set_cons_zero, List.set_cons_succ]
          refine wpAnyH_take (i := 2) (v := ?_) rfl (by kernel_rfl) (by kernel_rfl) (by kernel_rfl) (fun _ _ _ h => h) (Or.inl ⟨by rfl, ?_⟩) (by assumption) ?_
          rotate_left
          · intro w hSw
            try dsimp only at hSw
            go_simp
            all_goals with_reducible rfl
          simp only [List.getElem_toArray, List.getElem_cons_succ, List.getElem_cons_zero, Act.put, List.setIfInBounds_toArray, List.set_cons_zero, List.set_cons_succ]
          refine wpAnyH_ready (rs := [1]) (by kernel_rfl) (by simp) ?_
          refine AllReadyH.cons rfl (fun K1 hK1 => ?_) AllReadyH.nil
          · go_simp
            go_at_call 26
            (with_reducible refine (cC.out _).mono ?_)
            rintro e w7 ⟨rfl, rfl⟩
            refine hK1.out _ _ hS0 (fun hHeld1 => ?_)
            clear hK1
            clear K1
            try simp only [List.getElem_toArray, List.getElem_cons_succ, List.getElem_cons_zero, Act.put, List.setIfInBounds_toArray, List.set_cons_zero, List.set_cons_succ]
            refine wpAnyH_take (i := 3) (v := ?_) rfl (by kernel_rfl) (by kernel_rfl) (by kernel_rfl) (fun _ _ _ h => h) (Or.inl ⟨by rfl, ?_⟩) (by assumption) ?_
            rotate_left
            · intro w hSw
              try dsimp only at hSw
              go_simp
              all_goals with_reducible rfl
            simp only [List.getElem_toArray, List.getElem_cons_succ, List.getElem_cons_zero, Act.put, List.setIfInBounds_toArray, List.set_cons_zero, List.set_cons_succ]
            refine wpAnyH_take (i := 4) (v := ?_) rfl (by kernel_rfl) (by kernel_rfl) (by kernel_rfl) (fun _ _ _ h => h) (Or.inl ⟨by rfl, ?_⟩) (by assumption) ?_
            rotate_left
            · intro w hSw
              try dsimp only at hSw
              go_simp
              all_goals with_reducible rfl
            simp only [List.getElem_toArray, List.getElem_cons_succ, List.getElem_cons_zero, Act.put, List.setIfInBounds_toArray, List.set_cons_zero, List.set_cons_succ]
            refine wpAnyH_take (i := 5) (v := ?_) rfl (by kernel_rfl) (by kernel_rfl) (by kernel_rfl) (fun _ _ _ h => h) (Or.inl ⟨by rfl, ?_⟩) (by assumption) ?_
            rotate_left
            · intro w hSw
              try dsimp only at hSw
              go_simp
              all_goals with_reducible rfl
            simp only [List.getElem_toArray, List.getElem_cons_succ, List.getElem_cons_zero, Act.put, List.setIfInBounds_toArray, List.set_cons_zero, List.set_cons_succ]
            refine wpAnyH_take (i := 6) (v := ?_) rfl (by kernel_rfl) (by kernel_rfl) (by kernel_rfl) (fun _ _ _ h => h) (Or.inl ⟨by rfl, ?_⟩) (by assumption) ?_
            rotate_left
            · intro w hSw
              try dsimp only at hSw
              go_simp
              all_goals with_reducible rfl
            simp only [List.getElem_toArray, List.getElem_cons_succ, List.getElem_cons_zero, Act.put, List.setIfInBounds_toArray, List.set_cons_zero, List.set_cons_succ]
            refine wpAnyH_ready (rs := [7]) (by kernel_rfl) (by simp) ?_
            refine AllReadyH.cons rfl (fun K2 hK2 => ?_) AllReadyH.nil
            · go_simp
              go_at_call 7
              (with_reducible refine (cW.out _ hQ0.du.ref).mono ?_)
              rintro e w7 ⟨he, hm7, ho7⟩
              rw [← hg2.out] at he hm7
              subst he
              have hQ1 := hQ0.only0 ho7
              have hS1 := HS.out _ [] (oy.trans ho7) (by simp) (by simp)
              refine hK2.out _ _ hS1 (fun hHeld2 => ?_)
              clear hK2
              clear K2
              try simp only [List.getElem_toArray, List.getElem_cons_succ, List.getElem_cons_zero, Act.put, List.setIfInBounds_toArray, List.set_cons_zero, List.set_cons_succ]
              refine wpAnyH_ready (rs := [8]) (by kernel_rfl) (by simp) ?_
              refine AllReadyH.cons rfl (fun K3 hK3 => ?_) AllReadyH.nil
              · go_simp
                go_at_call 27
                (with_reducible refine (sameG_yes 738 738 (wordsG_len _) hQ1.du.mem.row.wds hm7.row.wds).mono ?_)
                rintro e w8 ⟨rfl, ho8⟩
                have hQ2 := hQ1.only0 ho8
                have hS2 := HS.out _ [] ((oy.trans ho7).trans ho8) (by simp) (by simp)
                refine hK3.out _ _ hS2 (fun hHeld3 => ?_)
                clear hK3
                clear K3
                try simp only [List.getElem_toArray, List.getElem_cons_succ, List.getElem_cons_zero, Act.put, List.setIfInBounds_toArray, List.set_cons_zero, List.set_cons_succ]
                refine wpAnyH_take (i := 9) (v := ?_) rfl (by kernel_rfl) (by kernel_rfl) (by kernel_rfl) (fun _ _ _ h => h) (Or.inl ⟨by rfl, ?_⟩) (by assumption) ?_
                rotate_left
                · intro w hSw
                  try dsimp only at hSw
                  go_simp
                  all_goals with_reducible rfl
                simp only [List.getElem_toArray, List.getElem_cons_succ, List.getElem_cons_zero, Act.put, List.setIfInBounds_toArray, List.set_cons_zero, List.set_cons_succ]
                refine wpAnyH_take (i := 10) (v := ?_) rfl (by kernel_rfl) (by kernel_rfl) (by kernel_rfl) (fun _ _ _ h => h) (Or.inl ⟨by rfl, ?_⟩) (by assumption) ?_
                rotate_left
                · intro w hSw
                  try dsimp only at hSw
                  go_simp
                  all_goals with_reducible rfl
                simp only [List.getElem_toArray, List.getElem_cons_succ, List.getElem_cons_zero, Act.put, List.setIfInBounds_toArray, List.set_cons_zero, List.set_cons_succ]
                refine wpAnyH_take (i := 11) (v := ?_) rfl (by kernel_rfl) (by kernel_rfl) (by kernel_rfl) (fun _ _ _ h => h) (Or.inl ⟨by rfl, ?_⟩) (by assumption) ?_
                rotate_left
                · intro w hSw
                  try dsimp only at hSw
                  go_simp
                  all_goals with_reducible rfl
                simp only [List.getElem_toArray, List.getElem_cons_succ, List.getElem_cons_zero, Act.put, List.setIfInBounds_toArray, List.set_cons_zero, List.set_cons_succ]
                refine wpAnyH_take (i := 12) (v := ?_) rfl (by kernel_rfl) (by kernel_rfl) (by kernel_rfl) (fun _ _ _ h => h) (Or.inl ⟨by rfl, ?_⟩) (by assumption) ?_
                rotate_left
                · intro w hSw
                  try dsimp only at hSw
                  go_simp
                  all_goals with_reducible rfl
                simp only [List.getElem_toArray, List.getElem_cons_succ, List.getElem_cons_zero, Act.put, List.setIfInBounds_toArray, List.set_cons_zero, List.set_cons_succ]
                refine wpAnyH_take (i := 13) (v := ?_) rfl (by kernel_rfl) (by kernel_rfl) (by kernel_rfl) (fun _ _ _ h => h) (Or.inl ⟨by rfl, ?_⟩) (by assumption) ?_
                rotate_left
                · intro w hSw
                  try dsimp only at hSw
                  go_simp
                  all_goals with_reducible rfl
                simp only [List.getElem_toArray, List.getElem_cons_succ, List.getElem_cons_zero, Act.put, List.setIfInBounds_toArray, List.set_cons_zero, List.set_cons_succ]
                refine wpAnyH_take (i := 14) (v := ?_) rfl (by kernel_rfl) (by kernel_rfl) (by kernel_rfl) (fun _ _ _ h => h) (Or.inl ⟨by rfl, ?_⟩) (by assumption) ?_
                rotate_left
                · intro w hSw
                  try dsimp only at hSw
                  go_simp
                  all_goals with_reducible rfl
                simp only [List.getElem_toArray, List.getElem_cons_succ, List.getElem_cons_zero, Act.put, List.setIfInBounds_toArray, List.set_cons_zero, List.set_cons_succ]
                refine wpAnyH_take (i := 15) (v := ?_) rfl (by kernel_rfl) (by kernel_rfl) (by kernel_rfl) (fun _ _ _ h => h) (Or.inl ⟨by rfl, ?_⟩) (by assumption) ?_
                rotate_left
                · intro w hSw
                  try dsimp only at hSw
                  go_simp
                  all_goals with_reducible rfl
                simp only [List.getElem_toArray, List.getElem_cons_succ, List.getElem_cons_zero, Act.put, List.setIfInBounds_toArray, List.set_cons_zero, List.set_cons_succ]
                refine wpAnyH_take (i := 16) (v := ?_) rfl (by kernel_rfl) (by kernel_rfl) (by kernel_rfl) (fun _ _ _ h => h) (Or.inl ⟨by rfl, ?_⟩) (by assumption) ?_
                rotate_left
                · intro w hSw
                  try dsimp only at hSw
                  go_simp
                  all_goals with_reducible rfl
                simp only [List.getElem_toArray, List.getElem_cons_succ, List.getElem_cons_zero, Act.put, List.setIfInBounds_toArray, List.set_cons_zero, List.set_cons_succ]
                refine wpAnyH_take (i := 17) (v := ?_) rfl (by kernel_rfl) (by kernel_rfl) (by kernel_rfl) (fun _ _ _ h => h) (Or.inl ⟨by rfl, ?_⟩) (by assumption) ?_
                rotate_left
                · intro w hSw
                  try dsimp only at hSw
                  go_simp
                  all_goals with_reducible rfl
                simp only [List.getElem_toArray, List.getElem_cons_succ, List.getElem_cons_zero, Act.put, List.setIfInBounds_toArray, List.set_cons_zero, List.set_cons_succ]
                refine wpAnyH_take (i := 18) (v := ?_) rfl (by kernel_rfl) (by kernel_rfl) (by kernel_rfl) (fun _ _ _ h => h) (Or.inl ⟨by rfl, ?_⟩) (by assumption) ?_
                rotate_left
                · intro w hSw
                  try dsimp only at hSw
                  go_simp
                  all_goals with_reducible rfl
                simp only [List.getElem_toArray, List.getElem_cons_succ, List.getElem_cons_zero, Act.put, List.setIfInBounds_toArray, List.set_cons_zero, List.set_cons_succ]
                refine wpAnyH_take (i := 19) (v := ?_) rfl (by kernel_rfl) (by kernel_rfl) (by kernel_rfl) (fun _ _ _ h => h) (Or.inl ⟨by rfl, ?_⟩) (by assumption) ?_
                rotate_left
                · intro w hSw
                  try dsimp only at hSw
                  go_simp
                  all_goals with_reducible rfl
                simp only [List.getElem_toArray, List.getElem_cons_succ, List.getElem_cons_zero, Act.put, List.setIfInBounds_toArray, List.set_cons_zero, List.set_cons_succ]
                refine wpAnyH_take (i := 20) (v := undef) rfl (by kernel_rfl) (by kernel_rfl) (by kernel_rfl) (fun _ _ _ h => h) (Or.inr ⟨by rfl, rfl⟩) (by assumption) ?_
                simp only [List.getElem_toArray, List.getElem_cons_succ, List.getElem_cons_zero, Act.put, List.setIfInBounds_toArray, List.set_cons_zero, List.set_cons_succ]
                refine wpAnyH_take (i := 21) (v := undef) rfl (by kernel_rfl) (by kernel_rfl) (by kernel_rfl) (fun _ _ _ h => h) (Or.inr ⟨by rfl, rfl⟩) (by assumption) ?_
                simp only [List.getElem_toArray, List.getElem_cons_succ, List.getElem_cons_zero, Act.put, List.setIfInBounds_toArray, List.set_cons_zero, List.set_cons_succ]
                refine wpAnyH_take (i := 22) (v := undef) rfl (by kernel_rfl) (by kernel_rfl) (by kernel_rfl) (fun _ _ _ h => h) (Or.inr ⟨by rfl, rfl⟩) (by assumption) ?_
                simp only [List.getElem_toArray, List.getElem_cons_succ, List.getElem_cons_zero, Act.put, List.setIfInBounds_toArray, List.set_cons_zero, List.set_cons_succ]
                refine wpAnyH_take (i := 23) (v := ?_) rfl (by kernel_rfl) (by kernel_rfl) (by kernel_rfl) (fun _ _ _ h => h) (Or.inl ⟨by rfl, ?_⟩) (by assumption) ?_
                rotate_left
                · intro w hSw
                  try dsimp only at hSw
                  go_simp
                  all_goals with_reducible rfl
                simp only [List.getElem_toArray, List.getElem_cons_succ, List.getElem_cons_zero, Act.put, List.setIfInBounds_toArray, List.set_cons_zero, List.set_cons_succ]
                refine wpAnyH_take (i := 24) (v := ?_) rfl (by kernel_rfl) (by kernel_rfl) (by kernel_rfl) (fun _ _ _ h => h) (Or.inl ⟨by rfl, ?_⟩) (by assumption) ?_
                rotate_left
                · intro w hSw
                  try dsimp only at hSw
                  go_simp
                  all_goals with_reducible rfl
                simp only [List.getElem_toArray, List.getElem_cons_succ, List.getElem_cons_zero, Act.put, List.setIfInBounds_toArray, List.set_cons_zero, List.set_cons_succ]
                refine wpAnyH_take (i := 25) (v := ?_) rfl (by kernel_rfl) (by kernel_rfl) (by kernel_rfl) (fun _ _ _ h => h) (Or.inl ⟨by rfl, ?_⟩) (by assumption) ?_
                rotate_left
                · intro w hSw
                  try dsimp only at hSw
                  go_simp
                  all_goals with_reducible rfl
                simp only [List.getElem_toArray, List.getElem_cons_succ, List.getElem_cons_zero, Act.put, List.setIfInBounds_toArray, List.set_cons_zero, List.set_cons_succ]
                refine wpAnyH_take (i := 26) (v := ?_) rfl (by kernel_rfl) (by kernel_rfl) (by kernel_rfl) (fun _ _ _ h => h) (Or.inl ⟨by rfl, ?_⟩) (by assumption) ?_
                rotate_left
                · intro w hSw
                  try dsimp only at hSw
                  go_simp
                  all_goals with_reducible rfl
                simp only [List.getElem_toArray, List.getElem_cons_succ, List.getElem_cons_zero, Act.put, List.setIfInBounds_toArray, List.set_cons_zero, List.set_cons_succ]
                refine wpAnyH_take (i := 27) (v := ?_) rfl (by kernel_rfl) (by kernel_rfl) (by kernel_rfl) (fun _ _ _ h => h) (Or.inl ⟨by rfl, ?_⟩) (by assumption) ?_
                rotate_left
                · intro w hSw
                  try dsimp only at hSw
                  go_simp
                  all_goals with_reducible rfl
                simp only [List.getElem_toArray, List.getElem_cons_succ, List.getElem_cons_zero, Act.put, List.setIfInBounds_toArray, List.set_cons_zero, List.set_cons_succ]
                refine wpAnyH_take (i := 28) (v := ?_) rfl (by kernel_rfl) (by kernel_rfl) (by kernel_rfl) (fun _ _ _ h => h) (Or.inl ⟨by rfl, ?_⟩) (by assumption) ?_
                rotate_left
                · intro w hSw
                  try dsimp only at hSw
                  go_simp
                  all_goals with_reducible rfl
                simp only [List.getElem_toArray, List.getElem_cons_succ, List.getElem_cons_zero, Act.put, List.setIfInBounds_toArray, List.set_cons_zero, List.set_cons_succ]
                refine wpAnyH_take (i := 30) (v := ?_) rfl (by kernel_rfl) (by kernel_rfl) (by kernel_rfl) (fun _ _ _ h => h) (Or.inl ⟨by rfl, ?_⟩) (by assumption) ?_
                rotate_left
                · intro w hSw
                  try dsimp only at hSw
                  go_simp
                  all_goals with_reducible rfl
                simp only [List.getElem_toArray, List.getElem_cons_succ, List.getElem_cons_zero, Act.put, List.setIfInBounds_toArray, List.set_cons_zero, List.set_cons_succ]
                refine wpAnyH_take (i := 31) (v := ?_) rfl (by kernel_rfl) (by kernel_rfl) (by kernel_rfl) (fun _ _ _ h => h) (Or.inl ⟨by rfl, ?_⟩) (by assumption) ?_
                rotate_left
                · intro w hSw
                  try dsimp only at hSw
                  go_simp
                  all_goals with_reducible rfl
                simp only [List.getElem_toArray, List.getElem_cons_succ, List.getElem_cons_zero, Act.put, List.setIfInBounds_toArray, List.set_cons_zero, List.set_cons_succ]
                refine wpAnyH_take (i := 32) (v := ?_) rfl (by kernel_rfl) (by kernel_rfl) (by kernel_rfl) (fun _ _ _ h => h) (Or.inl ⟨by rfl, ?_⟩) (by assumption) ?_
                rotate_left
                · intro w hSw
                  try dsimp only at hSw
                  go_simp
                  all_goals with_reducible rfl
                simp only [List.getElem_toArray, List.getElem_cons_succ, List.getElem_cons_zero, Act.put, List.setIfInBounds_toArray, List.set_cons_zero, List.set_cons_succ]
                refine wpAnyH_take (i := 33) (v := ?_) rfl (by kernel_rfl) (by kernel_rfl) (by kernel_rfl) (fun _ _ _ h => h) (Or.inl ⟨by rfl, ?_⟩) (by assumption) ?_
                rotate_left
                · intro w hSw
                  try dsimp only at hSw
                  go_simp
                  all_goals with_reducible rfl
                simp only [List.getElem_toArray, List.getElem_cons_succ, List.getElem_cons_zero, Act.put, List.setIfInBounds_toArray, List.set_cons_zero, List.set_cons_succ]
                refine wpAnyH_take (i := 34) (v := ?_) rfl (by kernel_rfl) (by kernel_rfl) (by kernel_rfl) (fun _ _ _ h => h) (Or.inl ⟨by rfl, ?_⟩) (by assumption) ?_
                rotate_left
                · intro w hSw
                  try dsimp only at hSw
                  go_simp
                  all_goals with_reducible rfl
                simp only [List.getElem_toArray, List.getElem_cons_succ, List.getElem_cons_zero, Act.put, List.setIfInBounds_toArray, List.set_cons_zero, List.set_cons_succ]
                refine wpAnyH_take (i := 35) (v := ?_) rfl (by kernel_rfl) (by kernel_rfl) (by kernel_rfl) (fun _ _ _ h => h) (Or.inl ⟨by rfl, ?_⟩) (by assumption) ?_
                rotate_left
                · intro w hSw
                  try dsimp only at hSw
                  go_simp
                  all_goals with_reducible rfl
                simp only [List.getElem_toArray, List.getElem_cons_succ, List.getElem_cons_zero, Act.put, List.setIfInBounds_toArray, List.set_cons_zero, List.set_cons_succ]
                refine wpAnyH_take (i := 36) (v := ?_) rfl (by kernel_rfl) (by kernel_rfl) (by kernel_rfl) (fun _ _ _ h => h) (Or.inl ⟨by rfl, ?_⟩) (by assumption) ?_
                rotate_left
                · intro w hSw
                  try dsimp only at hSw
                  go_simp
                  all_goals with_reducible rfl
                simp only [List.getElem_toArray, List.getElem_cons_succ, List.getElem_cons_zero, Act.put, List.setIfInBounds_toArray, List.set_cons_zero, List.set_cons_succ]
                refine wpAnyH_take (i := 37) (v := ?_) rfl (by kernel_rfl) (by kernel_rfl) (by kernel_rfl) (fun _ _ _ h => h) (Or.inl ⟨by rfl, ?_⟩) (by assumption) ?_
                rotate_left
                · intro w hSw
                  try dsimp only at hSw
                  go_simp
                  all_goals with_reducible rfl
                simp only [List.getElem_toArray, List.getElem_cons_succ, List.getElem_cons_zero, Act.put, List.setIfInBounds_toArray, List.set_cons_zero, List.set_cons_succ]
                refine wpAnyH_ready (rs := [29]) (by kernel_rfl) (by simp) ?_
                refine AllReadyH.cons rfl (fun K4 hK4 => ?_) AllReadyH.nil
                · go_simp
                  go_at_call 28
                  (with_reducible refine (cRt.out _ hQ2.du.mem).mono ?_)
                  rintro e w9 ⟨rfl, hm9, ho9⟩
                  have hQ3 := hQ2.read hm9 ho9
                  have hS3 := HS.out _ [g] ((((oy.trans ho7).trans ho8).more (S' := [g]) (fun _ _ hx => absurd hx List.not_mem_nil)).trans ho9) (fun e => (HG.out _ e).1 rfl) (fun e => (HG.out _ e).2 rfl)
                  refine hK4.out _ _ hS3 (fun hHeld4 => ?_)
                  clear hK4
                  clear K4
                  try simp only [List.getElem_toArray, List.getElem_cons_succ, List.getElem_cons_zero, Act.put, List.setIfInBounds_toArray, List.set_cons_zero, List.set_cons_succ]
                  refine wpAnyH_take (i := 38) (v := ?_) rfl (by kernel_rfl) (by kernel_rfl) (by kernel_rfl) (fun _ _ _ h => h) (Or.inl ⟨by rfl, ?_⟩) (by assumption) ?_
                  rotate_left
                  · intro w hSw
                    try dsimp only at hSw
                    go_simp
                    all_goals with_reducible rfl
                  simp only [List.getElem_toArray, List.getElem_cons_succ, List.getElem_cons_zero, Act.put, List.setIfInBounds_toArray, List.set_cons_zero, List.set_cons_succ]
                  refine wpAnyH_take (i := 39) (v := ?_) rfl (by kernel_rfl) (by kernel_rfl) (by kernel_rfl) (fun _ _ _ h => h) (Or.inl ⟨by rfl, ?_⟩) (by assumption) ?_
                  rotate_left
                  · intro w hSw
                    try dsimp only at hSw
                    go_simp
                    all_goals with_reducible rfl
                  simp only [List.getElem_toArray, List.getElem_cons_succ, List.getElem_cons_zero, Act.put, List.setIfInBounds_toArray, List.set_cons_zero, List.set_cons_succ]
                  refine wpAnyH_done (by kernel_rfl) ?_ _
                  have HQ := Lib.hid hQ3
                  clear hHeld hHeld1 hHeld2 hHeld3 hHeld4 hQ0 hS0 hQ1 hS1 hQ2 hS2 hQ3 hS3 hm7 ho7 ho8 hm9 ho9 oy hg2 ncmp cC cW cRt HS HG HD6
                  clear w7 w8 w6
                  go_wp2_with fail
                  exact ⟨⟨m + 1, S1, by have := HLT.out; omega, by go_num, HQ.out.du, HQ.out.tp⟩, by have := HLT.out; simp [intOf]; omega⟩
          --</R2>
        --</R>
    · skip
      --<E>
      as_aux_lemma =>
      obtain rfl : m = LL.length := by omega
      have hlt' : ¬ (LL.length : Int) < (LL.length : Int) := by omega
      have cA := trt_bad hE.mem (t := 32) (by omega)
      have ncmp : ∀ W : World, (binOp .eql 30 (.agg #[.int .i64 0, .int .i64 0, .int .i64 0, .int .i64 0, .int .i64 0, .int .i64 0]) (.agg #[.int .i64 0, .int .i64 0, .int .i64 0, .int .i64 0, .int .i64 0, .int .i64 0])).run Try.prog W = .ok (.bool true) W := fun W => cap_eql _ _ _ _ _ _ W
      have HE := Lib.hid hE
      clear hE hT hml hm
      go_wp2_with fail
      (with_reducible refine cA.mono ?_)
      clear cA
      rintro e w5 ⟨rfl, hm5, ho5⟩
      have HE5 := Lib.hid (HE.out.read hm5 ho5)
      clear hm5 ho5 HE
      go_wp2_with fail
      go_ret
      exact ⟨rfl, HE5.out.only⟩
      --</E>
end Go.Proofs.Ytdkjfalhalepgaa
