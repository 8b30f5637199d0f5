/- WordPlays's walk: the store and the reference's, side by side (layer 1). -/
import Derived.Test.YtcigkgbbkgjoiaaWordU
import Derived.Test.YtcigkgbbkgjoiaaRefA
import Derived.Test.YtcigkgbbkgjoiaaDeeds
import Derived.Deep.DeepCutAuto
import Derived.Deep.CutBlock
import Derived.Deep.LoopGhost
import Derived.Outline
namespace Go.Proofs.Ytcigkgbbkgjoiaa
open Go.RowKit

theorem code_any (c : Int) (w : World) (h1 : 0 ≤ c) (h2 : c ≤ 14) : Calls Try.prog 17 #[codeV c] w fun e w' => e = .returned (.int .i64 c) ∧ w = w' := by
  by_cases h : c = 0
  · subst h; exact code_nil w
  · rw [codeV_n h]; exact code_some c w (by omega) h2

structure Duo (w wx : World) (p g q h : Nat) (s : St) : Prop where
  a : StoreAt wx WT p g s
  b : StoreAt wx RT q h s
  ne : g ≠ h
  ho : Only [] w wx
theorem Duo.only {w wx w' : World} {p g q h : Nat} {s : St} (d : Duo w wx p g q h s) (ho : Only [] wx w') : Duo w w' p g q h s :=
  ⟨d.a.only ho (by simp) (by simp), d.b.only ho (by simp) (by simp), d.ne, d.ho.trans ho⟩
theorem Duo.gq {w wx : World} {p g q h : Nat} {s : St} (d : Duo w wx p g q h s) : q ≠ g := d.b.head.ne_ d.a.body (by decide)
theorem Duo.ph {w wx : World} {p g q h : Nat} {s : St} (d : Duo w wx p g q h s) : p ≠ h := d.a.head.ne_ d.b.body (by decide)
theorem Duo.mid {w wx w' : World} {p g q h : Nat} {s : St} (d : Duo w wx p g q h s) (ho : Only [g] wx w') : StoreAt w' RT q h s :=
  d.b.only ho (by simpa using d.gq) (by simpa using d.ne.symm)
theorem Duo.step {w wx w' w'' : World} {p g q h : Nat} {s s' : St} (d : Duo w wx p g q h s) (ha : StoreAt w' WT p g s') (ho : Only [g] wx w') (hb : StoreAt w'' RT q h s') (ho' : Only [h] w' w'') (hg : w.heap.size ≤ g) (hh : w.heap.size ≤ h) : Duo w w'' p g q h s' :=
  ⟨ha.only ho' (by simpa using d.ph) (by simpa using d.ne), hb, d.ne, (d.ho.then ho (by simpa using hg)).then ho' (by simpa using hh)⟩

theorem rsv_code (s : St) (i ver mark : Int) : 0 ≤ (rsvI s i ver mark).1 ∧ (rsvI s i ver mark).1 ≤ 14 := by
  unfold rsvI; split
  · simp
  · repeat' split
    all_goals simp
theorem rel_code (s : St) (i mark : Int) : 0 ≤ (relI s i mark).1 ∧ (relI s i mark).1 ≤ 14 := by
  unfold relI; split
  · simp
  · repeat' split
    all_goals simp
theorem put_code (s : St) (i mark v : Int) : 0 ≤ (putI s i mark v).1 ∧ (putI s i mark v).1 ≤ 14 := by
  unfold putI; split
  · simp
  · repeat' split
    all_goals simp
theorem set_code (s : St) (i v : Int) : 0 ≤ (setI s i v).1 ∧ (setI s i v).1 ≤ 14 := by
  unfold setI; split
  · simp
  · repeat' split
    all_goals simp
theorem rsv_len (s : St) (i ver mark : Int) : (rsvI s i ver mark).2.L.length = s.L.length ∧ (rsvI s i ver mark).2.lim = s.lim := by
  unfold rsvI; split
  · simp
  · repeat' split
    all_goals simp [St.put]
theorem rel_len (s : St) (i mark : Int) : (relI s i mark).2.L.length = s.L.length ∧ (relI s i mark).2.lim = s.lim := by
  unfold relI; split
  · simp
  · repeat' split
    all_goals simp [St.put]
theorem put_len (s : St) (i mark v : Int) : (putI s i mark v).2.L.length = s.L.length ∧ (putI s i mark v).2.lim = s.lim := by
  unfold putI; split
  · simp
  · repeat' split
    all_goals simp [St.put]
theorem set_len (s : St) (i v : Int) : (setI s i v).2.L.length = s.L.length ∧ (setI s i v).2.lim = s.lim := by
  unfold setI; split
  · simp
  · repeat' split
    all_goals simp [St.put]

def nowB (d : D) (n : Nat) : Bool := d.now && decide (0 ≤ d.i) && decide (d.i < n)

def PRel (w : World) (p g q h n : Nat) (lim : Int) (L : List D) (gk : Nat) (i : Value) (wr : World) : Prop :=
  ∃ (k : Nat) (s : St), k ≤ L.length ∧ gk = L.length - k ∧ i = .int .i64 k ∧ s.L.length = n ∧ s.lim = lim ∧ Duo w wr p g q h s

set_option maxRecDepth 100000 in
set_option maxHeartbeats 4000000 in
theorem plays_any (n lim : Int) (A : Option Addr) (L : List D) (cap : Nat) (hl : (Lit.int .u32 lim).wf = true) (w : World) (hL : Deeds w A L) :
    Calls Try.prog 3 #[.int .i64 n, .int .u32 lim, .slice A L.length cap] w fun e w' => e = .returned (.bool true) ∧ Only [] w w' := by
  have hl' : 0 ≤ lim ∧ lim ≤ 4294967295 := by simpa [Lit.wf, IntKind.min, IntKind.max, IntKind.signed, IntKind.bits] using hl
  obtain ⟨hl0, hl1⟩ := hl'
  have hq := fun (c a : Int) (W : World) => Lib.run_eql_iface_int (P := Try.prog) W (t := 27) (tx := 30) (k := .i64) c a Try.underlying27 (by kernel_rfl) Try.underlying30
  by_cases hbad : n < 1 ∨ 1024 < n ∨ lim = 0
  · by_cases h1 : n < 1
    · go_enter Try.func3, Try.ntmps3
      go_wp2_with fail
      (with_reducible refine (up_any _).mono ?_); rintro e w1 ⟨rfl, ho1⟩
      go_wp2_with fail
      (with_reducible refine (new_no _ _ _ hbad).mono ?_); rintro e w2 ⟨rfl, rfl⟩
      go_wp2_with fail
      go_ret
      exact ⟨rfl, ho1⟩
    · by_cases h2 : 1024 < n
      · go_enter Try.func3, Try.ntmps3
        go_wp2_with fail
        (with_reducible refine (up_any _).mono ?_); rintro e w1 ⟨rfl, ho1⟩
        go_wp2_with fail
        (with_reducible refine (new_no _ _ _ hbad).mono ?_); rintro e w2 ⟨rfl, rfl⟩
        go_wp2_with fail
        go_ret
        exact ⟨rfl, ho1⟩
      · obtain rfl : lim = 0 := by omega
        go_enter Try.func3, Try.ntmps3
        go_wp2_with fail
        (with_reducible refine (up_any _).mono ?_); rintro e w1 ⟨rfl, ho1⟩
        go_wp2_with fail
        (with_reducible refine (new_no _ _ _ (by omega)).mono ?_); rintro e w2 ⟨rfl, rfl⟩
        go_wp2_with fail
        go_ret
        exact ⟨rfl, ho1⟩
  · have hlim : 1 ≤ lim := by omega
    have hlb : (lim == 0) = false := by simp; omega
    have hn0 : 1 ≤ n := by omega
    have hn1 : n ≤ 1024 := by omega
    obtain ⟨m, rfl⟩ : ∃ m : Nat, n = (m : Int) := ⟨n.toNat, by omega⟩
    have hmk := Lib.hid fun W : World => run_makeN (P := Try.prog) (t := 32) (C.mk 0 0 0) infoCell Try.underlying32 C.row_len (by omega) rfl .i64 .i64 m m (by omega) (by omega) (by omega) (by omega) W
    simp only [Int.toNat_natCast] at hmk
    go_enter Try.func3, Try.ntmps3
    go_wp2_with fail
    (with_reducible refine (up_any _).mono ?_); rintro e w1 ⟨rfl, ho1⟩
    go_wp2_with fail
    (with_reducible refine (new_ok _ _ _ (by omega) (by omega) hlim hl1).mono ?_); rintro e w2 ⟨p, g, rfl, hp, hg, hs, ho2⟩
    by_cases hlong : 120 < L.length
    · go_wp2_with fail
      go_ret
      exact ⟨rfl, ho1.trans ho2⟩
    · go_wp2_with fail
      rw [hmk.out]
      go_wp2_with fail
      have hd0 : Duo w ((w2.alloc (.cells (flat C.row (List.replicate m (C.mk 0 0 0))) 39)).alloc (.cells #[.slice (some ⟨w2.heap.size, 0, none⟩) m m, .int .u32 lim] RT)) p g (w2.heap.size + 1) w2.heap.size (zero m lim) := by
        refine ⟨hs.only (((Only.refl [] _).alloc _).alloc _) (by simp) (by simp), ⟨?_, ?_, ?_⟩, ?_, (((ho1.trans ho2).alloc _).alloc _)⟩
        · have q := Blk.new (w2.alloc (.cells (flat C.row (List.replicate m (C.mk 0 0 0))) 39)) RT #[.slice (some ⟨w2.heap.size, 0, none⟩) m m, .int .u32 lim]
          simpa [zero] using q
        · exact (Blk.new w2 _ _).alloc _
        · exact hs.ok
        · have := hs.body.lt; omega
      clear hmk hs
      have hgw : w.heap.size ≤ g := by have := ho1.size; omega
      have hhw : w.heap.size ≤ w2.heap.size := by have := ho1.size; have := ho2.size; omega
      go_loopg [11] L.length (fun gk i wr => PRel w p g (w2.heap.size + 1) w2.heap.size m lim L gk i wr)
      case atStart => exact ⟨0, _, by omega, rfl, rfl, by simp [zero], rfl, hd0⟩
      case round =>
        clear hd0
        generalize w2.heap.size + 1 = q at *
        generalize w2.heap.size = h at *
        clear ho2 ho1
        obtain ⟨k, s, hk, rfl, rfl, hsn, hsl, hdr⟩ := hrel
        by_cases hlt : k < L.length
        · obtain ⟨d, hd⟩ : ∃ d, L[k]? = some d := ⟨_, List.getElem?_eq_getElem hlt⟩
          obtain ⟨b, off, rfl, hb, hdc⟩ := (hL.only hdr.ho).at_ k d hd
          have d0 : wr.cell? ⟨b, off + k * 6, none⟩ = _ := hdc 0 _ rfl
          have d1 : wr.cell? ⟨b, off + k * 6 + 1, none⟩ = _ := hdc 1 _ rfl
          have d2 : wr.cell? ⟨b, off + k * 6 + 2, none⟩ = _ := hdc 2 _ rfl
          have d3 : wr.cell? ⟨b, off + k * 6 + 3, none⟩ = _ := hdc 3 _ rfl
          have d4 : wr.cell? ⟨b, off + k * 6 + 4, none⟩ = _ := hdc 4 _ rfl
          have d5 : wr.cell? ⟨b, off + k * 6 + 5, none⟩ = _ := hdc 5 _ rfl
          clear hdc
          have hok := hL.ok k d hd
          have HSN := Lib.hid hsn
          have HSL := Lib.hid hsl
          clear hsn hsl
          have hX0 := Blk.new wr 37 d.arr
          have hD0 := hdr.only ((Only.refl [] wr).alloc (.cells d.arr 37))
          have hX : Blk (wr.alloc (.cells d.arr 37)) wr.heap.size 37 d.arr := hX0
          have hXg : wr.heap.size ≠ g := by have := hdr.a.body.lt; omega
          have hXh : wr.heap.size ≠ h := by have := hdr.b.body.lt; omega
          go_upto_region 12 with fail
          go_cut [93] (fun c wx => c = .bool (nowB d m) ∧ wx = wr.alloc (.cells d.arr 37))
          case first =>
            go_wp2_with fail
            all_goals go_meet
            · have y1 : d.now = true := by assumption
              have y2 : 0 ≤ d.i := by assumption
              exact ⟨by simp [nowB, y1, y2], by simp [D.arr, y1]⟩
            · have y1 : d.now = true := by assumption
              have y2 : d.i < 0 := by assumption
              exact ⟨by simp [nowB, y1]; omega, by simp [D.arr, y1]⟩
            · have y1 : ¬ d.now = true := by assumption
              exact ⟨by simp [nowB, y1], by simp [D.arr, y1]⟩
          case rest =>
            clear d0 d1 d2 d3 d4 d5
            obtain ⟨rfl, rfl⟩ := hcut
            have hqX : wr.heap.size ≠ q := by have := hdr.b.head.lt; omega
            go_upto_if 93 with fail
            go_cut [] (fun wx => ∃ ver mark : Int, Duo w wx p g q h s ∧ Blk wx wr.heap.size 37 { d with ver := ver, mark := mark }.arr)
            case first =>
              cases hB : nowB d m with
              | false =>
                go_wp2_with fail
                go_meet
                exact ⟨d.ver, d.mark, hD0, hX⟩
              | true =>
                have hi : ¬ (d.i < 0 ∨ (s.L.length : Int) ≤ d.i) := by
                  simp only [nowB, Bool.and_eq_true, decide_eq_true_eq] at hB
                  rw [HSN.out]; omega
                obtain ⟨j, c, hji, hj, hc⟩ := St.get_some hi
                have x1 : wr.heap.size < (wr.alloc (.cells d.arr 37)).heap.size := hX.lt
                have hqc := hdr.b.cell0
                have hj0 := hdr.b.at0 hc
                have hj1 := hdr.b.at1 hc
                have hj2 := hdr.b.at2 hc
                have hql := hdr.b.head.lt
                have hhl := hdr.b.body.lt
                have hlen := hdr.b.ok.len
                clear hi
                go_wp2_with fail
                go_region
                go_wp2_with fail
                go_quiet (fail)
                go_wp2_with fail
                · go_region
                  go_wp2_with fail
                  go_meet
                  refine ⟨c.ver, c.mark, hdr.only ((((Only.refl [] wr).alloc _).drewN _).setCell (.inr (Nat.le_refl _)) _), ?_⟩
                  have z := ((Blk.new wr 37 #[.int .i64 d.what, .int .i64 (j : Int), .int .u32 c.ver, .int .i64 d.mark, .int .u64 d.v, .bool d.now]).drewN (1 + nq + 1)).set_ 3 (.int .i64 c.mark)
                  simpa [D.arr, hji] using z
                · go_meet
                  refine ⟨c.ver, d.mark, hdr.only ((((Only.refl [] wr).alloc _).drew).drewN _), ?_⟩
                  have z := ((Blk.new wr 37 #[.int .i64 d.what, .int .i64 (j : Int), .int .u32 c.ver, .int .i64 d.mark, .int .u64 d.v, .bool d.now]).drew).drewN nq
                  simpa [D.arr, hji] using z
            case rest =>
              obtain ⟨ver, mark, hD, hY⟩ := hcut
              obtain ⟨wa, rfl⟩ : ∃ x, x = wc := ⟨_, rfl⟩
              clear hD0 hX hX0
              have y0 : wa.cell? ⟨wr.heap.size, 0, none⟩ = some (.int .i64 d.what) := hY.cell 0
              have y1 : wa.cell? ⟨wr.heap.size, 1, none⟩ = some (.int .i64 d.i) := hY.cell 1
              have y2 : wa.cell? ⟨wr.heap.size, 2, none⟩ = some (.int .u32 ver) := hY.cell 2
              have y3 : wa.cell? ⟨wr.heap.size, 3, none⟩ = some (.int .i64 mark) := hY.cell 3
              have y4 : wa.cell? ⟨wr.heap.size, 4, none⟩ = some (.int .u64 d.v) := hY.cell 4
              go_upto_block 2 with (go_at_call 7; refine (pick_any d.what 5 hok.what (by omega) (by omega) _).mono ?_; rintro e w' ⟨rfl, rfl⟩)
              have hr0 : 0 ≤ (if d.what < 0 then -(d.what + 1) else d.what) % 5 := by omega
              have hr1 : (if d.what < 0 then -(d.what + 1) else d.what) % 5 < 5 := by omega
              generalize (if d.what < 0 then -(d.what + 1) else d.what) % 5 = r at *
              go_cut [13, 14] (fun s13 s14 wx => ∃ (s' : St) (bad : Int), s13 = .int .i64 bad ∧ s14 = codeV bad ∧ 0 ≤ bad ∧ bad ≤ 14 ∧ s'.L.length = s.L.length ∧ s'.lim = s.lim ∧ Duo w wx p g q h s' ∧ Blk wx wr.heap.size 37 { d with ver := ver, mark := mark }.arr)
              case first =>
                have hcase : r = 0 ∨ r = 1 ∨ r = 2 ∨ r = 3 ∨ r = 4 := by omega
                rcases hcase with rfl | rfl | rfl | rfl | rfl
                · as_aux_lemma =>
                  by_cases hi : d.i < 0 ∨ (s.L.length : Int) ≤ d.i
                  · go_wp2_with fail
                    (with_reducible refine (read_no p g s _ _ hD.a hi).mono ?_); rintro e w3 ⟨rfl, ho3⟩
                    have z1 : w3.cell? ⟨wr.heap.size, 1, none⟩ = some (.int .i64 d.i) := (ho3.blk hY (by simp)).cell 1
                    have hi' : d.i < 0 ∨ (m : Int) ≤ d.i := by rw [HSN.out] at hi; exact hi
                    clear hi
                    go_wp2_with fail
                    all_goals go_meet
                    all_goals exact ⟨s, 2, rfl, rfl, by omega, by omega, rfl, rfl, hD.only ho3, ho3.blk hY (by simp)⟩
                  · obtain ⟨j, c, hji, hj, hc⟩ := St.get_some hi
                    have hrd : readI s d.i = (0, c) := by simp [readI, hji, St.get_nat, hc]
                    replace hji := Lib.hid hji
                    go_wp2_with fail
                    (with_reducible refine (read_ok p g s _ c _ hD.a hrd).mono ?_); rintro e w3 ⟨rfl, ho3⟩
                    have z1 : w3.cell? ⟨wr.heap.size, 1, none⟩ = some (.int .i64 d.i) := (ho3.blk hY (by simp)).cell 1
                    have hi1 : 0 ≤ d.i := by have := hji.out; omega
                    have hi2 : d.i < (m : Int) := by have := HSN.out; have := hji.out; omega
                    clear hi hji hrd
                    go_wp2_with fail
                    all_goals go_meet
                    all_goals exact ⟨s, 0, rfl, rfl, by omega, by omega, rfl, rfl, hD.only ho3, ho3.blk hY (by simp)⟩
                · as_aux_lemma =>
                  go_wp2_with fail
                  refine (reserve_any p g s _ _ _ _ hD.a).mono ?_; rintro e w4 ⟨rfl, hs4, ho4⟩
                  have hY4 := ho4.blk hY (by simpa using hXg)
                  have hb4 := hD.mid ho4
                  have z1 : w4.cell? ⟨wr.heap.size, 1, none⟩ = some (.int .i64 d.i) := hY4.cell 1
                  have z2 : w4.cell? ⟨wr.heap.size, 2, none⟩ = some (.int .u32 ver) := hY4.cell 2
                  have z3 : w4.cell? ⟨wr.heap.size, 3, none⟩ = some (.int .i64 mark) := hY4.cell 3
                  go_wp2_with fail
                  refine (rreserve_any q h s _ _ _ _ hb4).mono ?_; rintro e w5 ⟨rfl, hs5, ho5⟩
                  go_wp2_with fail
                  go_meet
                  exact ⟨_, _, rfl, rfl, (rsv_code _ _ _ _).1, (rsv_code _ _ _ _).2, (rsv_len _ _ _ _).1, (rsv_len _ _ _ _).2, hD.step hs4 ho4 hs5 ho5 hgw hhw, ho5.blk hY4 (by simpa using hXh)⟩
                · as_aux_lemma =>
                  go_wp2_with fail
                  refine (release_any p g s _ _ _ hD.a).mono ?_; rintro e w4 ⟨rfl, hs4, ho4⟩
                  have hY4 := ho4.blk hY (by simpa using hXg)
                  have hb4 := hD.mid ho4
                  have z1 : w4.cell? ⟨wr.heap.size, 1, none⟩ = some (.int .i64 d.i) := hY4.cell 1
                  have z3 : w4.cell? ⟨wr.heap.size, 3, none⟩ = some (.int .i64 mark) := hY4.cell 3
                  have z4 : w4.cell? ⟨wr.heap.size, 4, none⟩ = some (.int .u64 d.v) := hY4.cell 4
                  go_wp2_with fail
                  refine (rrelease_any q h s _ _ _ hb4).mono ?_; rintro e w5 ⟨rfl, hs5, ho5⟩
                  go_wp2_with fail
                  go_meet
                  exact ⟨_, _, rfl, rfl, (rel_code _ _ _).1, (rel_code _ _ _).2, (rel_len _ _ _).1, (rel_len _ _ _).2, hD.step hs4 ho4 hs5 ho5 hgw hhw, ho5.blk hY4 (by simpa using hXh)⟩
                · as_aux_lemma =>
                  go_wp2_with fail
                  refine (put_any p g s _ _ _ _ hD.a).mono ?_; rintro e w4 ⟨rfl, hs4, ho4⟩
                  have hY4 := ho4.blk hY (by simpa using hXg)
                  have hb4 := hD.mid ho4
                  have z1 : w4.cell? ⟨wr.heap.size, 1, none⟩ = some (.int .i64 d.i) := hY4.cell 1
                  have z3 : w4.cell? ⟨wr.heap.size, 3, none⟩ = some (.int .i64 mark) := hY4.cell 3
                  have z4 : w4.cell? ⟨wr.heap.size, 4, none⟩ = some (.int .u64 d.v) := hY4.cell 4
                  go_wp2_with fail
                  refine (rput_any q h s _ _ _ _ hb4).mono ?_; rintro e w5 ⟨rfl, hs5, ho5⟩
                  go_wp2_with fail
                  go_meet
                  exact ⟨_, _, rfl, rfl, (put_code _ _ _ _).1, (put_code _ _ _ _).2, (put_len _ _ _ _).1, (put_len _ _ _ _).2, hD.step hs4 ho4 hs5 ho5 hgw hhw, ho5.blk hY4 (by simpa using hXh)⟩
                · as_aux_lemma =>
                  go_wp2_with fail
                  refine (set_any p g s _ _ _ hD.a).mono ?_; rintro e w4 ⟨rfl, hs4, ho4⟩
                  have hY4 := ho4.blk hY (by simpa using hXg)
                  have hb4 := hD.mid ho4
                  have z1 : w4.cell? ⟨wr.heap.size, 1, none⟩ = some (.int .i64 d.i) := hY4.cell 1
                  have z3 : w4.cell? ⟨wr.heap.size, 3, none⟩ = some (.int .i64 mark) := hY4.cell 3
                  have z4 : w4.cell? ⟨wr.heap.size, 4, none⟩ = some (.int .u64 d.v) := hY4.cell 4
                  go_wp2_with fail
                  refine (rset_any q h s _ _ _ hb4).mono ?_; rintro e w5 ⟨rfl, hs5, ho5⟩
                  go_wp2_with fail
                  go_meet
                  exact ⟨_, _, rfl, rfl, (set_code _ _ _).1, (set_code _ _ _).2, (set_len _ _ _).1, (set_len _ _ _).2, hD.step hs4 ho4 hs5 ho5 hgw hhw, ho5.blk hY4 (by simpa using hXh)⟩
              case rest =>
               as_aux_lemma =>
                obtain ⟨s', bad, rfl, rfl, hb0, hb1, hsn', hsl', hD', hY'⟩ := hcut
                clear y0 y1 y2 y3 y4 hY hD hr0 hr1
                have y1 : wc.cell? ⟨wr.heap.size, 1, none⟩ = some (.int .i64 d.i) := hY'.cell 1
                go_wp2_with fail
                (with_reducible refine (code_any bad _ hb0 hb1).mono ?_); rintro e w6 ⟨rfl, rfl⟩
                by_cases hi : d.i < 0 ∨ (s'.L.length : Int) ≤ d.i
                · have hi' : d.i < 0 ∨ (m : Int) ≤ d.i := by rw [hsn', HSN.out] at hi; exact hi
                  clear hi
                  go_wp2_with fail
                  all_goals
                    go_roundg (L.length - (k + 1))
                    case measure => omega
                    case rel => exact ⟨k + 1, s', by omega, rfl, by go_num, hsn'.trans HSN.out, hsl'.trans HSL.out, hD'⟩
                · obtain ⟨j, c, hji, hj, hc⟩ := St.get_some hi
                  have hi1 : 0 ≤ d.i := by omega
                  have hi2 : d.i < (m : Int) := by have := HSN.out; omega
                  have hrd : readI s' (j : Int) = (0, c) := by simp [readI, St.get_nat, hc]
                  replace hrd := Lib.hid hrd
                  rw [hji] at y1 hi1 hi2
                  clear hi
                  go_wp2_with fail
                  refine (read_ok p g s' _ c _ hD'.a hrd.out).mono ?_; rintro e w7 ⟨rfl, ho7⟩
                  have hD7 := hD'.only ho7
                  have z1 : w7.cell? ⟨wr.heap.size, 1, none⟩ = some (.int .i64 (j : Int)) := by
                    have := (ho7.blk hY' (by simp)).cell 1
                    rw [this]; simp [hji]
                  have zl := (ho7.blk hY' (by simp)).lt
                  have e0 := hD7.b.cell0
                  have ql := hD7.b.head.lt
                  have hlB := hD7.b.body.lt
                  have e1 := hD7.b.at0 hc
                  have e2 := hD7.b.at1 hc
                  have e3 := hD7.b.at2 hc
                  have hlen := hD7.b.ok.len
                  go_upto_region 38 with fail
                  go_quiet (fail)
                  go_wp2_with fail
                  all_goals
                    go_roundg (L.length - (k + 1))
                    case measure => omega
                    case rel => exact ⟨k + 1, s', by omega, rfl, by go_num, hsn'.trans HSN.out, hsl'.trans HSL.out, hD7.only (((Only.refl [] w7).alloc _).drewN _)⟩
        · obtain ⟨rfl⟩ : k = L.length := by omega
          as_aux_lemma =>
          have hpl := hdr.a.ok.len
          go_wp2_with fail
          (with_reducible refine (values_any p g s _ hdr.a).mono ?_); rintro e w8 ⟨rfl, hv8, ho8⟩
          have hD8 := hdr.only ho8
          rw [hsn]
          go_wp2_with fail
          (with_reducible refine (len_any p g s _ hD8.a).mono ?_); rintro e w9 ⟨rfl, rfl⟩
          rw [hsn]
          go_wp2_with fail
          (with_reducible refine (limit_any p g s _ hD8.a).mono ?_); rintro e w9 ⟨rfl, rfl⟩
          rw [hsl]
          go_wp2_with fail
          obtain ⟨wo, rfl⟩ : ∃ x, x = wr := ⟨_, rfl⟩
          go_loopw [18] (fun i wv => ∃ k : Nat, k ≤ m ∧ i = .int .i64 k ∧ Only [] w8 wv) (fun i _ => m - (intOf i).toNat)
          case atStart => exact ⟨0, by omega, rfl, Only.refl _ _⟩
          case round =>
            obtain ⟨k, hk, rfl, hok⟩ := hrel
            have HSN := Lib.hid hsn
            clear hsn
            by_cases hlt : k < m
            · have hkl : k < s.L.length := by have := HSN.out; omega
              obtain ⟨c, hc⟩ : ∃ c, s.L[k]? = some c := ⟨_, List.getElem?_eq_getElem hkl⟩
              have hD9 := hD8.only hok
              have e0 := hD9.b.cell0
              have e1 := hD9.b.at0 hc
              have hcm : (s.L.map C.v)[k]? = some c.v := by simp [hc]
              have e2 : wr.cell? ⟨wo.heap.size, k, none⟩ = some (.int .u64 c.v) := by
                have z := flat_at (f := u64row) (i := k) (n := 1) (j := 0) (L := s.L.map C.v) (fun _ => rfl) hcm rfl
                rw [(hok.blk hv8 (by simp)).cell]
                simpa using z
              have hlm : ((k : Int) < (s.L.length : Int)) := by omega
              clear hcm
              go_wp2_with fail
              go_quiet (fail)
              go_wp2_with fail
              go_roundw
              case rel => exact ⟨k + 1, by omega, by go_num, hok.drewN _⟩
              case measure => simp [intOf]; omega
            · go_wp2_with fail
              go_ret
              exact ⟨rfl, (hD8.only hok).ho⟩
end Go.Proofs.Ytcigkgbbkgjoiaa
