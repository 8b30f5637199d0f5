import Derived.Test.YtcigkgbbkgjoiaaWordU
import Derived.Test.YtcigkgbbkgjoiaaDeeds
import Derived.Deep.DeepCutAuto
import Derived.Deep.CutBlock
import Derived.Deep.LoopGhost
import Derived.Outline
namespace Go.Proofs.Ytcigkgbbkgjoiaa
open Go.RowKit

abbrev C.arr (c : C) : Array Value := #[.int .u64 c.v, .int .u32 c.ver, .int .i64 c.mark]
theorem read_no (p g : Nat) (s : St) (i : Int) (w : World) (h : StoreAt w WT p g s) (hr : i < 0 ∨ (s.L.length : Int) ≤ i) :
    Calls Try.prog 8 #[.pointer (some ⟨p, 0, none⟩), .int .i64 i] w fun e w' => e = .returned (.tuple #[.agg #[.int .u64 0, .int .u32 0, .int .i64 0], .iface 30 (.int .i64 2)]) ∧ Only [] w w' :=
  (read_any p g s i w h).mono fun _ _ ⟨he, ho⟩ => ⟨by rw [he]; simp only [readI, St.get_none hr]; rfl, ho⟩

structure Mid (w wx : World) (p g X H : Nat) (d : D) (c : C) (s : St) : Prop where
  st : StoreAt wx WT p g s
  dx : Blk wx X 37 d.arr
  hd : Blk wx H 39 c.arr
  ho : Only [] w wx
theorem Mid.step {w wx w' : World} {p g X H : Nat} {d : D} {c : C} {s s' : St} (h : Mid w wx p g X H d c s) (hs : StoreAt w' WT p g s') (ho : Only [g] wx w') (hX : X ≠ g) (hH : H ≠ g) (hg : w.heap.size ≤ g) : Mid w w' p g X H d c s' :=
  ⟨hs, ho.blk h.dx (by simpa using hX), ho.blk h.hd (by simpa using hH), h.ho.then ho (by simpa using hg)⟩

structure Fine (c c' : C) (pb : Bool) (mark : Int) : Prop where
  yes : pb = true → c'.ver = c.ver + 1 ∧ c.mark = mark
  no : pb = false → c'.ver = c.ver ∧ (c.mark ≠ 0 → c'.v = c.v)
def After (s s' : St) (j : Nat) (c : C) (pb : Bool) (mark : Int) : Prop := s'.L.length = s.L.length ∧ ∃ c', s'.L[j]? = some c' ∧ Fine c c' pb mark

theorem after_same {s : St} {j : Nat} {c : C} {mark : Int} (hc : s.L[j]? = some c) : After s s j c false mark := ⟨rfl, c, hc, by simp, by simp⟩
theorem after_put {s : St} {j : Nat} {c c' : C} {pb : Bool} {mark : Int} (hc : s.L[j]? = some c) (hf : Fine c c' pb mark) : After s (s.put j c') j c pb mark := ⟨by simp [St.put], c', St.put_at hc, hf⟩
theorem after_rsv {s : St} {j : Nat} {c : C} {ver mark : Int} (hc : s.L[j]? = some c) (m' : Int) : After s (rsvI s j ver mark).2 j c false m' := by
  simp only [rsvI, St.get_nat, hc]
  split
  · exact after_same hc
  · split
    · exact after_same hc
    · split
      · exact after_same hc
      · exact after_put hc ⟨by simp, by simp⟩
theorem after_rel {s : St} {j : Nat} {c : C} {mark : Int} (hc : s.L[j]? = some c) (m' : Int) : After s (relI s j mark).2 j c false m' := by
  simp only [relI, St.get_nat, hc]
  split
  · exact after_same hc
  · exact after_put hc ⟨by simp, by simp⟩
theorem after_set {s : St} {j : Nat} {c : C} {v : Int} (hc : s.L[j]? = some c) (m' : Int) : After s (setI s j v).2 j c false m' := by
  simp only [setI, St.get_nat, hc]
  split
  · exact after_same hc
  · rename_i h
    exact after_put hc ⟨by simp, fun _ => ⟨rfl, fun h' => absurd h' h⟩⟩
theorem after_putI {s : St} {j : Nat} {c : C} {mark v : Int} (hc : s.L[j]? = some c) : After s (putI s j mark v).2 j c (decide ((putI s j mark v).1 = 0)) mark := by
  simp only [putI, St.get_nat, hc]
  split
  · exact after_same hc
  · split
    · exact after_same hc
    · exact after_put hc ⟨fun _ => ⟨rfl, by omega⟩, by simp⟩

theorem put_zero (p g : Nat) (s : St) (i mark v : Int) (w : World) (h : StoreAt w WT p g s) (hz : (putI s i mark v).1 = 0) :
    Calls Try.prog 13 #[.pointer (some ⟨p, 0, none⟩), .int .i64 i, .int .i64 mark, .int .u64 v] w fun e w' => e = .returned .nilIface ∧ StoreAt w' WT p g (putI s i mark v).2 ∧ Only [g] w w' :=
  (put_any p g s i mark v w h).mono fun _ _ ⟨he, hs, ho⟩ => ⟨by rw [he, hz]; rfl, hs, ho⟩
theorem put_nz (p g : Nat) (s : St) (i mark v : Int) (w : World) (h : StoreAt w WT p g s) (hz : ¬ (putI s i mark v).1 = 0) :
    Calls Try.prog 13 #[.pointer (some ⟨p, 0, none⟩), .int .i64 i, .int .i64 mark, .int .u64 v] w fun e w' => e = .returned (.iface 30 (.int .i64 (putI s i mark v).1)) ∧ StoreAt w' WT p g (putI s i mark v).2 ∧ Only [g] w w' :=
  (put_any p g s i mark v w h).mono fun _ _ ⟨he, hs, ho⟩ => ⟨by rw [he, codeV_n hz], hs, ho⟩

def SRel (w : World) (p g n : Nat) (L : List D) (gk : Nat) (i : Value) (wr : World) : Prop :=
  ∃ (k : Nat) (s : St), k ≤ L.length ∧ gk = L.length - k ∧ i = .int .i64 k ∧ s.L.length = n ∧ StoreAt wr WT p g s ∧ Only [] w wr

set_option maxRecDepth 100000 in
set_option maxHeartbeats 2000000 in
theorem stays_any (n lim : Int) (A : Option Addr) (L : List D) (cap : Nat) (hn : (Lit.int .i64 n).wf = true) (hl : (Lit.int .u32 lim).wf = true) (w : World) (hL : Deeds w A L) :
    Calls Try.prog 4 #[.int .i64 n, .int .u32 lim, .slice A L.length cap] w fun e w' => e = .returned (.bool true) ∧ Only [] w w' := by
  have hl' : 0 ≤ lim ∧ lim ≤ 4294967295 := by simpa [Lit.wf, IntKind.min, IntKind.max, IntKind.signed, IntKind.bits] using hl
  obtain ⟨hl0, hl1⟩ := hl'
  by_cases hbad : n < 1 ∨ 1024 < n ∨ lim = 0
  · go_enter Try.func4, Try.ntmps4
    go_wp2_with fail
    (with_reducible refine (up_any _).mono ?_); rintro e w1 ⟨rfl, ho1⟩
    go_wp2_with fail
    (with_reducible refine (new_no _ _ _ hbad).mono ?_); rintro e w2 ⟨rfl, rfl⟩
    go_wp2_with fail
    go_ret
    exact ⟨rfl, ho1⟩
  · have hlim : 1 ≤ lim := by omega
    go_enter Try.func4, Try.ntmps4
    go_wp2_with fail
    (with_reducible refine (up_any _).mono ?_); rintro e w1 ⟨rfl, ho1⟩
    go_wp2_with fail
    (with_reducible refine (new_ok _ _ _ (by omega) (by omega) hlim hl1).mono ?_); rintro e w2 ⟨p, g, rfl, hp, hg, hs, ho2⟩
    by_cases hlong : 120 < L.length
    · go_wp2_with fail
      go_ret
      exact ⟨rfl, ho1.trans ho2⟩
    · go_wp2_with fail
      go_loopg [10] L.length (fun gk i wr => SRel w p g n.toNat L gk i wr)
      case atStart => exact ⟨0, _, by omega, rfl, rfl, by simp [zero], hs, ho1.trans ho2⟩
      case round =>
        obtain ⟨k, s, hk, rfl, rfl, hsn, hsr, hor⟩ := hrel
        have HSN := Lib.hid hsn
        clear hsn
        by_cases hlt : k < L.length
        · obtain ⟨d, hd⟩ : ∃ d, L[k]? = some d := ⟨_, List.getElem?_eq_getElem hlt⟩
          obtain ⟨b, off, rfl, hb, hdc⟩ := (hL.only hor).at_ k d hd
          have d0 : wr.cell? ⟨b, off + k * 6, none⟩ = _ := hdc 0 _ rfl
          have d1 : wr.cell? ⟨b, off + k * 6 + 1, none⟩ = _ := hdc 1 _ rfl
          have d2 : wr.cell? ⟨b, off + k * 6 + 2, none⟩ = _ := hdc 2 _ rfl
          have d3 : wr.cell? ⟨b, off + k * 6 + 3, none⟩ = _ := hdc 3 _ rfl
          have d4 : wr.cell? ⟨b, off + k * 6 + 4, none⟩ = _ := hdc 4 _ rfl
          have d5 : wr.cell? ⟨b, off + k * 6 + 5, none⟩ = _ := hdc 5 _ rfl
          clear hdc
          have hok := hL.ok k d hd
          have hs0 := hsr.only ((Only.refl [] wr).alloc (.cells d.arr 37)) (by simp) (by simp)
          have ho0 := hor.alloc (.cells d.arr 37)
          have hX0 := Blk.new wr 37 d.arr
          go_wp2_with fail
          by_cases hi : d.i < 0 ∨ (s.L.length : Int) ≤ d.i
          · (with_reducible refine (read_no p g s _ _ hs0 hi).mono ?_); rintro e w3 ⟨rfl, ho3⟩
            go_wp2_with fail
            go_roundg (L.length - (k + 1))
            case measure => omega
            case rel => exact ⟨k + 1, s, by omega, rfl, by go_num, HSN.out, hs0.only ((ho3.alloc _)) (by simp) (by simp), (ho0.trans ho3).alloc _⟩
          · obtain ⟨j, c, hji, hj, hc⟩ := St.get_some hi
            have hrd : readI s d.i = (0, c) := by simp [readI, hji, St.get_nat, hc]
            (with_reducible refine (read_ok p g s _ c _ hs0 hrd).mono ?_); rintro e w3 ⟨rfl, ho3⟩
            have HJ := Lib.hid hji
            have HR := Lib.hid hrd
            clear hji hrd
            have hX3 := (ho3.blk hX0 (by simp)).alloc (.cells c.arr 39)
            have hH3 := Blk.new w3 39 c.arr
            have hs3 := (hs0.only ho3 (by simp) (by simp)).only ((Only.refl [] w3).alloc (.cells c.arr 39)) (by simp) (by simp)
            have ho3' := (ho0.trans ho3).alloc (.cells c.arr 39)
            have hle := ho3.size
            have hXl := (ho3.blk hX0 (by simp)).lt
            have hXw := ho3.blk hX0 (by simp)
            have q5 : w3.cell? ⟨wr.heap.size, 5, none⟩ = some (.bool d.now) := hXw.cell 5
            have q2 : w3.cell? ⟨wr.heap.size, 2, none⟩ = some (.int .u32 d.ver) := hXw.cell 2
            have qf : w3.frozen? ⟨wr.heap.size, 2, none⟩ = false := hXw.frozen 2
            have hX3' : wr.heap.size ≠ g := by have := hsr.body.lt; omega
            have hH3' : w3.heap.size ≠ g := by have := (hs0.only ho3 (by simp) (by simp)).body.lt; omega
            have hMid : Mid w (w3.alloc (.cells c.arr 39)) p g wr.heap.size w3.heap.size d c s := ⟨hs3, hX3, hH3, ho3'⟩
            go_upto_if 63 with fail
            go_cut [] (fun wx => ∃ ver : Int, Mid w wx p g wr.heap.size w3.heap.size { d with ver := ver } c s)
            case first =>
              go_wp2_with fail
              · go_meet
                refine ⟨c.ver, ⟨?_, ?_, ?_, ?_⟩⟩
                · exact (hs0.only ho3 (by simp) (by simp)).only (((Only.refl [wr.heap.size] w3).setCell (by simp) _).alloc _) (by have := hsr.head.lt; simp; omega) (by simpa using hX3'.symm)
                · exact (hXw.set_ 2 (.int .u32 c.ver)).alloc _
                · have q := Blk.new (w3.setCell ⟨wr.heap.size, 2, none⟩ (.int .u32 c.ver)) 39 c.arr
                  simpa using q
                · exact ((ho0.trans ho3).setCell (.inr (by simpa using hor.size)) _).alloc _
              · go_meet
                exact ⟨d.ver, hMid⟩
            case rest =>
              obtain ⟨ver, hm⟩ := hcut
              have y0 : wc.cell? ⟨wr.heap.size, 0, none⟩ = some (.int .i64 d.what) := hm.dx.cell 0
              have y1 : wc.cell? ⟨wr.heap.size, 1, none⟩ = some (.int .i64 d.i) := hm.dx.cell 1
              have y2 : wc.cell? ⟨wr.heap.size, 2, none⟩ = some (.int .u32 ver) := hm.dx.cell 2
              have y3 : wc.cell? ⟨wr.heap.size, 3, none⟩ = some (.int .i64 d.mark) := hm.dx.cell 3
              have y4 : wc.cell? ⟨wr.heap.size, 4, none⟩ = some (.int .u64 d.v) := hm.dx.cell 4
              go_upto_block 2 with (go_at_call 7; refine (pick_any d.what 5 hok.what (by omega) (by omega) _).mono ?_; rintro e w' ⟨rfl, rfl⟩)
              have hr0 : 0 ≤ (if d.what < 0 then -(d.what + 1) else d.what) % 5 := by omega
              have hr1 : (if d.what < 0 then -(d.what + 1) else d.what) % 5 < 5 := by omega
              generalize (if d.what < 0 then -(d.what + 1) else d.what) % 5 = r at *
              go_cut [14] (fun s14 wx => ∃ (s' : St) (pb : Bool), s14 = .bool pb ∧ Mid w wx p g wr.heap.size w3.heap.size { d with ver := ver } c s' ∧ After s s' j c pb d.mark)
              case first =>
                have hcase : r = 0 ∨ r = 1 ∨ r = 2 ∨ r = 3 ∨ r = 4 := by omega
                have HM := Lib.hid hm
                rcases hcase with rfl | rfl | rfl | rfl | rfl
                · go_wp2_with fail
                  go_meet
                  exact ⟨s, false, rfl, hm, after_same hc⟩
                · go_wp2_with fail
                  refine (reserve_any p g s _ _ _ _ hm.st).mono ?_; rintro e w4 ⟨rfl, hs4, ho4⟩
                  go_wp2_with fail
                  go_meet
                  rw [HJ.out] at hs4
                  exact ⟨_, false, rfl, hm.step hs4 ho4 hX3' hH3' (by have := ho1.size; omega), after_rsv hc _⟩
                · go_wp2_with fail
                  refine (release_any p g s _ _ _ hm.st).mono ?_; rintro e w4 ⟨rfl, hs4, ho4⟩
                  go_wp2_with fail
                  go_meet
                  rw [HJ.out] at hs4
                  exact ⟨_, false, rfl, hm.step hs4 ho4 hX3' hH3' (by have := ho1.size; omega), after_rel hc _⟩
                · by_cases hz : (putI s d.i d.mark d.v).1 = 0
                  · go_wp2_with fail
                    refine (put_zero p g s _ _ _ _ hm.st hz).mono ?_; rintro e w4 ⟨rfl, hs4, ho4⟩
                    go_wp2_with fail
                    go_meet
                    rw [HJ.out] at hs4 hz
                    have q := after_putI (mark := d.mark) (v := d.v) hc
                    rw [decide_eq_true hz] at q
                    exact ⟨_, true, rfl, hm.step hs4 ho4 hX3' hH3' (by have := ho1.size; omega), q⟩
                  · go_wp2_with fail
                    refine (put_nz p g s _ _ _ _ hm.st hz).mono ?_; rintro e w4 ⟨rfl, hs4, ho4⟩
                    go_wp2_with fail
                    go_meet
                    rw [HJ.out] at hs4 hz
                    have q := after_putI (mark := d.mark) (v := d.v) hc
                    rw [decide_eq_false hz] at q
                    exact ⟨_, false, rfl, hm.step hs4 ho4 hX3' hH3' (by have := ho1.size; omega), q⟩
                · go_wp2_with fail
                  refine (set_any p g s _ _ _ hm.st).mono ?_; rintro e w4 ⟨rfl, hs4, ho4⟩
                  go_wp2_with fail
                  go_meet
                  rw [HJ.out] at hs4
                  exact ⟨_, false, rfl, hm.step hs4 ho4 hX3' hH3' (by have := ho1.size; omega), after_set hc _⟩
              case rest =>
                obtain ⟨s', pb, rfl, hm', hlen', c', hc', hf⟩ := hcut
                have hrd' : readI s' d.i = (0, c') := by simp [readI, HJ.out, St.get_nat, hc']
                clear y0 y2 y4
                have z1 : wc.cell? ⟨wr.heap.size, 1, none⟩ = some (.int .i64 d.i) := hm'.dx.cell 1
                clear hm y1 y3
                go_wp2_with fail
                refine (read_ok p g s' _ c' _ hm'.st hrd').mono ?_; rintro e w5 ⟨rfl, ho5⟩
                have HR' := Lib.hid hrd'
                clear hrd'
                have hdx5 := ho5.blk hm'.dx (by simp)
                have hhd5 := ho5.blk hm'.hd (by simp)
                have hdl := hdx5.lt
                have hhl := hhd5.lt
                have x3 : w5.cell? ⟨wr.heap.size, 3, none⟩ = some (.int .i64 d.mark) := hdx5.cell 3
                have h0 : w5.cell? ⟨w3.heap.size, 0, none⟩ = some (.int .u64 c.v) := hhd5.cell 0
                have h1 : w5.cell? ⟨w3.heap.size, 1, none⟩ = some (.int .u32 c.ver) := hhd5.cell 1
                have h2 : w5.cell? ⟨w3.heap.size, 2, none⟩ = some (.int .i64 c.mark) := hhd5.cell 2
                obtain ⟨hv0, hv1⟩ := hm'.st.ok.cells _ _ hc'
                have hv2 := hm'.st.ok.lim1
                obtain ⟨v', ver', mark'⟩ := c'
                obtain ⟨cv, cver, cmark⟩ := c
                simp only at hv0 hv1
                cases pb with
                | true =>
                  obtain ⟨e1, e2⟩ := hf.yes rfl
                  simp only at e1 e2
                  subst e1 e2
                  have hq : cver + 1 ≤ 4294967295 := by omega
                  obtain ⟨hq0, hq1⟩ : 0 ≤ cver ∧ cver ≤ 4294967295 := by
                    have := (hsr.ok.cells _ _ hc).1
                    exact ⟨this, by omega⟩
                  go_wp2_with fail
                  all_goals
                    go_roundg (L.length - (k + 1))
                    case measure => omega
                    case rel => exact ⟨k + 1, s', by omega, rfl, by go_num, hlen'.trans HSN.out, hm'.st.only (ho5.alloc _) (by simp) (by simp), (hm'.ho.trans ho5).alloc _⟩
                | false =>
                  obtain ⟨e1, e2⟩ := hf.no rfl
                  simp only at e1 e2
                  subst e1
                  obtain ⟨hq0, hq1⟩ : 0 ≤ ver' ∧ ver' ≤ 4294967295 := ⟨hv0, by omega⟩
                  by_cases hm0 : cmark = 0
                  · clear e2
                    go_wp2_with fail
                    all_goals
                      go_roundg (L.length - (k + 1))
                      case measure => omega
                      case rel => exact ⟨k + 1, s', by omega, rfl, by go_num, hlen'.trans HSN.out, hm'.st.only (ho5.alloc _) (by simp) (by simp), (hm'.ho.trans ho5).alloc _⟩
                  · have e3 := e2 hm0
                    subst e3
                    clear e2
                    go_wp2_with fail
                    all_goals
                      go_roundg (L.length - (k + 1))
                      case measure => omega
                      case rel => exact ⟨k + 1, s', by omega, rfl, by go_num, hlen'.trans HSN.out, hm'.st.only (ho5.alloc _) (by simp) (by simp), (hm'.ho.trans ho5).alloc _⟩
        · go_wp2_with fail
          go_ret
          exact ⟨rfl, hor⟩
end Go.Proofs.Ytcigkgbbkgjoiaa
