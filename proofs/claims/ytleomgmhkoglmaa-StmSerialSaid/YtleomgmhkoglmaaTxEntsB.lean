/- What Entries of package tx tells (layer 6). -/
import Derived.Test.YtleomgmhkoglmaaTxEntB
import Derived.Test.YtleomgmhkoglmaaDescNew
import Derived.Deep.AppendLies
namespace Go.Proofs.Ytleomgmhkoglmaa
open Go.RowKit Go.Maps
section
variable {w w' : World} {base base' : Nat} {e e' : TypeId} {v v' : Value}
/-- the cells of a row of equal parts -/
theorem row_cells {α : Type} {f : α → List Value} {n : Nat} (hf : ∀ a, (f a).length = n) {L : List α} (h : w.ownsRow base e n v L.length (L.flatMap f)) : ∃ (A : Option Addr) (cap : Nat), v = .slice A L.length cap ∧
    ∀ (j : Nat) (p : α), L[j]? = some p → ∃ b, A = some ⟨b, 0, none⟩ ∧ base ≤ b ∧ b < w.heap.size ∧ ∀ (i : Nat) (u : Value), (f p)[i]? = some u → w.cell? ⟨b, j * n + i, none⟩ = some u := by
  rcases h.2 with ⟨rfl, h0⟩ | ⟨g, cap, cur, rfl, hB, hg, _, _, _, ht⟩
  · exact ⟨none, 0, by rw [h0], fun j x hx => by have := (List.getElem?_eq_some_iff.1 hx).1; omega⟩
  · refine ⟨_, cap, rfl, fun j p hp => ⟨g, rfl, hB, (Array.getElem?_eq_some_iff.1 hg).1, fun i u hu => ?_⟩⟩
    have hi : i < n := by rw [← hf p]; exact (List.getElem?_eq_some_iff.1 hu).1
    have hj := (List.getElem?_eq_some_iff.1 hp).1
    have e1 := flat_get (f := f) (L := L) hf j i hi
    rw [hp] at e1
    have e2 : (L.flatMap f)[j * n + i]? = (f p)[i]? := by simpa [flat] using e1
    have hlt : j * n + i < L.length * n := by
      have : (j + 1) * n ≤ L.length * n := Nat.mul_le_mul_right _ hj
      rw [Nat.succ_mul] at this
      omega
    rw [← ht, List.getElem?_take_of_lt hlt, Array.getElem?_toList, hu] at e2
    exact (Blk.cell (show Blk w g e cur from hg) _).trans e2
theorem only_grown {row : Option Nat} (h : Only [] w w') {w2 : World} (hg : w'.grownBy w2 row) (hr : ∀ j, row = some j → w.heap.size ≤ j) : Only [] w w2 :=
  ⟨hg.os.trans h.os, hg.tape.trans h.tape, hg.output.trans h.output, Nat.le_trans h.size hg.size, fun k hk hn => (hg.block k (Nat.lt_of_lt_of_le hk h.size) (fun e => by have := hr k e.symm; omega)).trans (h.block k hk hn)⟩
theorem owns_only {S : List Nat} {size k : Nat} {xs : List Value} (h : w.ownsRow base e size v k xs) (ho : Only S w w') (hS : ∀ j, v.ownBlock = some j → j ∉ S) : w'.ownsRow base e size v k xs := by
  refine ⟨h.1, h.2.imp id ?_⟩
  rintro ⟨g, cap, cur, rfl, hB, hg, r⟩
  exact ⟨g, cap, cur, rfl, hB, (ho.block g (Array.getElem?_eq_some_iff.1 hg).1 (hS g rfl)).trans hg, r⟩
theorem owns_base {size k : Nat} {xs : List Value} (h : w.ownsRow base e size v k xs) (hb : base' ≤ base) : w.ownsRow base' e size v k xs :=
  ⟨h.1, h.2.imp id fun ⟨g, cap, cur, e1, e2, e3⟩ => ⟨g, cap, cur, e1, Nat.le_trans hb e2, e3⟩⟩
end
section
variable {w : World} {bt bm n bd bw m sz : Nat} {cells : Int} {R : Int → Option Cl} {s : Dt} {over : Bool}
theorem entries_lacks (hr : RecAt w bt bm n cells (.pointer (some ⟨bd, 0, none⟩)) R sz) (hd : DraftAt w bd bw bt m s over) (hl : s.lk.isSome = true) :
    Calls Try.prog 44 #[.pointer (some ⟨bt, 0, none⟩)] w fun e w' => e = .returned (.slice none 0 0) ∧ w = w' := by
  have r2 := hr.c2
  have d2 := hd.c2
  rw [hl] at d2
  go_enter Try.func44, Try.ntmps44
  go_wp2
  go_ret
  exact ⟨rfl, rfl⟩
theorem ents_mk {B : Nat} {p : Int × Cl} (hr : RecAt w bt bm n cells (.pointer (some ⟨bd, 0, none⟩)) R sz) {W : World} (ho : Only [] w W) (hb : Blk W B 117 #[.int .i64 p.1, .int .u64 p.2.v, .int .u32 p.2.ver, .int .i64 p.2.mark]) :
    (Only [] w W ∧ Blk W B 117 #[.int .i64 p.1, .int .u64 p.2.v, .int .u32 p.2.ver, .int .i64 p.2.mark]) ∧ W.cell? ⟨bt, 2, none⟩ = some (.pointer (some ⟨bd, 0, none⟩)) ∧ W.cell? ⟨B, 0, none⟩ = some (.int .i64 p.1) ∧ W.cell? ⟨B, 1, none⟩ = some (.int .u64 p.2.v) ∧
      W.cell? ⟨B, 2, none⟩ = some (.int .u32 p.2.ver) ∧ W.cell? ⟨B, 3, none⟩ = some (.int .i64 p.2.mark) :=
  ⟨⟨ho, hb⟩, (hr.only ho (by simp) (by simp)).c2, hb.cell 0, hb.cell 1, hb.cell 2, hb.cell 3⟩
theorem ents_keep {B : Nat} {p : Int × Cl} (hr : RecAt w bt bm n cells (.pointer (some ⟨bd, 0, none⟩)) R sz) {W W' : World} {Y : Prop}
    (h : (Only [] w W ∧ Blk W B 117 #[.int .i64 p.1, .int .u64 p.2.v, .int .u32 p.2.ver, .int .i64 p.2.mark]) ∧ Y) (ho : Only [] W W') :
    (Only [] w W' ∧ Blk W' B 117 #[.int .i64 p.1, .int .u64 p.2.v, .int .u32 p.2.ver, .int .i64 p.2.mark]) ∧ W'.cell? ⟨bt, 2, none⟩ = some (.pointer (some ⟨bd, 0, none⟩)) ∧ W'.cell? ⟨B, 0, none⟩ = some (.int .i64 p.1) ∧ W'.cell? ⟨B, 1, none⟩ = some (.int .u64 p.2.v) ∧
      W'.cell? ⟨B, 2, none⟩ = some (.int .u32 p.2.ver) ∧ W'.cell? ⟨B, 3, none⟩ = some (.int .i64 p.2.mark) :=
  ents_mk hr (h.1.1.trans ho) (ho.blk h.1.2 (by simp))
theorem ents_grown {B : Nat} {p : Int × Cl} (hr : RecAt w bt bm n cells (.pointer (some ⟨bd, 0, none⟩)) R sz) {W W' : World} {Y : Prop} {row : Option Nat}
    (h : (Only [] w W ∧ Blk W B 117 #[.int .i64 p.1, .int .u64 p.2.v, .int .u32 p.2.ver, .int .i64 p.2.mark]) ∧ Y) (hg : W.grownBy W' row) (hrow : ∀ j, row = some j → w.heap.size ≤ j ∧ j < B) :
    (Only [] w W' ∧ Blk W' B 117 #[.int .i64 p.1, .int .u64 p.2.v, .int .u32 p.2.ver, .int .i64 p.2.mark]) ∧ W'.cell? ⟨bt, 2, none⟩ = some (.pointer (some ⟨bd, 0, none⟩)) ∧ W'.cell? ⟨B, 0, none⟩ = some (.int .i64 p.1) ∧ W'.cell? ⟨B, 1, none⟩ = some (.int .u64 p.2.v) ∧
      W'.cell? ⟨B, 2, none⟩ = some (.int .u32 p.2.ver) ∧ W'.cell? ⟨B, 3, none⟩ = some (.int .i64 p.2.mark) :=
  ents_mk hr (only_grown h.1.1 hg fun j hj => (hrow j hj).1) ((hg.block B h.1.2.lt (fun e => by have := (hrow B e.symm).2; omega)).trans h.1.2)
theorem ents_entry {B : Nat} {p : Int × Cl} (hd : DraftAt w bd bw bt m s over) {W : World} {Y : Prop} (hi : (Lit.int .i64 p.1).wf = true)
    (h : (Only [] w W ∧ Blk W B 117 #[.int .i64 p.1, .int .u64 p.2.v, .int .u32 p.2.ver, .int .i64 p.2.mark]) ∧ Y) {E : En} (hE : ent s.wr p.1 p.2 = E) :
    Calls Try.prog 57 #[.pointer (some ⟨bd, 0, none⟩), .int .i64 p.1, .agg #[.int .u64 p.2.v, .int .u32 p.2.ver, .int .i64 p.2.mark]] W fun e w' => e = .returned (.agg #[.int .i64 E.cell, .int .u32 E.ver, .int .u64 E.old, .int .u64 E.new, .bool E.wr]) ∧ Only [] W w' := by
  subst hE
  exact entry_any (hd.only h.1.1 (by simp) (by simp)) p.1 hi p.2
set_option maxRecDepth 100000 in
set_option maxHeartbeats 2000000 in
theorem entries_any (hr : RecAt w bt bm n cells (.pointer (some ⟨bd, 0, none⟩)) R sz) (hd : DraftAt w bd bw bt m s over) (hl : s.lk.isSome = false) (hsz : sz ≤ 1000) :
    Calls Try.prog 44 #[.pointer (some ⟨bt, 0, none⟩)] w fun e w' => ∃ (v : Value) (ks : List Int), e = .returned v ∧ KeysF R sz ks ∧
      w'.ownsRow w.heap.size 113 5 v (ents R s.wr ks).length ((ents R s.wr ks).flatMap En.row) ∧ Only [] w w' := by
  obtain ⟨i0, hi, hz0, hz1, hz2⟩ := info_parts infoEntry
  have r1 := hr.c1
  have r2 := hr.c2
  have d2 := hd.c2
  rw [hl] at d2
  have hbt := hr.blk.lt
  have hbd := hd.blk.lt
  have hbm := hr.own.lt
  obtain ⟨c, hc⟩ : ∃ c, Hid (c = sz) := ⟨_, Lib.hid rfl⟩
  have hcl : c ≤ 1000 := by have := hc.out; omega
  have hl0 := hr.own.len Try.underlying103 3
  rw [← hc.out] at hl0
  have hmk := Lib.hid fun W : World => run_makeN (P := Try.prog) (t := 96) (f := En.row) ⟨0, 0, 0, 0, false⟩ infoEntry Try.underlying96 En.row_len (by omega) rfl .i64 .i64 0 c (by omega) (by omega) (by omega) (by omega) W
  go_enter Try.func44, Try.ntmps44
  go_wp2_with fail
  rw [hmk.out]
  have hr0 : (w.alloc (.cells (flat En.row (List.replicate (((c : Nat) : Int).toNat) ⟨0, 0, 0, 0, false⟩)) 113)).ownsRow w.heap.size 113 5 (.slice (some ⟨w.heap.size, 0, none⟩) (Int.toNat 0) (((c : Nat) : Int).toNat)) 0 [] :=
    World.ownsRow_made w _ _ (Nat.le_refl _) (by unfold maxLen; omega) (by rw [flat_size En.row_len]; simp)
  have hB0 : Only [] w (w.alloc (.cells (flat En.row (List.replicate (((c : Nat) : Int).toNat) ⟨0, 0, 0, 0, false⟩)) 113)) := (Only.refl _ w).alloc _
  have hzm : (w.alloc (.cells (flat En.row (List.replicate (((c : Nat) : Int).toNat) ⟨0, 0, 0, 0, false⟩)) 113)).heap.size = w.heap.size + 1 := by simp
  have r1' := (hB0.cell (p := ⟨bt, 1, none⟩) hbt (by simp)).trans r1
  have hown := hr.own.only hB0 (by simp)
  generalize w.alloc (.cells (flat En.row (List.replicate (((c : Nat) : Int).toNat) ⟨0, 0, 0, 0, false⟩)) 113) = wm at hr0 hB0 hzm r1' hown ⊢
  clear hmk hl0 r1 r2 d2
  go_wp2_with fail
  refine (ofC_any bm n wm hown hsz).mono ?_
  rintro e w2 ⟨pv, ks, rfl, hK, hpr, hB2⟩
  obtain ⟨SA, scap, rfl, hsc⟩ := row_cells prowC_len hpr
  have ho2 := hB0.trans (Only.of_below hB2 [])
  have hr2 := owns_below hr0 hB2 (fun j hj => by simp [Value.ownBlock] at hj; omega)
  clear hr0 hB0 hB2 hsc r1' hown
  rw [hzm] at hpr
  simp only [Int.toNat_natCast, Int.toNat_zero] at hr2
  have hpl : (prsC R ks).length = ks.length := by simp [prsC]
  obtain ⟨q, hq⟩ : ∃ q, Hid (q = prsC R ks) := ⟨_, Lib.hid rfl⟩
  rw [← hq.out] at hpr hpl ⊢
  have hql := Lib.hid hpl
  clear hpl
  have ho2' := Lib.hid ho2
  clear ho2
  go_wp2_with fail
  go_loopw [3, 32] (fun l i wr => ∃ j : Nat, j ≤ q.length ∧ i = .int .i64 j ∧ wr.ownsRow w.heap.size 113 5 l j ((ents R s.wr (ks.take j)).flatMap En.row) ∧
    wr.ownsRow (w.heap.size + 1) 117 4 (.slice SA q.length scap) q.length (q.flatMap prowC) ∧ Only [] w wr) (fun _ i _ => q.length - (intOf i).toNat)
  case atStart => exact ⟨0, by omega, rfl, by simpa [ents] using hr2, hpr, ho2'.out⟩
  case round =>
    clear hr2 ho2' hpr
    obtain ⟨j, hj, rfl, hrow, hpr, ho⟩ := hrel
    have hbs := ho.size
    by_cases hlt : j < q.length
    · obtain ⟨p, hp⟩ : ∃ p, q[j]? = some p := ⟨_, List.getElem?_eq_getElem hlt⟩
      obtain ⟨SA', cap', e1, hsc⟩ := row_cells prowC_len hpr
      injection e1 with e1 _ e3
      subst e1 e3
      obtain ⟨sb, e2, hsb, hsl, hsx⟩ := hsc j p hp
      subst e2
      have x0 := hsx 0 _ rfl
      have x1 := hsx 1 _ rfl
      have x2 := hsx 2 _ rfl
      have x3 := hsx 3 _ rfl
      rw [Nat.add_zero] at x0
      clear hsc hsx
      have hp' := Lib.hid hp
      have hK' := Lib.hid hK
      have hjb : j ≤ 1000 := by have := hql.out; have := hK.len; omega
      clear hp hK
      go_wp2_with fail
      have hB := Blk.new wr 117 #[.int .i64 p.1, .int .u64 p.2.v, .int .u32 p.2.ver, .int .i64 p.2.mark]
      have ho' := ho.alloc (.cells #[.int .i64 p.1, .int .u64 p.2.v, .int .u32 p.2.ver, .int .i64 p.2.mark] 117)
      have hrow' := hrow.alloc (.cells #[.int .i64 p.1, .int .u64 p.2.v, .int .u32 p.2.ver, .int .i64 p.2.mark] 117)
      have hpr' := hpr.alloc (.cells #[.int .i64 p.1, .int .u64 p.2.v, .int .u32 p.2.ver, .int .i64 p.2.mark] 117)
      have hzx : (wr.alloc (.cells #[.int .i64 p.1, .int .u64 p.2.v, .int .u32 p.2.ver, .int .i64 p.2.mark] 117)).heap.size = wr.heap.size + 1 := by simp
      have hge : ∀ j, u3.ownBlock = some j → w.heap.size ≤ j ∧ j < wr.heap.size := fun j hj => ⟨(hrow.lt j hj).1, (hrow.lt j hj).2⟩
      generalize wr.alloc (.cells #[.int .i64 p.1, .int .u64 p.2.v, .int .u32 p.2.ver, .int .i64 p.2.mark] 117) = wx at hB ho' hrow' hpr' hzx ⊢
      clear hrow hpr ho x0 x1 x2 x3
      obtain ⟨E, hE⟩ : ∃ E, Hid (ent s.wr p.1 p.2 = E) := ⟨_, Lib.hid rfl⟩
      have hmem : p.1 ∈ ks ∧ p.2 = clOf R p.1 ∧ ks[j]? = some p.1 := by
        have h1 := hp'.out
        rw [hq.out, prsC, List.getElem?_map] at h1
        cases hk : ks[j]? with
        | none => rw [hk] at h1; cases h1
        | some k =>
          rw [hk] at h1
          cases h1
          exact ⟨List.mem_of_getElem? hk, rfl, rfl⟩
      have hwf := Lib.hid (hK'.out.wf _ hmem.1)
      have hmem' := Lib.hid hmem
      clear hmem
      go_region_held3 (fun W => (Only [] w W ∧ Blk W wr.heap.size 117 #[.int .i64 p.1, .int .u64 p.2.v, .int .u32 p.2.ver, .int .i64 p.2.mark]) ∧ W.cell? ⟨bt, 2, none⟩ = some (.pointer (some ⟨bd, 0, none⟩)) ∧ W.cell? ⟨wr.heap.size, 0, none⟩ = some (.int .i64 p.1) ∧ W.cell? ⟨wr.heap.size, 1, none⟩ = some (.int .u64 p.2.v) ∧
          W.cell? ⟨wr.heap.size, 2, none⟩ = some (.int .u32 p.2.ver) ∧ W.cell? ⟨wr.heap.size, 3, none⟩ = some (.int .i64 p.2.mark))
        (first | exact ents_mk hr ho'.drew hB.drew | exact ents_mk hr ho' hB | exact ents_grown hr ‹_› hgrow hge | exact ents_keep hr ‹_› ho3 | exact ents_keep hr ‹_› ((Only.refl [] _).alloc _))
        (first | (go_at_call 57; (with_reducible refine (ents_entry hd hwf.out ‹_› hE.out).mono ?_); rintro e w3 ⟨rfl, ho3⟩) | (refine step_append_lies _ (by rfl) _ _ _ (by rfl) w.heap.size 113 i0 _ 5 40 Try.underlying96 hi hz0 hz1 hz2 rfl (by omega) u3 j _ (by rfl) ((owns_only hrow'.drew ho3 (by simp)).alloc _) ⟨w3.heap.size, 0, none⟩ 1 1 E.row (by rfl) (by rfl) (World.news_of_block (cs := E.row.toArray) (t := 113) (fr := (0, 0)) (heap_alloc_new w3 _)) (by simp [Value.oneCell', En.row]) (by omega) (by unfold maxLen; omega) (by omega) (by have := ho3.size; have : wx.drew.heap.size = wx.heap.size := rfl; simp; omega) (w3.heap.size + 1) (by simp) ?_; intro gg cap w5 hown' hgrow hat hltg))
      have hO : Only [] w w5 := only_grown ((ho'.drew.trans ho3).alloc _) hgrow fun k hk => (hge k hk).1
      have hP : w5.ownsRow (w.heap.size + 1) 117 4 (.slice (some ⟨sb, 0, none⟩) q.length scap) q.length (q.flatMap prowC) :=
        ((owns_only hpr'.drew ho3 (by simp)).alloc _).kept hgrow (rows_apart hpr' hrow' (by decide))
      clear hrow' hpr' ho' ho3 hgrow hat hltg
      go_wp2_with fail
      refine ⟨⟨j + 1, by omega, by go_num, ?_, hP, hO⟩, by simp [intOf]; omega⟩
      rw [List.take_add_one, hmem'.out.2.2]
      have he : ent s.wr p.1 (clOf R p.1) = E := by rw [← hmem'.out.2.1]; exact hE.out
      simpa [ents, he] using hown'
    · obtain rfl : j = q.length := by omega
      have hkl : q.length = ks.length := hql.out
      have hl2 : (ents R s.wr ks).length = q.length := by simp [ents, hkl]
      rw [List.take_of_length_le (by omega)] at hrow
      obtain ⟨v, ku⟩ : ∃ v, u3 = v := ⟨_, rfl⟩
      have hX := Lib.hid (show wr.ownsRow w.heap.size 113 5 u3 (ents R s.wr ks).length ((ents R s.wr ks).flatMap En.row) by rw [hl2]; exact hrow)
      have hK' := Lib.hid hK
      clear hrow hl2 hkl hpr hK ku v
      go_wp2_with fail
      go_ret
      exact ⟨u3, ks, rfl, hK'.out, hX.out, ho⟩
end
end Go.Proofs.Ytleomgmhkoglmaa
