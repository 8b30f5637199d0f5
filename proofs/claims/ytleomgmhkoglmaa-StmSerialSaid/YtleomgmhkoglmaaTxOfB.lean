/- What Of of package view answers, at cells (layer 6): for every map that is not long. -/
import Derived.Test.YtleomgmhkoglmaaTxKeysB
import Derived.Test.YtleomgmhkoglmaaEntM
namespace Go.Proofs.Ytleomgmhkoglmaa
open Go.RowKit Go.Maps Go.Sort
theorem infoPairC : (Try.prog.info? 117).map (fun i => (i.zero, i.size, i.bytes)) = some (some (.agg #[.int .i64 0, .int .u64 0, .int .u32 0, .int .i64 0]), 4, 32) := by kernel_rfl
/-- the four cells of a pair -/
def prowC (p : Int × Cl) : List Value := [.int .i64 p.1, .int .u64 p.2.v, .int .u32 p.2.ver, .int .i64 p.2.mark]
theorem prowC_len (p : Int × Cl) : (prowC p).length = 4 := rfl
theorem cell_lit (w : World) (l : List Value) (t : TypeId) : ∀ (j : Nat) (u : Value), l[j]? = some u → (w.alloc (.cells l.toArray t)).cell? ((⟨w.heap.size, 0, none⟩ : Addr).add j) = some u := fun j u hj => by
  have hB := Blk.new w t l.toArray
  have e : (⟨w.heap.size, 0, none⟩ : Addr).add j = ⟨w.heap.size, j, none⟩ := by
    unfold Addr.add
    split
    · next h => simp [h]
    · simp
  rw [e, hB.cell j]
  simpa using hj
section
variable {w w' : World} {base base' : Nat} {e e' : TypeId} {size size' : Nat} {v v' : Value} {k k' : Nat} {xs xs' : List Value}
/-- rows of unlike types are two rows -/
theorem rows_apart (h : w.ownsRow base e size v k xs) (h' : w.ownsRow base' e' size' v' k' xs') (hne : e ≠ e') : v.ownBlock = none ∨ v.ownBlock ≠ v'.ownBlock := by
  rcases h.2 with ⟨rfl, _⟩ | ⟨g, cap, cur, rfl, _, hg, _⟩
  · exact .inl rfl
  · rcases h'.2 with ⟨rfl, _⟩ | ⟨g', cap', cur', rfl, _, hg', _⟩
    · exact .inr (by simp [Value.ownBlock])
    · refine .inr fun hq => ?_
      obtain rfl : g = g' := by simpa [Value.ownBlock] using hq
      rw [hg] at hg'
      simp at hg'
      exact hne hg'.2
theorem row_ge (h : w.ownsRow base e size v k xs) : ∀ j, v.ownBlock = some j → base ≤ j := fun j hj => (h.lt j hj).1
theorem owns_below {n : Nat} (h : w.ownsRow base e size v k xs) (hb : Below n w w') (hlt : ∀ j, v.ownBlock = some j → j < n) : w'.ownsRow base e size v k xs := by
  refine ⟨h.1, h.2.imp id ?_⟩
  rintro ⟨g, cap, cur, rfl, hB, hg, r⟩
  exact ⟨g, cap, cur, rfl, hB, (hb.block g (hlt g rfl)).trans hg, r⟩
theorem mapIn_below {α : Type} {E : Elm α} {P : Program} {kt : TypeId} {b nn n : Nat} {F : Int → Option α} {sz : Nat} (h : MapIn E P kt w b nn F sz) (hb : Below n w w') (hlt : b < n) : MapIn E P kt w' b nn F sz := h.same (hb.block b hlt)
theorem mapIn_kept {α : Type} {E : Elm α} {P : Program} {kt : TypeId} {b nn : Nat} {F : Int → Option α} {sz : Nat} {row : Option Nat} (h : MapIn E P kt w b nn F sz) (hg : w.grownBy w' row) (hne : some b ≠ row) : MapIn E P kt w' b nn F sz := h.same (hg.block b h.lt hne)
/-- the cells of a row of numbers -/
theorem row_ints {L : List Int} (h : w.ownsRow base e 1 v L.length (L.map encZ)) : ∃ (A : Option Addr) (cap : Nat), v = .slice A L.length cap ∧ ∀ (j : Nat) (x : Int), L[j]? = some x → ∃ b, A = some ⟨b, 0, none⟩ ∧ base ≤ b ∧ b < w.heap.size ∧ w.cell? ⟨b, j, none⟩ = some (.int .i64 x) := by
  rcases h.2 with ⟨rfl, h0⟩ | ⟨g, cap, cur, rfl, hB, hg, _, _, _, ht⟩
  · exact ⟨none, 0, by rw [h0], fun j x hx => by have := (List.getElem?_eq_some_iff.1 hx).1; omega⟩
  · refine ⟨_, cap, rfl, fun j x hx => ⟨g, rfl, hB, (Array.getElem?_eq_some_iff.1 hg).1, ?_⟩⟩
    have e1 : (cur.toList.take (L.length * 1))[j]? = some (.int .i64 x) := by rw [ht]; simp [hx, encZ]
    have hk := (List.getElem?_eq_some_iff.1 hx).1
    rw [List.getElem?_take_of_lt (by omega), Array.getElem?_toList] at e1
    exact (Blk.cell (show Blk w g e cur from hg) j).trans e1
end
/-- the pairs that a map's keys make -/
def prsC (F : Int → Option Cl) (ks : List Int) : List (Int × Cl) := ks.map fun k => (k, clOf F k)

set_option maxRecDepth 100000 in
set_option maxHeartbeats 2000000 in
theorem ofC_any {F : Int → Option Cl} {sz : Nat} (b nn : Nat) (w : World) (hown : MapIn cellE Try.prog 3 w b nn F sz) (hmax : sz ≤ 1000) :
    Calls Try.prog 56 #[.map (some b)] w fun e w' => ∃ (v : Value) (ks : List Int), e = .returned v ∧ KeysF F sz ks ∧
      w'.ownsRow w.heap.size 117 4 v (prsC F ks).length ((prsC F ks).flatMap prowC) ∧ Below w.heap.size w w' := by
  obtain ⟨i0, hi, hz0, hz1, hz2⟩ := info_parts infoPairC
  obtain ⟨c, hc⟩ : ∃ c, Hid (c = sz) := ⟨_, Lib.hid rfl⟩
  have hcl : c ≤ 1000 := by have := hc.out; omega
  have hl0 := hown.len Try.underlying103 3
  rw [← hc.out] at hl0
  have hmk := Lib.hid fun W : World => run_makeN (P := Try.prog) (t := 114) (f := prowC) (0, ⟨0, 0, 0⟩) infoPairC Try.underlying114 (prowC_len) (by omega) rfl .i64 .i64 0 c (by omega) (by omega) (by omega) (by omega) W
  go_enter Try.func56, Try.ntmps56
  go_wp2_with fail
  rw [hmk.out]
  have hr0 : (w.alloc (.cells (flat prowC (List.replicate (((c : Nat) : Int).toNat) (0, ⟨0, 0, 0⟩))) 117)).ownsRow w.heap.size 117 4 (.slice (some ⟨w.heap.size, 0, none⟩) (Int.toNat 0) (((c : Nat) : Int).toNat)) 0 [] :=
    World.ownsRow_made w _ _ (Nat.le_refl _) (by unfold maxLen; omega) (by rw [flat_size prowC_len]; simp)
  have hB0 : Below w.heap.size w (w.alloc (.cells (flat prowC (List.replicate (((c : Nat) : Int).toNat) (0, ⟨0, 0, 0⟩))) 117)) := (Below.refl _ w).alloc (Nat.le_refl _) _
  have ho0 := mapIn_below hown hB0 hown.lt
  have hzm : (w.alloc (.cells (flat prowC (List.replicate (((c : Nat) : Int).toNat) (0, ⟨0, 0, 0⟩))) 117)).heap.size = w.heap.size + 1 := by simp
  generalize w.alloc (.cells (flat prowC (List.replicate (((c : Nat) : Int).toNat) (0, ⟨0, 0, 0⟩))) 117) = wm at hr0 ho0 hB0 hzm ⊢
  clear hmk hl0
  have hbw := hown.lt
  have cS := sorted_any b nn wm ho0 hmax
  rw [hzm] at cS
  go_wp2_with (first
    | (go_at_call 62; (with_reducible refine (keys_any _ _).mono ?_); rintro e w' ⟨rfl, rfl⟩)
    | (go_at_call 61; refine cS.mono ?_; clear cS; rintro e w2 ⟨sv, ks, rfl, hK, hsr, hB2⟩; obtain ⟨SA, scap, rfl, hsc⟩ := row_ints hsr))
  have hr2 := hr0.kept (w' := wm.alloc (.cells #[.map (some b)] 103)) (World.grownBy_alloc _ _ none) (.inr (by simp [Value.ownBlock]))
  have ho2 := mapIn_kept ho0 (World.grownBy_alloc wm (.cells #[.map (some b)] 103) none) (by simp)
  have hB3 : Below w.heap.size w w2 := (hB0.alloc (by omega) _).trans (hB2.mono (by omega))
  replace hr2 := owns_below hr2 hB2 (fun j hj => by simp [Value.ownBlock] at hj; omega)
  replace ho2 := mapIn_below ho2 hB2 (by omega)
  clear hr0 ho0 hB0 hB2 hown hsc
  simp only [Int.toNat_natCast, Int.toNat_zero] at hr2
  go_loopw [3, 13] (fun l i wr => ∃ j : Nat, j ≤ ks.length ∧ i = .int .i64 j ∧ wr.ownsRow w.heap.size 117 4 l j ((prsC F (ks.take j)).flatMap prowC) ∧ MapIn cellE Try.prog 3 wr b nn F sz ∧
    wr.ownsRow (w.heap.size + 1 + 1) 3 1 (.slice SA ks.length scap) ks.length (ks.map encZ) ∧ Below w.heap.size w wr) (fun _ i _ => ks.length - (intOf i).toNat)
  case atStart => exact ⟨0, by omega, rfl, by simpa [prsC] using hr2, ho2, hsr, hB3⟩
  case round =>
    clear hr2 ho2 hsr hB3
    obtain ⟨j, hj, rfl, hrow, hown, hsr, hB⟩ := hrel
    have hkl := hK.len
    have hbs := hB.size
    by_cases hlt : j < ks.length
    · obtain ⟨x, hx⟩ : ∃ x, ks[j]? = some x := ⟨_, List.getElem?_eq_getElem hlt⟩
      obtain ⟨SA', cap', e1, hsc⟩ := row_ints hsr
      injection e1 with e1 _ e3
      subst e1 e3
      obtain ⟨sb, e2, hsb, hsl, hsx⟩ := hsc j x hx
      subst e2
      obtain ⟨cl, hcl⟩ : ∃ cl, Hid (clOf F x = cl) := ⟨_, Lib.hid rfl⟩
      have look := hown.look (t := 103) keyedI Try.underlying103 Try.underlying3 (zeroCell wr) (hK.wf x (List.mem_of_getElem? hx))
      rw [show cellE.zero = ⟨0, 0, 0⟩ from rfl, show (F x).getD ⟨0, 0, 0⟩ = cl from hcl.out] at look
      simp only [cellE, Cl.val] at look
      clear hsc
      have hK' := Lib.hid hK
      have hx' := Lib.hid hx
      have hkl' := Lib.hid hkl
      have hjb : j ≤ 1000 := by omega
      clear hK hx hkl
      go_wp2_with (first
        | (at_builtin; refine wpList_append_own _ rfl _ _ 114 rfl w.heap.size 117 i0 (.agg #[.int .i64 0, .int .u64 0, .int .u32 0, .int .i64 0]) 4 32 Try.underlying114 hi hz0 hz1 hz2 rfl (by decide) _ _ _ rfl (hrow.alloc _) ⟨wr.heap.size, 0, none⟩ 1 1 [.int .i64 x, .int .u64 cl.v, .int .u32 cl.ver, .int .i64 cl.mark] rfl rfl (cell_lit _ _ _) (by simp [Value.oneCell']) (by unfold maxLen; omega) (by omega) (by simp; omega) ?_; intro v' w1 hown' hgrow _))
      have hg : (wr.alloc (.cells #[.int .i64 x, .int .u64 cl.v, .int .u32 cl.ver, .int .i64 cl.mark] 117)).grownBy w1 u3.ownBlock := hgrow
      have hge := row_ge hrow
      refine ⟨⟨j + 1, by omega, by go_num, ?_, ?_, ?_, ?_⟩, by simp [intOf]; omega⟩
      · rw [List.take_add_one, hx'.out]
        simpa [prsC, prowC, hcl.out] using hown'
      · exact mapIn_kept (mapIn_kept hown (World.grownBy_alloc _ _ none) (by simp)) hg (fun e => by have := hge b e.symm; omega)
      · exact (hsr.alloc _).kept hg (rows_apart hsr hrow (by decide))
      · exact (hB.alloc (by omega) _).grown hg (by simp; omega) hge
    · obtain rfl : j = ks.length := by omega
      rw [List.take_length] at hrow
      go_wp2_with fail
      go_ret
      refine ⟨u3, ks, rfl, hK, ?_, hB⟩
      simpa [prsC] using hrow
end Go.Proofs.Ytleomgmhkoglmaa
