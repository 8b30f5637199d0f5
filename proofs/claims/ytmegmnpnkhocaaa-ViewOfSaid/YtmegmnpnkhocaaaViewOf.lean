/- What Of of package view answers, at ints (layer 5): for every map that is not long. -/
import Derived.Test.YtmegmnpnkhocaaaViewKeys
import Derived.BigQuiet
import Derived.Handy
namespace Go.Proofs.Ytmegmnpnkhocaaa
open Go.RowKit Go.Maps Go.Sort
theorem infoPairI : (Try.prog.info? 44).map (fun i => (i.zero, i.size, i.bytes)) = some (some (.agg #[.int .i64 0, .int .i64 0]), 2, 16) := by kernel_rfl
theorem zeroI (w : World) : (zeroValue 3).run Try.prog w = .ok (.int .i64 0) w := by kernel_rfl
theorem cell_two (w : World) (a b : Value) (t : TypeId) : ∀ (j : Nat) (u : Value), [a, b][j]? = some u → (w.alloc (.cells #[a, b] t)).cell? ((⟨w.heap.size, 0, none⟩ : Addr).add j) = some u := fun j u hj => by
  have hB := Blk.new w t #[a, b]
  have e : (⟨w.heap.size, 0, none⟩ : Addr).add j = ⟨w.heap.size, j, none⟩ := by
    unfold Addr.add
    split
    · next h => simp [h]
    · simp
  rw [e, hB.cell j]
  simpa using hj
section
variable {w w' : World} {base base' : Nat} {e e' : TypeId} {size size' : Nat} {v v' : Value} {k k' : Nat} {xs xs' : List Value}
/-- rows of unlike types are two rows -/
theorem rows_apart (h : w.ownsRow base e size v k xs) (h' : w.ownsRow base' e' size' v' k' xs') (hne : e ≠ e') : v.ownBlock = none ∨ v.ownBlock ≠ v'.ownBlock := by
  rcases h.2 with ⟨rfl, _⟩ | ⟨g, cap, cur, rfl, _, hg, _⟩
  · exact .inl rfl
  · rcases h'.2 with ⟨rfl, _⟩ | ⟨g', cap', cur', rfl, _, hg', _⟩
    · exact .inr (by simp [Value.ownBlock])
    · refine .inr fun hq => ?_
      obtain rfl : g = g' := by simpa [Value.ownBlock] using hq
      rw [hg] at hg'
      simp at hg'
      exact hne hg'.2
theorem row_ge (h : w.ownsRow base e size v k xs) : ∀ j, v.ownBlock = some j → base ≤ j := fun j hj => (h.lt j hj).1
theorem owns_below {n : Nat} (h : w.ownsRow base e size v k xs) (hb : Below n w w') (hlt : ∀ j, v.ownBlock = some j → j < n) : w'.ownsRow base e size v k xs := by
  refine ⟨h.1, h.2.imp id ?_⟩
  rintro ⟨g, cap, cur, rfl, hB, hg, r⟩
  exact ⟨g, cap, cur, rfl, hB, (hb.block g (hlt g rfl)).trans hg, r⟩
theorem ownsMap_below {H : Type} {P : Program} {K : TypeId} {R : Value → Option (DataW H × List MemPlace)} {b nn n : Nat} {D : DataW H} (h : w.ownsMap P K R b nn D) (hb : Below n w w') (hlt : b < n) : w'.ownsMap P K R b nn D := by
  obtain ⟨es, clock, hh, F, hs, hD⟩ := h
  exact ⟨es, clock, (hb.block b hlt).trans hh, F, hs, hD⟩
/-- the cells of a row of numbers -/
theorem row_ints {L : List Int} (h : w.ownsRow base e 1 v L.length (L.map encZ)) : ∃ (A : Option Addr) (cap : Nat), v = .slice A L.length cap ∧ ∀ (j : Nat) (x : Int), L[j]? = some x → ∃ b, A = some ⟨b, 0, none⟩ ∧ base ≤ b ∧ b < w.heap.size ∧ w.cell? ⟨b, j, none⟩ = some (.int .i64 x) := by
  rcases h.2 with ⟨rfl, h0⟩ | ⟨g, cap, cur, rfl, hB, hg, _, _, _, ht⟩
  · exact ⟨none, 0, by rw [h0], fun j x hx => by have := (List.getElem?_eq_some_iff.1 hx).1; omega⟩
  · refine ⟨_, cap, rfl, fun j x hx => ⟨g, rfl, hB, (Array.getElem?_eq_some_iff.1 hg).1, ?_⟩⟩
    have e1 : (cur.toList.take (L.length * 1))[j]? = some (.int .i64 x) := by rw [ht]; simp [hx, encZ]
    have hk := (List.getElem?_eq_some_iff.1 hx).1
    rw [List.getElem?_take_of_lt (by omega), Array.getElem?_toList] at e1
    exact (Blk.cell (show Blk w g e cur from hg) j).trans e1
end
/-- the pairs that a map's keys make -/
def prsD {H : Type} (D : DataW H) (ks : List Int) : List (Int × Int) := ks.map fun k => (k, valD D k)

set_option maxRecDepth 100000 in
set_option maxHeartbeats 2000000 in
theorem of_any {H : Type} (b nn : Nat) (D : DataW H) (w : World) (hown : w.ownsMap Try.prog 3 (plainElem Try.prog 3) b nn D) (hmax : Maps.size D ≤ 1000) :
    Calls Try.prog 12 #[.map (some b)] w fun e w' => ∃ (v : Value) (ks : List Int), e = .returned v ∧ KeysOf D ks ∧
      w'.ownsRow w.heap.size 44 2 v (prsD D ks).length ((prsD D ks).flatMap (prow .i64)) ∧ Below w.heap.size w w' := by
  obtain ⟨i0, hi, hz0, hz1, hz2⟩ := info_parts infoPairI
  obtain ⟨c, hc⟩ : ∃ c, Hid (c = Maps.size D) := ⟨_, Lib.hid rfl⟩
  have hcl : c ≤ 1000 := by have := hc.out; omega
  have hlen : ∀ W : World, W.ownsMap Try.prog 3 (plainElem Try.prog 3) b nn D → (Builtin.len_ #[39] 3 #[.map (some b)]).run Try.prog W = .ok (.int .i64 (c : Int)) W := fun W h => by
    rw [hc.out]
    exact h.len Try.underlying39 _
  have hl0 := hlen w hown
  have hmk := Lib.hid fun W : World => run_makeN (P := Try.prog) (t := 40) (f := prow .i64) (0, 0) infoPairI Try.underlying40 (prow_len _) (by omega) rfl .i64 .i64 0 c (by omega) (by omega) (by omega) (by omega) W
  go_enter Try.func12, Try.ntmps12
  go_wp2_with fail
  rw [hmk.out]
  have hr0 : (w.alloc (.cells (flat (prow .i64) (List.replicate (((c : Nat) : Int).toNat) (0, 0))) 44)).ownsRow w.heap.size 44 2 (.slice (some ⟨w.heap.size, 0, none⟩) (Int.toNat 0) (((c : Nat) : Int).toNat)) 0 [] :=
    World.ownsRow_made w _ _ (Nat.le_refl _) (by unfold maxLen; omega) (by rw [flat_size (prow_len _)]; simp)
  have ho0 := hown.alloc (.cells (flat (prow .i64) (List.replicate (((c : Nat) : Int).toNat) (0, 0))) 44)
  have hB0 : Below w.heap.size w (w.alloc (.cells (flat (prow .i64) (List.replicate (((c : Nat) : Int).toNat) (0, 0))) 44)) := (Below.refl _ w).alloc (Nat.le_refl _) _
  have hzm : (w.alloc (.cells (flat (prow .i64) (List.replicate (((c : Nat) : Int).toNat) (0, 0))) 44)).heap.size = w.heap.size + 1 := by simp
  generalize w.alloc (.cells (flat (prow .i64) (List.replicate (((c : Nat) : Int).toNat) (0, 0))) 44) = wm at hr0 ho0 hB0 hzm ⊢
  clear hmk hl0
  have hbw := hown.lt
  have cS := sorted_any b nn D wm ho0 hmax
  rw [hzm] at cS
  go_wp2_with (first
    | (go_at_call 16; (with_reducible refine (keys_any _ _).mono ?_); rintro e w' ⟨rfl, rfl⟩)
    | (go_at_call 15; refine cS.mono ?_; clear cS; rintro e w2 ⟨sv, ks, rfl, hK, hsr, hB2⟩; obtain ⟨SA, scap, rfl, hsc⟩ := row_ints hsr))
  have hr2 := hr0.kept (w' := wm.alloc (.cells #[.map (some b)] 39)) (World.grownBy_alloc _ _ none) (.inr (by simp [Value.ownBlock]))
  have ho2 := ho0.alloc (.cells #[.map (some b)] 39)
  have hB3 : Below w.heap.size w w2 := (hB0.alloc (by omega) _).trans (hB2.mono (by omega))
  replace hr2 := owns_below hr2 hB2 (fun j hj => by simp [Value.ownBlock] at hj; omega)
  replace ho2 := ownsMap_below ho2 hB2 (by omega)
  clear hr0 ho0 hB0 hB2 hown hlen hsc
  simp only [Int.toNat_natCast, Int.toNat_zero] at hr2
  go_loopw [3, 13] (fun l i wr => ∃ j : Nat, j ≤ ks.length ∧ i = .int .i64 j ∧ wr.ownsRow w.heap.size 44 2 l j ((prsD D (ks.take j)).flatMap (prow .i64)) ∧ wr.ownsMap Try.prog 3 (plainElem Try.prog 3) b nn D ∧
    wr.ownsRow (w.heap.size + 1 + 1) 3 1 (.slice SA ks.length scap) ks.length (ks.map encZ) ∧ Below w.heap.size w wr) (fun _ i _ => ks.length - (intOf i).toNat)
  case atStart => exact ⟨0, by omega, rfl, by simpa [prsD] using hr2, ho2, hsr, hB3⟩
  case round =>
    clear hr2 ho2 hsr hB3
    obtain ⟨j, hj, rfl, hrow, hown, hsr, hB⟩ := hrel
    have hkl := hK.len
    have hbs := hB.size
    by_cases hlt : j < ks.length
    · obtain ⟨x, hx⟩ : ∃ x, ks[j]? = some x := ⟨_, List.getElem?_eq_getElem hlt⟩
      obtain ⟨SA', cap', e1, hsc⟩ := row_ints hsr
      injection e1 with e1 _ e3
      subst e1 e3
      obtain ⟨sb, e2, hsb, hsl, hsx⟩ := hsc j x hx
      subst e2
      have hkey : keyOf Try.prog 3 (.int .i64 x) = some (.int .i64 x) := keyOf_int_mk Try.underlying3 (hK.wf x (List.mem_of_getElem? hx))
      clear hsc
      have hK' := Lib.hid hK
      have hx' := Lib.hid hx
      have hkl' := Lib.hid hkl
      have hjb : j ≤ 1000 := by omega
      clear hK hx hkl
      go_wp2_with (first
        | (at_lookup; refine wpList_lookup_own_int _ rfl _ _ 39 rfl 3 3 .i64 (int_keyed Try.underlying3) Try.underlying39 Try.underlying3 (zeroI _) b nn D rfl hown _ _ rfl hkey ?_; intro cv hat hwc)
        | (at_builtin; refine wpList_append_own _ rfl _ _ 40 rfl w.heap.size 44 i0 (.agg #[.int .i64 0, .int .i64 0]) 2 16 Try.underlying40 hi hz0 hz1 hz2 rfl (by decide) _ _ _ rfl (hrow.alloc _) ⟨wr.heap.size, 0, none⟩ 1 1 [.int .i64 x, .int .i64 cv] rfl rfl (cell_two _ _ _ _) (by simp [Value.oneCell']) (by unfold maxLen; omega) (by omega) (by simp; omega) ?_; intro v' w1 hown' hgrow _))
      have hg : (wr.alloc (.cells #[.int .i64 x, .int .i64 cv] 44)).grownBy w1 u3.ownBlock := hgrow
      have hge := row_ge hrow
      have hcv := valD_is hat
      refine ⟨⟨j + 1, by omega, by go_num, ?_, ?_, ?_, ?_⟩, by simp [intOf]; omega⟩
      · rw [List.take_add_one, hx'.out]
        simpa [prsD, prow, hcv] using hown'
      · exact (hown.alloc _).kept hg (fun e => by have := hge b e.symm; omega)
      · exact (hsr.alloc _).kept hg (rows_apart hsr hrow (by decide))
      · exact (hB.alloc (by omega) _).grown hg (by simp; omega) hge
    · obtain rfl : j = ks.length := by omega
      rw [List.take_length] at hrow
      go_wp2_with fail
      go_ret
      refine ⟨u3, ks, rfl, hK, ?_, hB⟩
      simpa [prsD] using hrow
end Go.Proofs.Ytmegmnpnkhocaaa
