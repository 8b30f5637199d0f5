/- What way, List of package queue answer (layer 14), of any view; where a list of numbers has a number (slices.Index). -/
import Derived.Test.YtdkjfalhalepgaaJ12
import Derived.Test.YtdkjfalhalepgaaJ3
import Derived.Test.YtdkjfalhalepgaaJ5
namespace Go.Proofs.Ytdkjfalhalepgaa
open Go.RowKit
/-- a list of numbers of one's own, made since, that lies from any place of its block on -/
def MadeW (w : World) (base : Nat) (v : Value) (L : List Int) : Prop := ∃ A cp, v = .slice A L.length cp ∧ ∀ (k : Nat) (x : Int), L[k]? = some x → ∃ g o, A = some ⟨g, o, none⟩ ∧ base ≤ g ∧ g < w.heap.size ∧ w.cell? ⟨g, o + k, none⟩ = some (.int .i64 x)
theorem MadeW.only {w w' : World} {base : Nat} {v : Value} {L : List Int} {F : List Nat} (h : MadeW w base v L) (ho : Only F w w') (hF : ∀ k, k ∈ F → k < base) : MadeW w' base v L := by
  obtain ⟨A, cp, e, hc⟩ := h
  refine ⟨A, cp, e, fun k x hx => ?_⟩
  obtain ⟨g, o, hA, hb, hg, h1⟩ := hc k x hx
  exact ⟨g, o, hA, hb, Nat.lt_of_lt_of_le hg ho.size, by rw [ho.cell (p := ⟨g, o + k, none⟩) hg (fun hm => by have := hF g hm; omega)]; exact h1⟩
/-- what way has made: a list that begins with the object -/
theorem way_cells {w : World} {base : Nat} {u : Value} {o : Int} {L : List Int} (h : w.ownsRow base ItT 1 u (L.length + 1) ((o :: L).flatMap irow')) :
    ∃ g cp, u = .slice (some ⟨g, 0, none⟩) (L.length + 1) cp ∧ L.length + 1 ≤ cp ∧ base ≤ g ∧ g < w.heap.size ∧ ∀ (k : Nat) (x : Int), (o :: L)[k]? = some x → w.cell? ⟨g, k, none⟩ = some (.int .i64 x) := by
  obtain ⟨A, cp, rfl, hR⟩ := RowN.of_owns (L := o :: L) irow'_len h
  obtain ⟨g, rfl, hg, -⟩ := rowN_cell (k := 0) (x := o) hR rfl
  have hcp : L.length + 1 ≤ cp := by
    rcases h.2 with ⟨e, -⟩ | ⟨g2, cap, cur, e, -, -, h1, -⟩
    · cases e
    · cases e
      exact h1
  exact ⟨g, cp, rfl, hcp, own_base h rfl, hg, fun k x hx => by obtain ⟨g2, e, -, h2⟩ := rowN_cell hR hx; cases e; exact h2⟩
section
set_option maxRecDepth 100000 in
theorem index_is (w : World) (A : Option Addr) (l : List Int) (cap : Nat) (t : Int) (hl : l.length ≤ 1000) (hc : ∀ (k : Nat) (x : Int), l[k]? = some x → ∃ g o, A = some ⟨g, o, none⟩ ∧ g < w.heap.size ∧ w.cell? ⟨g, o + k, none⟩ = some (.int .i64 x)) :
    Calls Try.prog 88 #[.slice A l.length cap, .int .i64 t] w fun e w' => ∃ z : Int, e = .returned (.int .i64 z) ∧ w' = w ∧ ((z = -1 ∧ t ∉ l) ∨ ∃ p b, l = p ++ t :: b ∧ t ∉ p ∧ z = (p.length : Int)) := by
  have HC := Lib.hid hc
  clear hc
  go_enter Try.func88, Try.ntmps88
  go_wp2_with fail
  go_loopw [8] (fun i wr => ∃ k : Nat, k ≤ l.length ∧ i = .int .i64 k ∧ wr = w ∧ t ∉ l.take k) (fun i _ => l.length - (intOf i).toNat)
  case atStart => exact ⟨0, by omega, rfl, rfl, by simp⟩
  case round =>
    obtain ⟨k, hk, rfl, rfl, ht⟩ := hrel
    by_cases hlt : k < l.length
    · obtain ⟨y, hy⟩ : ∃ y, l[k]? = some y := ⟨_, List.getElem?_eq_getElem hlt⟩
      obtain ⟨g, o, rfl, hg, h1⟩ := HC.out k y hy
      have hlt' : (k : Int) < (l.length : Int) := by omega
      have hk0 : (0 : Int) ≤ (k : Int) := by omega
      have HY := Lib.hid (And.intro hy (And.intro ht hlt))
      clear hy ht
      by_cases hty : t = y
      · subst hty
        go_wp2_with fail
        go_ret
        obtain ⟨hy, ht, -⟩ := HY.out
        refine ⟨_, rfl, rfl, .inr ⟨l.take k, l.drop (k + 1), ?_, ht, by rw [List.length_take]; omega⟩⟩
        obtain ⟨h, e⟩ := List.getElem?_eq_some_iff.1 hy
        rw [← e, List.getElem_cons_drop, List.take_append_drop]
      · have hb : (t == y) = false := by simpa using hty
        have HT := Lib.hid hty
        clear hty
        go_wp2_with fail
        refine ⟨⟨k + 1, by omega, by go_num, trivial, ?_⟩, by simp [intOf]; omega⟩
        rw [List.take_add_one, HY.out.1]
        intro hm
        rcases List.mem_append.1 hm with hm | hm
        · exact HY.out.2.1 hm
        · exact HT.out (by simpa using hm)
    · obtain rfl : k = l.length := by omega
      have hlt' : ¬ (l.length : Int) < (l.length : Int) := by omega
      go_wp2_with fail
      go_ret
      exact ⟨-1, rfl, rfl, .inl ⟨rfl, by rw [List.take_length] at ht; exact ht⟩⟩
variable {σ : Type} {M : Mach σ} {T : TypeId} {v : Value} {fR fW : FuncId} {Mem : World → σ → Prop} {Ok : σ → Prop} {S R : List Nat} {w : World} {s : σ}
set_option maxRecDepth 100000 in
set_option maxHeartbeats 2000000 in
theorem way_is (V : VOk M T v fR fW Mem Ok S R) (hm : Mem w s) {o : Int} {L : List Int} {s1 : σ} (h : (qwayF 32 o).run M s = (L, s1)) :
    Calls Try.prog 65 #[.iface T v, .int .i64 o] w fun e w' => ∃ u, e = .returned u ∧ w'.ownsRow w.heap.size ItT 1 u (L.length + 1) ((o :: L).flatMap irow') ∧ Mem w' s1 ∧ Only S w w' := by
  obtain ⟨iI, hi0, hi1, hi2, hi3⟩ := info_parts infoIt
  have HV := Lib.hid V
  have HF := Lib.hid (fun k (hk : w.heap.size ≤ k) => V.fresh hm hk)
  have HS := Lib.hid (fun k (hk : k ∈ S) => V.lt w s k hm (V.sub k hk))
  have own0 := World.ownsRow_lit (base := w.heap.size) (e := ItT) (size := 1) w #[.int .i64 o] 1 (Nat.le_refl _) (by unfold maxLen; omega) rfl
  have o0 : Only [] w (w.alloc (.cells #[.int .i64 o] ItT)) := (Only.refl [] w).alloc _
  have hm0 := V.only0 hm o0
  have o0' : Only S w (w.alloc (.cells #[.int .i64 o] ItT)) := (Only.refl S w).alloc _
  have H := Lib.hid (And.intro h (And.intro own0 (And.intro hm0 o0')))
  clear h hm V own0 o0 hm0 o0'
  go_enter Try.func65, Try.ntmps65
  go_wp2_with fail
  go_loopw [5, 6, 7] (fun u _ _ wr => ∃ (m : Nat) (y : Int) (l r : List Int) (sr : σ), l.length = m ∧ m ≤ 32 ∧ (o :: l)[m]? = some y ∧ wr.ownsRow w.heap.size ItT 1 u (m + 1) ((o :: l).flatMap irow') ∧ Mem wr sr ∧ Only S w wr ∧ (qwayF (32 - m) y).run M sr = (r, s1) ∧ L = l ++ r) (fun u _ _ _ => 33 - (match u with | .slice _ n _ => n | _ => 0))
  case atStart => exact ⟨0, o, [], L, s, rfl, by omega, rfl, H.out.2.1, H.out.2.2.1, H.out.2.2.2, H.out.1, rfl⟩
  case round =>
    clear H
    obtain ⟨m, y, l, r, sr, hl, hm32, hy, hown, hm, ho, hk, hL⟩ := hrel
    have hll : (o :: l).length = m + 1 := by simp [hl]
    have hown0 := hown
    rw [← hll] at hown0
    obtain ⟨A, cp, rfl, hR⟩ := RowN.of_owns irow'_len hown0
    clear hown0
    rw [hll] at hown ⊢
    obtain ⟨gA, rfl, hgA, hc⟩ := rowN_cell hR hy
    have hbz := ho.size
    have hx1 : ((m + 1 : Nat) : Int) - 1 = (m : Int) := by omega
    have hx2 : ((m : Int) + 1) - 1 = (m : Int) := by omega
    have hm0 : (0 : Int) ≤ (m : Int) := by omega
    have hm1 : (m : Int) < (m : Int) + 1 := by omega
    have hlc : ((m + 1 : Nat) : Int) = (m : Int) + 1 := by omega
    have HO := Lib.hid (And.intro ho (And.intro hm (And.intro hk (And.intro hL (And.intro hown (And.intro hl hll))))))
    clear ho hm hk hL hown hl hy hR hll
    by_cases hlt : m < 32
    · obtain ⟨⟨x, b⟩, s2, h2⟩ : ∃ x s2, (refP y 2).run M sr = (x, s2) := ⟨_, _, rfl⟩
      have hlt1 : (m : Int) + 1 ≤ 32 := by omega
      have c1 := ref_is HV.out HO.out.2.1 h2
      have H2 := Lib.hid h2
      clear h2
      cases b with
      | false =>
        go_wp2_with ((with_reducible refine c1.mono ?_); clear c1; rintro e w1 ⟨rfl, hm1, ho1⟩)
        go_ret
        obtain ⟨ho, hm, hk, hL, hown, hl, hll⟩ := HO.out
        have hown1 := owns_far hown ho1 (fun j hj hjS => by have := HS.out j hjS; have := own_base hown hj; omega)
        rw [show 32 - m = (31 - m) + 1 by omega, qwayF_none H2.out] at hk
        cases hk
        rw [List.append_nil] at hL
        subst hL
        exact ⟨_, rfl, by rw [hl]; exact hown1, hm1, ho.trans ho1⟩
      | true =>
        obtain ⟨r', s3, h3⟩ : ∃ r' s3, (qwayF (31 - m) x).run M s2 = (r', s3) := ⟨_, _, rfl⟩
        have H3 := Lib.hid h3
        clear h3
        go_upto_region 5 with ((with_reducible refine c1.mono ?_); clear c1; rintro e w1 ⟨rfl, hm1, ho1⟩)
        have hown1 := (owns_far HO.out.2.2.2.2.1 ho1 (fun j hj hjS => by have := HS.out j hjS; have := own_base HO.out.2.2.2.2.1 hj; omega)).alloc (.cells #[.int .i64 x] ItT)
        have hz1 := ho1.size
        go_wp2_with (at_builtin; refine wpList_append_lies _ (by rfl) _ _ 58 (by rfl) w.heap.size ItT iI (.int .i64 0) 1 8 Try.underlying58 hi0 hi1 hi2 hi3 rfl (by omega) _ (m + 1) _ (by rfl) hown1 ⟨w1.heap.size, 0, none⟩ 1 1 [.int .i64 x] (by rfl) (by rfl) (World.news_of_block (cs := #[.int .i64 x]) (t := ItT) (fr := (0, 0)) (heap_alloc_new w1 _)) (by simp [Value.oneCell']) (by omega) (by unfold maxLen; omega) (by omega) (by simp; omega) (w1.heap.size + 1) (by simp) ?_; intro g5 cap5 w5 hrow5 hgrow5 hat5 hlt5)
        have hg5 := own_base hrow5 (g := g5) rfl
        obtain ⟨ho, hm, hk, hL, hown, hl, hll⟩ := HO.out
        have hoz := ((Only.refl (Value.slice (some ⟨gA, 0, none⟩) (m + 1) cp).ownBlock.toList w1).alloc (.cells #[.int .i64 x] ItT)).trans (grows_S hgrow5)
        have hm5 := HV.out.keep _ _ _ _ hm1 hoz (fun k hk => HF.out k (own_base hown (by simpa using hk)))
        have ho5 : Only S w w5 := (ho.trans ho1).then hoz (fun k hk => .inr (own_base hown (by simpa using hk)))
        rw [show 32 - m = (31 - m) + 1 by omega, qwayF_more H2.out H3.out] at hk
        cases hk
        exact ⟨⟨m + 1, x, l ++ [x], r', s2, by simp [hl], by omega, by simp [← hl], by simpa [List.flatMap_append, irow'] using hrow5, hm5, ho5, by rw [show 32 - (m + 1) = 31 - m by omega]; exact H3.out, by rw [hL]; simp⟩, by simp; omega⟩
    · obtain rfl : m = 32 := by omega
      clear hlt
      go_wp2_with fail
      go_ret
      obtain ⟨ho, hm, hk, hL, hown, hl, hll⟩ := HO.out
      cases hk
      rw [List.append_nil] at hL
      subst hL
      exact ⟨_, rfl, by rw [hl]; exact hown, hm, ho⟩
end
end Go.Proofs.Ytdkjfalhalepgaa
