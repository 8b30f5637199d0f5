/- What Kids of package cdt answers (layer 10), of any view: a list of its own. -/
import Derived.Test.YtlhcigpllkigdaaJ4
import Derived.Test.YtlhcigpllkigdaaRefRow
namespace Go.Proofs.Ytlhcigpllkigdaa
open Go.RowKit
/-- a list of numbers of one's own, made since -/
def MadeV (w : World) (base : Nat) (v : Value) (L : List Int) : Prop := ∃ A cp, v = .slice A L.length cp ∧ RowN w A ItT irow' 1 L ∧ ∀ g, A = some ⟨g, 0, none⟩ → base ≤ g
theorem MadeV.only {w w' : World} {base : Nat} {v : Value} {L : List Int} {F : List Nat} (h : MadeV w base v L) (ho : Only F w w') (hF : ∀ k, k ∈ F → k < base) : MadeV w' base v L := by
  obtain ⟨A, cp, e, hr, hb⟩ := h
  refine ⟨A, cp, e, fun k x hx => ?_, hb⟩
  obtain ⟨g, cur, hA, hk, hc⟩ := hr k x hx
  exact ⟨g, cur, hA, ho.blk hk (fun hm => by have := hF g hm; have := hb g hA; omega), hc⟩
theorem MadeV.cell {w : World} {base : Nat} {v : Value} {L : List Int} {A : Option Addr} {len cp k : Nat} {x : Int} (h : MadeV w base v L) (hv : v = .slice A len cp) (hx : L[k]? = some x) : ∃ g, A = some ⟨g, 0, none⟩ ∧ g < w.heap.size ∧ w.cell? ⟨g, k, none⟩ = some (.int .i64 x) := by
  obtain ⟨A', cp', e, hr, -⟩ := h
  rw [hv] at e
  cases e
  exact rowN_cell hr hx
theorem made_of {w : World} {base : Nat} {v : Value} {L : List Int} (h : w.ownsRow base ItT 1 v L.length (L.flatMap irow')) : MadeV w base v L := by
  obtain ⟨A, cp, rfl, hR⟩ := RowN.of_owns irow'_len h
  exact ⟨A, cp, rfl, hR, fun g hg => own_base h (by rw [hg]; rfl)⟩
section
variable {σ : Type} {M : Mach σ} {T : TypeId} {v : Value} {fR fW : FuncId} {Mem : World → σ → Prop} {Ok : σ → Prop} {S R : List Nat} {w : World} {s : σ}
set_option maxRecDepth 100000 in
set_option maxHeartbeats 2000000 in
theorem kids_is (V : VOk M T v fR fW Mem Ok S R) (hm : Mem w s) {i : Int} {L : List Int} {s1 : σ} (h : (kidsP i).run M s = (L, s1)) :
    Calls Try.prog 41 #[.iface T v, .int .i64 i] w fun e w' => ∃ u, e = .returned u ∧ MadeV w' w.heap.size u L ∧ Mem w' s1 ∧ Only S w w' := by
  obtain ⟨iI, hi0, hi1, hi2, hi3⟩ := info_parts infoIt
  unfold kidsP at h
  obtain ⟨x, s2, h2⟩ : ∃ x s2, (toldP i 2).run M s = (x, s2) := ⟨_, _, rfl⟩
  rw [Vp.run_bind_is h2] at h
  have c1 := told_is V hm h2
  have HV := Lib.hid V
  have HF := Lib.hid (fun k (hk : w.heap.size ≤ k) => V.fresh hm hk)
  have HS := Lib.hid (fun k (hk : k ∈ S) => V.lt w s k hm (V.sub k hk))
  have H := Lib.hid h
  clear h h2 hm V
  go_enter Try.func41, Try.ntmps41
  go_wp2_with ((with_reducible refine c1.mono ?_); clear c1; rintro e w1 ⟨rfl, hm1, ho1⟩)
  go_loopw [5, 6] (fun u k wr => ∃ (m : Nat) (y : Int) (l r : List Int) (sr : σ), l.length = m ∧ m ≤ 96 ∧ k = .int .i64 y ∧ wr.ownsRow w.heap.size ItT 1 u m (l.flatMap irow') ∧ Mem wr sr ∧ Only S w wr ∧ (kidsF (96 - m) y).run M sr = (r, s1) ∧ L = l ++ r) (fun u _ _ => 96 - (match u with | .slice _ n _ => n | _ => 0))
  case atStart => exact ⟨0, x, [], L, s2, rfl, by omega, rfl, World.ownsRow_nil _ _ _ _, hm1, ho1, H.out, rfl⟩
  case round =>
    clear H
    obtain ⟨m, y, l, r, sr, hl, hm96, rfl, hown, hm, ho, hk, hL⟩ := hrel
    have hown0 := hown
    rw [← hl] at hown0
    obtain ⟨A, cp, rfl, -⟩ := RowN.of_owns irow'_len hown0
    clear hown0
    rw [hl] at hown ⊢
    have hbz := ho.size
    have hown' := hown.alloc (.cells #[.int .i64 y] ItT)
    have HO := Lib.hid (And.intro ho (And.intro hm (And.intro hk (And.intro hL (And.intro hown hl)))))
    clear ho hm hk hL hown hl
    by_cases hy : y = -1
    · subst hy
      go_wp2_with fail
      go_ret
      obtain ⟨ho, hm, hk, hL, hown, hl⟩ := HO.out
      rw [kidsF_none] at hk
      cases hk
      rw [List.append_nil] at hL
      subst hL
      exact ⟨_, rfl, made_of (by rw [hl]; exact hown), hm, ho⟩
    · have hyb : (y != -1) = true := by simp [hy]
      by_cases hlt : m < 96
      · obtain ⟨z, s3, h3⟩ : ∃ z s3, (toldP y 3).run M sr = (z, s3) := ⟨_, _, rfl⟩
        obtain ⟨r', s4, h4⟩ : ∃ r' s4, (kidsF (96 - (m + 1)) z).run M s3 = (r', s4) := ⟨_, _, rfl⟩
        have H3 := Lib.hid (And.intro h3 (And.intro h4 hy))
        clear h3 h4 hy
        go_wp2_with (at_builtin; refine wpList_append_lies _ (by rfl) _ _ 47 (by rfl) w.heap.size ItT iI (.int .i64 0) 1 8 Try.underlying47 hi0 hi1 hi2 hi3 rfl (by omega) _ m _ (by rfl) hown' ⟨wr.heap.size, 0, none⟩ 1 1 [.int .i64 y] (by rfl) (by rfl) (World.news_of_block (cs := #[.int .i64 y]) (t := ItT) (fr := (0, 0)) (heap_alloc_new wr _)) (by simp [Value.oneCell']) (by omega) (by unfold maxLen; omega) (by omega) (by simp; omega) (wr.heap.size + 1) (by simp) ?_; intro g5 cap5 w5 hrow5 hgrow5 hat5 hlt5)
        have hg5 := own_base hrow5 (g := g5) rfl
        have hoz := ((Only.refl (Value.slice A m cp).ownBlock.toList wr).alloc (.cells #[.int .i64 y] ItT)).trans (grows_S hgrow5)
        have hm5 := HV.out.keep _ _ _ _ HO.out.2.1 hoz (fun k hk => HF.out k (own_base HO.out.2.2.2.2.1 (by simpa using hk)))
        have ho5 : Only S w w5 := HO.out.1.then hoz (fun k hk => .inr (own_base HO.out.2.2.2.2.1 (by simpa using hk)))
        (with_reducible refine (told_is HV.out hm5 H3.out.1).mono ?_)
        rintro e w6 ⟨rfl, hm6, ho6⟩
        have hrow6 := owns_far hrow5 ho6 (fun j hj hjS => by have := HS.out j hjS; have := own_base hrow5 hj; omega)
        clear hrow5 hgrow5 hoz hat5 hlt5 hm5
        go_wp2_with fail
        go_roundw
        case rel =>
          obtain ⟨ho, hm, hk, hL, hown, hl⟩ := HO.out
          rw [show 96 - m = (96 - (m + 1)) + 1 by omega, kidsF_more H3.out.2.2 H3.out.1 H3.out.2.1] at hk
          cases hk
          exact ⟨m + 1, z, l ++ [y], r', s3, by simp [hl], by omega, rfl, by simpa [List.flatMap_append, irow'] using hrow6, hm6, ho5.trans ho6, H3.out.2.1, by rw [hL]; simp⟩
        case measure => simp; omega
      · obtain rfl : m = 96 := by omega
        clear hy hlt
        go_wp2_with fail
        go_ret
        obtain ⟨ho, hm, hk, hL, hown, hl⟩ := HO.out
        rw [show 96 - 96 = 0 from rfl, kidsF_zero] at hk
        cases hk
        rw [List.append_nil] at hL
        subst hL
        exact ⟨_, rfl, made_of (by rw [hl]; exact hown), hm, ho⟩
end
end Go.Proofs.Ytlhcigpllkigdaa
