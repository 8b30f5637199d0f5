/- without of the document's state: a list without one of its numbers, the first such one. -/
import Derived.Test.YtdkjfalhalepgaaJ3
import Derived.Test.YtdkjfalhalepgaaRefNew
namespace Go.Proofs.Ytdkjfalhalepgaa
open Go.RowKit
theorem erase_step {L : List Int} {k : Nat} {x n : Int} (hx : L[k]? = some x) :
    (L.take (k + 1)).erase n = (if x = n ∧ n ∉ L.take k then (L.take k).erase n else (L.take k).erase n ++ [x]) ∧ (n ∈ L.take (k + 1) ↔ x = n ∨ n ∈ L.take k) := by
  have e : L.take (k + 1) = L.take k ++ [x] := by rw [List.take_add_one, hx]; rfl
  rw [e]
  constructor
  · by_cases hm : n ∈ L.take k
    · rw [List.erase_append_left _ hm, if_neg (fun h => h.2 hm)]
    · rw [List.erase_append_right _ hm]
      by_cases hxn : x = n
      · subst hxn
        rw [if_pos ⟨rfl, hm⟩, List.erase_of_not_mem hm]
        simp
      · rw [if_neg (fun h => hxn h.1), List.erase_of_not_mem hm, List.erase_cons_tail (by simpa using hxn)]
        rfl
  · simp [eq_comm, or_comm]
theorem roomW {w : World} {base n cap size : Nat} {e : TypeId} {A : Option Addr} {xs : List Value} (h : w.ownsRow base e size (.slice A n cap) n xs) : n ≤ cap := by
  rcases h.2 with ⟨h1, h2⟩ | ⟨g, cap', cur, h1, -, -, h4, h5, -⟩
  · injection h1 with e1 e2 e3
    subst e2 e3
    exact Nat.le_refl _
  · injection h1 with e1 e2 e3
    subst e3
    exact h4
set_option maxRecDepth 100000 in
set_option maxHeartbeats 2000000 in
theorem withoutC_any {w : World} {A : Option Addr} {L : List Int} (cp : Nat) (n : Int) (h : RowN w A ItT irow' 1 L) (hl : L.length ≤ 1000) :
    Calls Try.prog 69 #[.slice A L.length cp, .int .i64 n] w fun e w' => ∃ v, e = .returned v ∧ NumsC w' ItT v (L.erase n) ∧ Only [] w w' := by
  obtain ⟨iI, hi0, hi1, hi2, hi3⟩ := info_parts infoIt
  go_enter Try.func69, Try.ntmps69
  go_wp2_with fail
  go_loopw [5, 6, 7] (fun v g i wr => ∃ k : Nat, k ≤ L.length ∧ i = .int .i64 k ∧ g = .bool (decide (n ∈ L.take k)) ∧ wr.ownsRow w.heap.size ItT 1 v ((L.take k).erase n).length (((L.take k).erase n).flatMap irow') ∧ Only [] w wr) (fun _ _ i _ => L.length - (intOf i).toNat)
  case atStart => exact ⟨0, by omega, rfl, by simp, by simpa using World.ownsRow_nil _ _ _ _, Only.refl _ _⟩
  case round =>
    obtain ⟨k, hk, rfl, rfl, hown, ho⟩ := hrel
    by_cases hlt : k < L.length
    · obtain ⟨x, hx⟩ : ∃ x, L[k]? = some x := ⟨_, List.getElem?_eq_getElem hlt⟩
      obtain ⟨b, rfl, hb, hc⟩ := rowN_cell h hx
      have c0 : wr.cell? ⟨b, k, none⟩ = some (.int .i64 x) := (ho.cell (p := ⟨b, k, none⟩) hb (by simp)).trans hc
      obtain ⟨e1, e2⟩ := erase_step (n := n) hx
      have hle : ((L.take k).erase n).length ≤ 1000 := by have := (List.erase_sublist (a := n) (l := L.take k)).length_le; rw [List.length_take] at this; omega
      have hbz := ho.size
      obtain ⟨g, hg⟩ : ∃ g, decide (n ∈ L.take k) = g := ⟨_, rfl⟩
      obtain ⟨m, hm⟩ : ∃ m, Hid (((L.take k).erase n).length = m) := ⟨_, Lib.hid rfl⟩
      obtain ⟨M, hM⟩ : ∃ M, Hid ((L.take k).erase n = M) := ⟨_, Lib.hid rfl⟩
      rw [hm.out, hM.out] at hown
      rw [hm.out] at hle
      rw [hM.out] at e1
      rw [hg]
      have hstep : (x = n ∧ g = false ∧ (L.take (k + 1)).erase n = M ∧ n ∈ L.take (k + 1)) ∨ ((x == n && !g) = false ∧ (L.take (k + 1)).erase n = M ++ [x] ∧ decide (n ∈ L.take (k + 1)) = g) := by
        by_cases h1 : x = n
        · cases g with
          | false =>
            have h2 : n ∉ L.take k := by simpa using hg
            rw [if_pos ⟨h1, h2⟩] at e1
            exact .inl ⟨h1, rfl, e1, e2.2 (.inl h1)⟩
          | true =>
            have h2 : n ∈ L.take k := by simpa using hg
            rw [if_neg (fun h => h.2 h2)] at e1
            exact .inr ⟨by simp, e1, by simp [e2, h2]⟩
        · rw [if_neg (fun h => h1 h.1)] at e1
          exact .inr ⟨by simp [h1], e1, by rw [← hg]; exact decide_eq_decide.2 (by rw [e2]; simp [h1])⟩
      have HS := Lib.hid hstep
      have HO := Lib.hid ho
      clear hx hc e1 e2 h hg hstep ho
      rcases HS.out with ⟨h1, rfl, h3, h4⟩ | ⟨h1, h2, h3⟩
      · have H3 := Lib.hid (And.intro h3 h4)
        clear h3 h4 HS
        go_wp2_with fail
        go_roundw
        case rel =>
          refine ⟨k + 1, by omega, by go_num, by simp [H3.out.2], ?_, HO.out⟩
          rw [H3.out.1, ← hM.out, hm.out, hM.out]
          exact hown
        case measure => simp [intOf]; omega
      · have H3 := Lib.hid (And.intro h2 h3)
        have hq : (x == n) = false ∨ ((x == n) = true ∧ g = true) := by
          cases hxn : x == n <;> cases g <;> simp [hxn] at h1 ⊢
        clear h1 h2 h3 HS
        have hown' := hown.alloc (.cells #[.int .i64 x] ItT)
        rcases hq with hq | ⟨hq, rfl⟩
        all_goals
          go_wp2_with (at_builtin; refine wpList_append_lies _ (by rfl) _ _ 58 (by rfl) w.heap.size ItT iI (.int .i64 0) 1 8 Try.underlying58 hi0 hi1 hi2 hi3 rfl (by omega) _ m _ (by rfl) hown' ⟨wr.heap.size, 0, none⟩ 1 1 [.int .i64 x] (by rfl) (by rfl) (World.news_of_block (cs := #[.int .i64 x]) (t := ItT) (fr := (0, 0)) (heap_alloc_new wr _)) (by simp [Value.oneCell']) (by omega) (by unfold maxLen; omega) (by omega) (by simp; omega) (wr.heap.size + 1) (by simp) ?_; intro g5 cap5 w5 hrow5 hgrow5 hat5 hlt5)
          refine ⟨⟨k + 1, by omega, by go_num, by rw [H3.out.2], ?_, only_grows (HO.out.alloc _) hgrow5 (fun j hj => own_base hown' hj)⟩, by simp [intOf]; omega⟩
          rw [H3.out.1]
          have hm' : M.length = m := by rw [← hM.out]; exact hm.out
          simpa [hm', List.flatMap_append, irow'] using hrow5
    · obtain rfl : k = L.length := by omega
      rw [List.take_length] at hown
      obtain ⟨A', cap', rfl, hR⟩ := RowN.of_owns irow'_len hown
      have hcp := roomW hown
      go_wp2_with fail
      go_ret
      exact ⟨_, rfl, ⟨A', cap', rfl, hR, hcp⟩, ho⟩
end Go.Proofs.Ytdkjfalhalepgaa
