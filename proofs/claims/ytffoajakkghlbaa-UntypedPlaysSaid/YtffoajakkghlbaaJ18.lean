/- without of the document's state: a list without one of its numbers, the first such one. -/
import Derived.Test.YtffoajakkghlbaaJ4
import Derived.Test.YtffoajakkghlbaaRefSlot
import Derived.Test.YtffoajakkghlbaaRefStM
import Derived.Deep.AppendSrc
import Derived.Deep.AppendLies
import Derived.Deep.RegionLaw
namespace Go.Proofs.Ytffoajakkghlbaa
open Go.RowKit
theorem erase_step {L : List Int} {k : Nat} {x n : Int} (hx : L[k]? = some x) :
    (L.take (k + 1)).erase n = (if x = n ∧ n ∉ L.take k then (L.take k).erase n else (L.take k).erase n ++ [x]) ∧ (n ∈ L.take (k + 1) ↔ x = n ∨ n ∈ L.take k) := by
  have e : L.take (k + 1) = L.take k ++ [x] := by rw [List.take_add_one, hx]; rfl
  rw [e]
  constructor
  · by_cases hm : n ∈ L.take k
    · rw [List.erase_append_left _ hm, if_neg (fun h => h.2 hm)]
    · rw [List.erase_append_right _ hm]
      by_cases hxn : x = n
      · subst hxn
        rw [if_pos ⟨rfl, hm⟩, List.erase_of_not_mem hm]
        simp
      · rw [if_neg (fun h => hxn h.1), List.erase_of_not_mem hm, List.erase_cons_tail (by simpa using hxn)]
        rfl
  · simp [eq_comm, or_comm]
set_option maxRecDepth 100000 in
set_option maxHeartbeats 2000000 in
theorem without_any {w : World} {A : Option Addr} {L : List Int} (cp : Nat) (n : Int) (h : RowN w A ItT irow' 1 L) (hl : L.length ≤ 1000) :
    Calls Try.prog 36 #[.slice A L.length cp, .int .i64 n] w fun e w' => ∃ v, e = .returned v ∧ NumsV w' ItT v (L.erase n) ∧ Only [] w w' := by
  obtain ⟨iI, hi0, hi1, hi2, hi3⟩ := info_parts infoIt
  go_enter Try.func36, Try.ntmps36
  go_wp2_with fail
  go_loopw [5, 6, 7] (fun v g i wr => ∃ k : Nat, k ≤ L.length ∧ i = .int .i64 k ∧ g = .bool (decide (n ∈ L.take k)) ∧ wr.ownsRow w.heap.size ItT 1 v ((L.take k).erase n).length (((L.take k).erase n).flatMap irow') ∧ Only [] w wr) (fun _ _ i _ => L.length - (intOf i).toNat)
  case atStart => exact ⟨0, by omega, rfl, by simp, by simpa using World.ownsRow_nil _ _ _ _, Only.refl _ _⟩
  case round =>
    obtain ⟨k, hk, rfl, rfl, hown, ho⟩ := hrel
    by_cases hlt : k < L.length
    · obtain ⟨x, hx⟩ : ∃ x, L[k]? = some x := ⟨_, List.getElem?_eq_getElem hlt⟩
      obtain ⟨b, rfl, hb, hc⟩ := rowN_cell h hx
      have c0 : wr.cell? ⟨b, k, none⟩ = some (.int .i64 x) := (ho.cell (p := ⟨b, k, none⟩) hb (by simp)).trans hc
      obtain ⟨e1, e2⟩ := erase_step (n := n) hx
      have hle : ((L.take k).erase n).length ≤ 1000 := by have := (List.erase_sublist (a := n) (l := L.take k)).length_le; rw [List.length_take] at this; omega
      have hbz := ho.size
      obtain ⟨g, hg⟩ : ∃ g, decide (n ∈ L.take k) = g := ⟨_, rfl⟩
      obtain ⟨m, hm⟩ : ∃ m, Hid (((L.take k).erase n).length = m) := ⟨_, Lib.hid rfl⟩
      obtain ⟨M, hM⟩ : ∃ M, Hid ((L.take k).erase n = M) := ⟨_, Lib.hid rfl⟩
      rw [hm.out, hM.out] at hown
      rw [hm.out] at hle
      rw [hM.out] at e1
      rw [hg]
      have hstep : (x = n ∧ g = false ∧ (L.take (k + 1)).erase n = M ∧ n ∈ L.take (k + 1)) ∨ ((x == n && !g) = false ∧ (L.take (k + 1)).erase n = M ++ [x] ∧ decide (n ∈ L.take (k + 1)) = g) := by
        by_cases h1 : x = n
        · cases g with
          | false =>
            have h2 : n ∉ L.take k := by simpa using hg
            rw [if_pos ⟨h1, h2⟩] at e1
            exact .inl ⟨h1, rfl, e1, e2.2 (.inl h1)⟩
          | true =>
            have h2 : n ∈ L.take k := by simpa using hg
            rw [if_neg (fun h => h.2 h2)] at e1
            exact .inr ⟨by simp, e1, by simp [e2, h2]⟩
        · rw [if_neg (fun h => h1 h.1)] at e1
          exact .inr ⟨by simp [h1], e1, by rw [← hg]; exact decide_eq_decide.2 (by rw [e2]; simp [h1])⟩
      have HS := Lib.hid hstep
      have HO := Lib.hid ho
      clear hx hc e1 e2 h hg hstep ho
      rcases HS.out with ⟨h1, rfl, h3, h4⟩ | ⟨h1, h2, h3⟩
      · have H3 := Lib.hid (And.intro h3 h4)
        clear h3 h4 HS
        go_wp2_with fail
        go_roundw
        case rel =>
          refine ⟨k + 1, by omega, by go_num, by simp [H3.out.2], ?_, HO.out⟩
          rw [H3.out.1, ← hM.out, hm.out, hM.out]
          exact hown
        case measure => simp [intOf]; omega
      · have H3 := Lib.hid (And.intro h2 h3)
        have hq : (x == n) = false ∨ ((x == n) = true ∧ g = true) := by
          cases hxn : x == n <;> cases g <;> simp [hxn] at h1 ⊢
        clear h1 h2 h3 HS
        have hown' := hown.alloc (.cells #[.int .i64 x] ItT)
        rcases hq with hq | ⟨hq, rfl⟩
        all_goals
          go_wp2_with (at_builtin; refine wpList_append_lies _ (by rfl) _ _ 30 (by rfl) w.heap.size ItT iI (.int .i64 0) 1 8 Try.underlying30 hi0 hi1 hi2 hi3 rfl (by omega) _ m _ (by rfl) hown' ⟨wr.heap.size, 0, none⟩ 1 1 [.int .i64 x] (by rfl) (by rfl) (World.news_of_block (cs := #[.int .i64 x]) (t := ItT) (fr := (0, 0)) (heap_alloc_new wr _)) (by simp [Value.oneCell']) (by omega) (by unfold maxLen; omega) (by omega) (by simp; omega) (wr.heap.size + 1) (by simp) ?_; intro g5 cap5 w5 hrow5 hgrow5 hat5 hlt5)
          refine ⟨⟨k + 1, by omega, by go_num, by rw [H3.out.2], ?_, only_grows (HO.out.alloc _) hgrow5 (fun j hj => own_base hown' hj)⟩, by simp [intOf]; omega⟩
          rw [H3.out.1]
          have hm' : M.length = m := by rw [← hM.out]; exact hm.out
          simpa [hm', List.flatMap_append, irow'] using hrow5
    · obtain rfl : k = L.length := by omega
      rw [List.take_length] at hown
      obtain ⟨A', cap', rfl, hR⟩ := RowN.of_owns irow'_len hown
      go_wp2_with fail
      go_ret
      exact ⟨_, rfl, ⟨A', cap', rfl, hR⟩, ho⟩
end Go.Proofs.Ytffoajakkghlbaa
/- append of a list of numbers, nil let in, onto numbers of one's own: in a plain region, and as a step of a region that draws. No dump is read here. -/
namespace Go.Proofs.Ytffoajakkghlbaa
open Go.RowKit
theorem addr_plus {b off j : Nat} : (⟨b, off, none⟩ : Addr).add j = ⟨b, off + j, none⟩ := by
  unfold Addr.add
  split
  · next h => simp [h]
  · rfl
section
variable {P : Program} (w : World)
theorem wp_append_nums {o : Oper} {a : Act} {K : Act → World → Prop} {Q : Exit → Act → World → Prop} (s x : Operand) (t : TypeId)
    (ho : o.op = .call { callee := .builtin .append, args := #[s, x], argTypes := #[t, t] })
    (base : Nat) (e ti : TypeId) (i : TypeInfo) (z : Value) (ht : P.underlying t = some (.slice e)) (hi : P.info? e = some i) (hz : i.zero = some z) (hsize : i.size = 1) (hby : i.bytes = 8) (hzs : z.cells.size = 1)
    (E m0 : Nat) (xs : List Value) (hs : a.eval s = .slice (some ⟨E, 0, none⟩) m0 m0) (hown : w.ownsRow base e 1 (.slice (some ⟨E, 0, none⟩) m0 m0) m0 xs)
    (A : Option Addr) (L : List Int) (cp : Nat) (hx : a.eval x = .slice A L.length cp) (hL : RowN w A ti irow' 1 L) (hl : L.length ≤ 1000) (hm0 : m0 ≤ 1000) (hbase : base ≤ w.heap.size)
    (h : ∀ v' w', w'.ownsRow base e 1 v' (m0 + L.length) (xs ++ L.flatMap irow') → w.grownBy w' (some E) → K (a.put o.dst v') w') : o.wp P a w K Q := by
  cases A with
  | some ad =>
    have hlen : (L.flatMap irow').length = L.length * 1 := by
      have := flat_size (f := irow') (L := L) irow'_len
      simpa [flat] using this
    have hcell : ∀ j u, (L.flatMap irow')[j]? = some u → w.cell? (ad.add j) = some u := fun j u hj => by
      have hjl := (List.getElem?_eq_some_iff.1 hj).1
      rw [hlen, Nat.mul_one] at hjl
      obtain ⟨y, hy⟩ : ∃ y, L[j]? = some y := ⟨_, List.getElem?_eq_getElem hjl⟩
      obtain ⟨g, cur, e1, hb, hc⟩ := hL j y hy
      injection e1 with e1
      subst e1
      have e2 := flat_get (f := irow') (L := L) irow'_len j 0 (by omega)
      rw [hy] at e2
      have e3 : (L.flatMap irow')[j]? = some (.int .i64 y) := by simpa [flat, irow'] using e2
      rw [e3] at hj
      cases hj
      rw [addr_plus, Nat.zero_add, hb.cell]
      have := hc 0 _ rfl
      simpa using this
    refine wp_append_own w s x t ho base e i z 1 8 ht hi hz hsize hby hzs (by omega) _ m0 xs hs hown ad L.length cp (L.flatMap irow') hx hlen hcell (fun u hu => ?_) (by unfold maxLen; omega) (by omega) hbase ?_
    · obtain ⟨y, -, hy⟩ := List.mem_flatMap.1 hu
      simp only [irow', List.mem_cons, List.not_mem_nil, or_false] at hy
      subst hy
      rfl
    · intro v' w' h1 h2 _
      exact h v' w' h1 h2
  | none =>
    obtain rfl : L = [] := by
      cases L with
      | nil => rfl
      | cons y L => obtain ⟨g, cur, e1, _⟩ := hL 0 y rfl; cases e1
    have hrun := run_append_room_src w t t o.type e i ht hi E 0 m0 m0 (.slice none 0 cp) 0 [] (by rw [hsize]; exact Src.ofNil w ht cp) (Nat.le_refl _) (fun j hj => by simp at hj) (fun j hj => by simp at hj)
    unfold Oper.wp execOp
    have hx' : a.eval x = .slice none 0 cp := hx
    simp [ho, resolve, invoke, builtin, hs, hx', hrun]
    exact h _ _ (by simpa [World.setCells] using hown) ⟨rfl, rfl, rfl, Nat.le_refl _, fun _ _ _ => rfl⟩
theorem step_append_nums {ops : Array Oper} {o : Oper} {a : Act} {K : Act → World → Prop} {Q : Exit → Act → World → Prop} {B : Prop} (hgd : o.guard = none) (s x : Operand) (t : TypeId)
    (ho : o.op = .call { callee := .builtin .append, args := #[s, x], argTypes := #[t, t] })
    (base : Nat) (e ti : TypeId) (i : TypeInfo) (z : Value) (ht : P.underlying t = some (.slice e)) (hi : P.info? e = some i) (hz : i.zero = some z) (hsize : i.size = 1) (hby : i.bytes = 8) (hzs : z.cells.size = 1)
    (E m0 : Nat) (xs : List Value) (hs : a.eval s = .slice (some ⟨E, 0, none⟩) m0 m0) (hown : w.ownsRow base e 1 (.slice (some ⟨E, 0, none⟩) m0 m0) m0 xs)
    (A : Option Addr) (L : List Int) (cp : Nat) (hx : a.eval x = .slice A L.length cp) (hL : RowN w A ti irow' 1 L) (hl : L.length ≤ 1000) (hm0 : m0 ≤ 1000) (hbase : base ≤ w.heap.size)
    (h : ∀ v' w', w'.ownsRow base e 1 v' (m0 + L.length) (xs ++ L.flatMap irow') → w.grownBy w' (some E) → K (a.put o.dst v') w') :
    if Region.wanted o (yielded ops a.tmps) = true then Oper.wp P o a w K Q else B := by
  have hw : Region.wanted o (yielded ops a.tmps) = true := by simp [Region.wanted, hgd]
  rw [if_pos hw]
  exact wp_append_nums w s x t ho base e ti i z ht hi hz hsize hby hzs E m0 xs hs hown A L cp hx hL hl hm0 hbase h
end
end Go.Proofs.Ytffoajakkghlbaa
