/- What New of package desc makes of entries that are handed in: a copy of them (layer 7). -/
import Derived.Test.YtleomgmhkoglmaaDescA
import Derived.Lib.SliceRun
namespace Go.Proofs.Ytleomgmhkoglmaa
open Go.RowKit
theorem infoEntry : (Try.prog.info? 113).map (fun i => (i.zero, i.size, i.bytes)) = some (some (.agg #[.int .i64 0, .int .u32 0, .int .u64 0, .int .u64 0, .bool false]), 5, 40) := by kernel_rfl
theorem rows_flat {α : Type} {w : World} {b off : Nat} {f : α → List Value} {n : Nat} (hf : ∀ a, (f a).length = n) (h0 : 0 < n) {L : List α} (h : RowsAt w (some ⟨b, off, none⟩) f n L) {j : Nat} {u : Value} (hj : (L.flatMap f)[j]? = some u) : w.cell? ⟨b, off + j, none⟩ = some u := by
  have hlt := (List.getElem?_eq_some_iff.1 hj).1
  have hsz := flat_size (f := f) (L := L) hf
  have hsz2 : (L.flatMap f).length = L.length * n := by simpa [flat] using hsz
  have hm : j % n < n := Nat.mod_lt _ h0
  have e : j / n * n + j % n = j := by rw [Nat.mul_comm]; exact Nat.div_add_mod j n
  have hk : j / n < L.length := by
    rw [hsz2] at hlt
    exact Nat.div_lt_of_lt_mul (by rwa [Nat.mul_comm])
  have e1 := flat_get (f := f) (L := L) hf (j / n) (j % n) hm
  rw [e, List.getElem?_eq_getElem hk] at e1
  obtain ⟨b', off', hA, hb, hc⟩ := h _ _ (List.getElem?_eq_getElem hk)
  injection hA with hA
  injection hA with hA1 hA2
  subst hA1 hA2
  have e2 : (f L[j / n])[j % n]? = some u := by
    have : (flat f L)[j]? = some u := by simpa [flat] using hj
    rw [this] at e1
    exact e1.symm
  have := hc _ _ e2
  rwa [Nat.add_assoc, e] at this
theorem En.row_one (e : En) : ∀ u ∈ e.row, u.oneCell' = true := by
  intro u hu
  simp only [En.row, List.mem_cons, List.not_mem_nil, or_false] at hu
  rcases hu with rfl | rfl | rfl | rfl | rfl <;> rfl
theorem only_grow {w w' w2 : World} {row : Option Nat} (h : Only [] w w') (hg : w'.grownBy w2 row) (hr : ∀ j, row = some j → w.heap.size ≤ j) : Only [] w w2 :=
  ⟨hg.os.trans h.os, hg.tape.trans h.tape, hg.output.trans h.output, Nat.le_trans h.size hg.size, fun k hk hn => (hg.block k (Nat.lt_of_lt_of_le hk h.size) (fun e => by have := hr k e.symm; omega)).trans (h.block k hk hn)⟩
section
variable {w : World} {A : Option Addr} {L : List En}
set_option maxRecDepth 100000 in
set_option maxHeartbeats 2000000 in
theorem clone_any (cp : Nat) (h : RowsAt w A En.row 5 L) (hl : L.length ≤ 1000) :
    Calls Try.prog 55 #[.slice A L.length cp] w fun e w' => ∃ A' cap, e = .returned (.slice A' L.length cap) ∧ RowN w' A' ET En.row 5 L ∧ Only [] w w' := by
  have q := fun (w : World) (a : Option Addr) (n c n' c' : Nat) => Lib.run_eql_slice_nil (P := Try.prog) w 96 113 a n c n' c' Try.underlying96
  cases A with
  | none =>
    obtain rfl : L = [] := by
      cases L with
      | nil => rfl
      | cons x L => obtain ⟨_, _, hA, _⟩ := h 0 x rfl; cases hA
    go_enter Try.func55, Try.ntmps55
    go_wp2
    go_ret
    exact ⟨none, 0, rfl, RowN.nil _ _, Only.refl _ _⟩
  | some a =>
    obtain ⟨i0, hi, hz0, hz1, hz2⟩ := info_parts infoEntry
    have hlen : (L.flatMap En.row).length = L.length * 5 := by
      have := flat_size (f := En.row) (L := L) En.row_len
      simpa [flat] using this
    have hcells : ∀ j u, (L.flatMap En.row)[j]? = some u → w.cell? (a.add j) = some u := fun j u hj => by
      have hne : 0 < L.length := by
        have h1 := (List.getElem?_eq_some_iff.1 hj).1
        omega
      obtain ⟨b, off, hA, -, -⟩ := h 0 _ (List.getElem?_eq_getElem hne)
      injection hA with hA
      subst hA
      have ea : (⟨b, off, none⟩ : Addr).add j = ⟨b, off + j, none⟩ := by
        unfold Addr.add
        split
        · next h => rw [h, Nat.add_zero]
        · rfl
      rw [ea]
      exact rows_flat En.row_len (by omega) h hj
    have hone : ∀ u ∈ L.flatMap En.row, u.oneCell' = true := fun u hu => by
      obtain ⟨e, _, he⟩ := List.mem_flatMap.1 hu
      exact En.row_one e u he
    have HC := Lib.hid hcells
    clear h hcells
    go_enter Try.func55, Try.ntmps55
    go_wp2_with (at_builtin; refine wpList_append_own _ rfl _ _ 96 rfl w.heap.size 113 i0 _ 5 40 Try.underlying96 hi hz0 hz1 hz2 rfl (by omega) _ _ _ rfl (World.ownsRow_made w #[] 0 (Nat.le_refl _) (Nat.zero_le _) (by simp)) a L.length cp (L.flatMap En.row) rfl hlen ?qc2 hone ?qc4 ?qc5 ?qc6 ?_)
    case qc2 =>
      intro j u hj
      exact Lib.cell?_alloc_some _ (HC.out j u hj)
    case qc4 => unfold maxLen; omega
    case qc5 => omega
    case qc6 => simp
    intro v' w1 hown hgrow hnil
    have hx : w1.ownsRow w.heap.size 113 5 v' L.length (L.flatMap En.row) := by simpa using hown
    obtain ⟨A', cap, rfl, hN⟩ := RowN.of_owns En.row_len hx
    have ho : Only [] w w1 := only_grow ((Only.refl [] w).alloc _) hgrow (fun j hj => by simp [Value.ownBlock] at hj; omega)
    clear hown hgrow hnil hx HC hone hlen q hi hz0 hz1 hz2
    go_wp2_with fail
    go_ret
    exact ⟨A', cap, rfl, hN, ho⟩
set_option maxRecDepth 100000 in
set_option maxHeartbeats 1000000 in
theorem desc_new (cp : Nat) (m : Int) (hm : 1 ≤ m) (h : RowsAt w A En.row 5 L) (hl : L.length ≤ 1000) :
    Calls Try.prog 43 #[.int .i64 m, .slice A L.length cp] w fun e w' => ∃ p A' cap, e = .returned (.pointer (some ⟨p, 0, none⟩)) ∧ w.heap.size ≤ p ∧ DeskAt w' p A' cap ⟨m, L, 0, 0⟩ ∧ Only [] w w' := by
  have cC := clone_any cp h hl
  clear h
  go_enter Try.func43, Try.ntmps43
  go_wp2_with (go_at_call 55; (with_reducible refine cC.mono ?_); clear cC; rintro e w1 ⟨A', cap, rfl, hN, ho⟩)
  go_ret
  have ho1 : Only [] w1 (w1.alloc (.cells #[.int .i64 m, .slice A' L.length cap, .int .i64 0, .int .i64 0] 100)) := (Only.refl _ _).alloc _
  exact ⟨w1.heap.size, A', cap, rfl, ho.size, ⟨Blk.new w1 _ _, hN.only ho1 (by simp), ⟨hm, by simp, by simp, by simp, hl⟩⟩, ho.trans ho1⟩
end
end Go.Proofs.Ytleomgmhkoglmaa
