/- Entries, as the document's own (layer 7's law): 'as'. -/
import Derived.Test.YtgkjkmdenmighaaDescM
import Derived.Test.YtgkjkmdenmighaaRefDesc
import Derived.Deep.AppendLies
namespace Go.Proofs.Ytgkjkmdenmighaa
open Go.RowKit
theorem infoEntryR : (Try.prog.info? 66).map (fun i => (i.zero, i.size, i.bytes)) = some (some (.agg #[.int .i64 0, .int .u32 0, .int .u64 0, .bool false]), 4, 32) := by kernel_rfl
theorem only_grew {w w' w2 : World} {row : Option Nat} (h : Only [] w w') (hg : w'.grownBy w2 row) (hr : ∀ j, row = some j → w.heap.size ≤ j) : Only [] w w2 :=
  ⟨hg.os.trans h.os, hg.tape.trans h.tape, hg.output.trans h.output, Nat.le_trans h.size hg.size, fun k hk hn => (hg.block k (Nat.lt_of_lt_of_le hk h.size) (fun e => by have := hr k e.symm; omega)).trans (h.block k hk hn)⟩
section
variable {w : World} {A : Option Addr} {L : List En}
set_option maxRecDepth 100000 in
set_option maxHeartbeats 2000000 in
theorem as_any (cp : Nat) (h : RowsAt w A En.row 5 L) (hl : L.length ≤ 1000) :
    Calls Try.prog 8 #[.slice A L.length cp] w fun e w' => ∃ A' cap, e = .returned (.slice A' L.length cap) ∧ RowN w' A' RET En.rowR 4 L ∧ Only [] w w' := by
  obtain ⟨i0, hi, hz0, hz1, hz2⟩ := info_parts infoEntryR
  have HA := Lib.hid h
  clear h
  go_enter Try.func8, Try.ntmps8
  go_wp2_with fail
  go_loopw [3, 4] (fun l i wr => ∃ j : Nat, j ≤ L.length ∧ i = .int .i64 j ∧ wr.ownsRow w.heap.size 66 4 l j ((L.take j).flatMap En.rowR) ∧ Only [] w wr) (fun _ i _ => L.length - (intOf i).toNat)
  case atStart => exact ⟨0, by omega, rfl, World.ownsRow_nil _ _ _ _, Only.refl _ _⟩
  case round =>
    obtain ⟨j, hj, rfl, hrow, ho⟩ := hrel
    have hbs := ho.size
    by_cases hlt : j < L.length
    · obtain ⟨e, he⟩ : ∃ e, L[j]? = some e := ⟨_, List.getElem?_eq_getElem hlt⟩
      obtain ⟨b, off, rfl, hb, hc⟩ := HA.out j e he
      have hf : ∀ W, Only [] w W → Only [] w W ∧ W.cell? ⟨b, off + j * 5, none⟩ = some (.int .i64 e.cell) ∧ W.cell? ⟨b, off + j * 5 + 1, none⟩ = some (.int .u32 e.ver) ∧ W.cell? ⟨b, off + j * 5 + 3, none⟩ = some (.int .u64 e.new) ∧ W.cell? ⟨b, off + j * 5 + 4, none⟩ = some (.bool e.wr) := fun W h =>
        ⟨h, (h.cell (p := ⟨b, _, none⟩) hb (by simp)).trans (hc 0 _ rfl), (h.cell (p := ⟨b, _, none⟩) hb (by simp)).trans (hc 1 _ rfl), (h.cell (p := ⟨b, _, none⟩) hb (by simp)).trans (hc 3 _ rfl), (h.cell (p := ⟨b, _, none⟩) hb (by simp)).trans (hc 4 _ rfl)⟩
      have hge : ∀ j, u3.ownBlock = some j → w.heap.size ≤ j := fun j hj => (hrow.lt j hj).1
      have HF := Lib.hid hf
      have HE := Lib.hid he
      have hjb : j ≤ 1000 := by omega
      clear hf hc he
      go_wp2_with fail
      go_region_held3 (fun W => Only [] w W ∧ W.cell? ⟨b, off + j * 5, none⟩ = some (.int .i64 e.cell) ∧ W.cell? ⟨b, off + j * 5 + 1, none⟩ = some (.int .u32 e.ver) ∧ W.cell? ⟨b, off + j * 5 + 3, none⟩ = some (.int .u64 e.new) ∧ W.cell? ⟨b, off + j * 5 + 4, none⟩ = some (.bool e.wr))
        (first | exact HF.out _ ho.drew | exact HF.out _ (ho.drew.alloc _) | exact HF.out _ (only_grew (ho.drew.alloc _) hgrow hge))
        (first | (refine step_append_lies _ (by rfl) _ _ _ (by rfl) w.heap.size 66 i0 _ 4 32 Try.underlying41 hi hz0 hz1 hz2 rfl (by omega) u3 j _ (by rfl) (hrow.drew.alloc _) ⟨wr.heap.size, 0, none⟩ 1 1 (En.rowR e) (by rfl) (by rfl) (World.news_of_block (cs := (En.rowR e).toArray) (t := 66) (fr := (0, 0)) (heap_alloc_new wr.drew _)) (by simp [Value.oneCell', En.rowR]) (by omega) (by unfold maxLen; omega) (by omega) (by have : wr.drew.heap.size = wr.heap.size := rfl; simp; omega) (wr.heap.size + 1) (by simp) ?_; intro gg cap w5 hown' hgrow hat hltg))
      have hO : Only [] w w5 := only_grew (ho.drew.alloc _) hgrow hge
      have HX := Lib.hid (And.intro hown' hO)
      clear hrow ho hgrow hat hltg hown' hO
      go_wp2_with fail
      obtain ⟨hown', hO⟩ := HX.out
      refine ⟨⟨j + 1, by omega, by go_num, ?_, hO⟩, by simp [intOf]; omega⟩
      rw [List.take_add_one, HE.out]
      simpa using hown'
    · obtain rfl : j = L.length := by omega
      rw [List.take_of_length_le (by omega)] at hrow
      obtain ⟨A', cap, e1, hN⟩ := RowN.of_owns En.rowR_len hrow
      subst e1
      clear hrow
      go_wp2_with fail
      go_ret
      exact ⟨A', cap, rfl, hN, ho⟩
end
end Go.Proofs.Ytgkjkmdenmighaa
