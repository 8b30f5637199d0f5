/- A store and the document's, of the same cells, are told to be the same (layer 7's law). -/
import Derived.Test.YtgkjkmdenmighaaRefC
import Derived.Test.YtgkjkmdenmighaaCellEq
import Derived.Test.YtgkjkmdenmighaaDescM
namespace Go.Proofs.Ytgkjkmdenmighaa
open Go.RowKit
theorem readI_at {s : St} {k : Nat} {c : C} (h : s.L[k]? = some c) : readI s (k : Int) = (0, c) := by simp [readI, St.get_nat, h]
set_option maxRecDepth 100000 in
set_option maxHeartbeats 2000000 in
theorem same_any {w : World} {ps g pr gr : Nat} {s : St} (hs : StoreAt w WT ps g s) (hr : StoreAt w RT pr gr s) :
    Calls Try.prog 15 #[.pointer (some ⟨ps, 0, none⟩), .pointer (some ⟨pr, 0, none⟩)] w fun e w' => e = .returned (.bool true) ∧ Only [] w w' := by
  have hm := cell_guard
  have hq := cell_neq
  have hq2 := cell_in
  have hlen := hs.ok.len
  have HS := Lib.hid (And.intro hs hr)
  clear hs hr
  go_enter Try.func15, Try.ntmps15
  go_wp2_with fail
  go_loopw [5] (fun i wr => ∃ k : Nat, k ≤ s.L.length ∧ i = .int .i64 k ∧ Only [] w wr) (fun i _ => s.L.length - (intOf i).toNat)
  case atStart => exact ⟨0, by omega, rfl, Only.refl _ _⟩
  case round =>
    obtain ⟨k, hk, rfl, ho⟩ := hrel
    have hs := HS.out.1.only ho (by simp) (by simp)
    have hr := HS.out.2.only ho (by simp) (by simp)
    have hcell := hr.cell0
    by_cases hlt : k < s.L.length
    · obtain ⟨c, hc⟩ : ∃ c, s.L[k]? = some c := ⟨_, List.getElem?_eq_getElem hlt⟩
      have cR := read_any ps g s k wr hs
      rw [readI_at hc, codeV0] at cR
      have HC := Lib.hid hc
      clear hc hs
      go_wp2_with fail
      refine cR.mono ?_
      clear cR
      rintro e w2 ⟨rfl, ho2⟩
      simp only [cV]
      replace ho := ho.trans ho2
      replace hr := hr.only ho2 (by simp) (by simp)
      clear hcell ho2
      go_wp2_with fail
      obtain ⟨w3, hw3⟩ : ∃ w3, w3 = w2.alloc (.cells #[.int .u64 c.v, .int .u32 c.ver, .int .i64 c.mark] 55) := ⟨_, rfl⟩
      have ho3 : Only [] w2 w3 := by rw [hw3]; exact (Only.refl _ _).alloc _
      have hC : Blk w3 w2.heap.size 55 #[.int .u64 c.v, .int .u32 c.ver, .int .i64 c.mark] := by rw [hw3]; exact Blk.new w2 _ _
      rw [← hw3]
      replace ho := ho.trans ho3
      replace hr := hr.only ho3 (by simp) (by simp)
      have hcell := hr.cell0
      have m0 := hr.at0 HC.out
      have m1 := hr.at1 HC.out
      have m2 := hr.at2 HC.out
      have x0 : w3.cell? ⟨w2.heap.size, 0, none⟩ = some (.int .u64 c.v) := hC.cell 0
      have x1 : w3.cell? ⟨w2.heap.size, 1, none⟩ = some (.int .u32 c.ver) := hC.cell 1
      have x2 : w3.cell? ⟨w2.heap.size, 2, none⟩ = some (.int .i64 c.mark) := hC.cell 2
      clear hw3 ho3 hC hr
      go_big_quiet (fail)
      go_wp2_with fail
      exact ⟨⟨k + 1, by omega, by go_num, ho.drewN _⟩, by simp [intOf]; omega⟩
    · obtain rfl : k = s.L.length := by omega
      go_wp2_with fail
      go_ret
      exact ⟨rfl, ho⟩
end Go.Proofs.Ytgkjkmdenmighaa
