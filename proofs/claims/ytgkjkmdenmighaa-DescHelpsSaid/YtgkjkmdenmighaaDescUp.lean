/- The document's example of layer 7 holds. -/
import Derived.Test.YtgkjkmdenmighaaDescStep
import Derived.Test.YtgkjkmdenmighaaDescNew
import Derived.Test.YtgkjkmdenmighaaCellEq
namespace Go.Proofs.Ytgkjkmdenmighaa
open Go.RowKit
def upS (k : Nat) : St := ⟨9, [⟨0, 0, 0⟩, ⟨0, 0, 0⟩, if k = 0 then ⟨0, 0, 0⟩ else if k = 1 then ⟨0, 0, 1⟩ else ⟨5, 1, 0⟩, ⟨0, 0, 0⟩]⟩
def upD (st : Int) (pos : Nat) : De := ⟨1, [⟨2, 0, 0, 5, true⟩], st, pos⟩
theorem up1 : stepD (upD 0 0) (upS 0) = (0, upD 0 1, upS 1) := rfl
theorem up2 : stepD (upD 0 1) (upS 1) = (0, upD 1 0, upS 1) := rfl
theorem up3 : stepD (upD 1 0) (upS 1) = (0, upD 1 1, upS 2) := rfl
set_option maxRecDepth 100000 in
set_option maxHeartbeats 4000000 in
theorem up_any (w : World) : Calls Try.prog 5 #[] w fun e w' => e = .returned (.bool true) ∧ Only [] w w' := by
  have hm := cell_guard
  have hq := cell_eql
  have hq2 := cell_in
  go_enter Try.func5, Try.ntmps5
  go_wp2_with fail
  refine (new_good 4 9 w (by omega) (by omega) (by omega) (by omega)).mono ?_
  rintro e w1 ⟨rfl, hs, ho⟩
  rw [codeV0]
  replace hs : StoreAt w1 WT (w.heap.size + 1) w.heap.size (upS 0) := hs
  have HS := Lib.hid (And.intro hs ho)
  clear hs ho
  go_wp2_with fail
  obtain ⟨w2, hw2⟩ : ∃ w2, w2 = w1.alloc (.cells #[.int .i64 2, .int .u32 0, .int .u64 0, .int .u64 5, .bool true] 53) := ⟨_, rfl⟩
  have ho2 : Only [] w1 w2 := by rw [hw2]; exact (Only.refl _ _).alloc _
  have hB : Blk w2 w1.heap.size 53 #[.int .i64 2, .int .u32 0, .int .u64 0, .int .u64 5, .bool true] := by rw [hw2]; exact Blk.new w1 _ _
  have hR : RowsAt w2 (some ⟨w1.heap.size, 0, none⟩) En.row 5 [⟨2, 0, 0, 5, true⟩] := fun k a ha => by
    cases k with
    | zero => cases ha; exact ⟨_, 0, rfl, hB.lt, fun j v hv => by rw [hB.cell]; simpa [En.row] using hv⟩
    | succ k => simp at ha
  have hs2 := HS.out.1.only ho2 (by simp) (by simp)
  have ho := HS.out.2.trans ho2
  have hz := ho.size
  rw [← hw2]
  clear hw2 ho2 hB HS
  refine (desc_new (L := [⟨2, 0, 0, 5, true⟩]) 1 1 (by decide) hR (by decide)).mono ?_
  rintro e w3 ⟨p, A', cap, rfl, hp, hd, ho3⟩
  replace hd : DeskAt w3 p A' cap (upD 0 0) := hd
  replace hs := hs2.only ho3 (by simp) (by simp)
  replace ho := ho.trans ho3
  have hpz : w.heap.size ≤ p := by omega
  clear hs2 ho3 hR
  go_wp2_with fail
  have hin : ∀ x, x ∈ [p, w.heap.size] → x ∈ ([] : List Nat) ∨ w.heap.size ≤ x := fun x hx => by
    simp only [List.mem_cons, List.not_mem_nil, or_false] at hx
    omega
  refine (step_desk hd hs).mono ?_
  rw [up1]
  rintro e w4 ⟨rfl, hd4, hs4, ho4⟩
  replace ho := ho.then ho4 hin
  clear hd hs ho4
  go_wp2_with fail
  have cR := read_any _ _ _ 2 w4 hs4
  rw [show readI (upS 1) 2 = (0, ⟨0, 0, 1⟩) from rfl, codeV0] at cR
  refine cR.mono ?_
  clear cR
  rintro e w5 ⟨rfl, ho5⟩
  simp only [cV]
  replace hd4 := hd4.only0 ho5
  replace hs4 := hs4.only ho5 (by simp) (by simp)
  replace ho := ho.trans ho5
  clear ho5
  go_wp2_with fail
  have hz5 : w.heap.size ≤ w5.heap.size ∧ p < w5.heap.size ∧ w.heap.size < w5.heap.size := ⟨ho.size, hd4.head.lt, hs4.body.lt⟩
  obtain ⟨w6, hw6⟩ : ∃ w6, w6 = w5.alloc (.cells #[.int .u64 0, .int .u32 0, .int .i64 1] 55) := ⟨_, rfl⟩
  have ho6 : Only [] w5 w6 := by rw [hw6]; exact (Only.refl _ _).alloc _
  have hB : Blk w6 w5.heap.size 55 #[.int .u64 0, .int .u32 0, .int .i64 1] := by rw [hw6]; exact Blk.new w5 _ _
  rw [← hw6]
  replace hd4 := hd4.only0 ho6
  replace hs4 := hs4.only ho6 (by simp) (by simp)
  replace ho := ho.trans ho6
  clear hw6 ho6
  refine (step_desk hd4 hs4).mono ?_
  rw [up2]
  rintro e w7 ⟨rfl, hd7, hs7, ho7⟩
  have hB7 := ho7.blk hB (by simp; omega)
  replace ho := ho.then ho7 hin
  clear hd4 hs4 ho7 hB
  go_wp2_with fail
  refine (status_any hd7).mono ?_
  rintro e w8 ⟨rfl, rfl⟩
  rw [show (upD 1 0).st = 1 from rfl]
  go_wp2_with fail
  refine (step_desk hd7 hs7).mono ?_
  rw [up3]
  rintro e w9 ⟨rfl, hd9, hs9, ho9⟩
  have hB9 := ho9.blk hB7 (by simp; omega)
  replace ho := ho.then ho9 hin
  clear hd7 hs7 ho9 hB7
  go_wp2_with fail
  have cR := read_any _ _ _ 2 w9 hs9
  rw [show readI (upS 2) 2 = (0, ⟨5, 1, 0⟩) from rfl, codeV0] at cR
  refine cR.mono ?_
  clear cR
  rintro e w10 ⟨rfl, ho10⟩
  simp only [cV]
  replace hd9 := hd9.only0 ho10
  replace ho := ho.trans ho10
  replace hB9 := ho10.blk hB9 (by simp)
  clear ho10 hs9
  have x2 : w10.cell? ⟨w5.heap.size, 2, none⟩ = some (.int .i64 1) := hB9.cell 2
  have hz10 := hB9.lt
  have cO := over_any (hd9.only0 ((Only.refl [] w10).alloc (.cells #[.int .u64 5, .int .u32 1, .int .i64 0] 55)))
  rw [show (upD 1 1).over = true from rfl] at cO
  have cM := fun n => mark_any ((hd9.only0 ((Only.refl [] w10).alloc (.cells #[.int .u64 5, .int .u32 1, .int .i64 0] 55))).drewN n)
  rw [show (upD 1 1).mark = 1 from rfl] at cM
  have HO := Lib.hid ho
  clear hd9 ho hB9
  go_wp2_with (first | (go_at_call 12; (with_reducible refine cO.mono ?_); clear cO; rintro e w11 ⟨rfl, q, rfl⟩) | (go_at_call 14; (with_reducible refine (cM _).mono ?_); clear cM; rintro e w12 ⟨rfl, rfl⟩))
  go_ret
  exact ⟨rfl, (HO.out.alloc _).drewN _⟩
end Go.Proofs.Ytgkjkmdenmighaa
