/- The example at the statements' head comes out true (layer 5). -/
import Derived.Test.YtmegmnpnkhocaaaViewChanged
namespace Go.Proofs.Ytmegmnpnkhocaaa
open Go.RowKit
section
variable {A B : Option Addr} {LA LB : List Int}
theorem changed_is (ca cb : Nat) (w : World) (hA : Wds w A LA) (hB : Wds w B LB) (hla : LA.length ≤ 1000) (hlb : LB.length ≤ 1000) {R : List (Int × Int)} (hR : chgL LA LB = R) :
    Calls Try.prog 11 #[.slice A LA.length ca, .slice B LB.length cb] w fun e w' =>
      ∃ C cap, e = .returned (.slice C R.length cap) ∧ Prs w' w.heap.size C R .u64 ∧ Only [] w w' := by
  subst hR
  refine (changed_any ca cb w hA hB hla hlb).mono ?_
  rintro e w' ⟨v, rfl, hr, hb⟩
  obtain ⟨C, cap, rfl, hp⟩ := prs_of_owns hr
  exact ⟨C, cap, rfl, hp, Only.of_below hb []⟩
end
/-- a row of words that was just made -/
theorem rowU_new (w : World) (t : TypeId) (L : List Int) : RowU (w.alloc (.cells (L.map (Value.int .u64)).toArray t)) w.heap.size t L :=
  ⟨_, Blk.new w t _, fun k x hx => by simp [hx]⟩
theorem wds_two (w : World) (t : TypeId) (P Q : List Int) :
    Wds ((w.alloc (.cells (P.map (Value.int .u64)).toArray t)).alloc (.cells (Q.map (Value.int .u64)).toArray t)) (some ⟨w.heap.size, 0, none⟩) P ∧
    Wds ((w.alloc (.cells (P.map (Value.int .u64)).toArray t)).alloc (.cells (Q.map (Value.int .u64)).toArray t)) (some ⟨w.heap.size + 1, 0, none⟩) Q := by
  have h1 := ((rowU_new w t P).wds.only0 ((Only.refl [] _).alloc (.cells (Q.map (Value.int .u64)).toArray t)))
  have h2 := (rowU_new (w.alloc (.cells (P.map (Value.int .u64)).toArray t)) t Q).wds
  rw [World.size_alloc] at h2
  exact ⟨h1, h2⟩
set_option maxHeartbeats 1000000 in
theorem up_any (w : World) : Calls Try.prog 6 #[] w fun e w' => e = .returned (.bool true) ∧ Only [] w w' := by
  go_enter Try.func6, Try.ntmps6
  go_wp2_with fail
  obtain ⟨h1, h2⟩ := wds_two w 23 [1, 2] [1, 3]
  refine (changed_is (LA := [1, 2]) (LB := [1, 3]) (R := [(1, 3)]) 2 2 _ h1 h2 (by decide) (by decide) (by decide +kernel)).mono ?_; rintro e w1 ⟨C, cap, rfl, hp, ho1⟩
  clear h1 h2
  obtain ⟨b, rfl, hB, hb, hc0, hc1⟩ := hp 0 _ rfl
  go_wp2_with fail
  have hU := rowU_new w1 23 [7, 8]
  refine (write_any (L := [7, 8]) 2 _ hU 1 9).mono ?_; rintro e w2 ⟨rfl, hw2⟩
  have hU2 := hU.wr 1 9
  rw [← hw2] at hU2
  have ho2 : Only [w1.heap.size] (w1.alloc (.cells #[.int .u64 7, .int .u64 8] 23)) w2 := hw2 ▸ wrW_only _ _ _ _ _
  clear hw2 hU
  have ho3 : Only [] w1 w2 := ((Only.refl [] w1).alloc _).then ho2 (fun x hx => .inr (by simp at hx; omega))
  have d0 : w2.cell? ⟨b, 0, none⟩ = some (.int .i64 1) := (ho3.cell (p := ⟨b, 0, none⟩) hb (by simp)).trans hc0
  have d1 : w2.cell? ⟨b, 1, none⟩ = some (.int .u64 3) := (ho3.cell (p := ⟨b, 1, none⟩) hb (by simp)).trans hc1
  have ho : Only [] w w2 := (((Only.refl [] w).alloc _).alloc _).trans (ho1.trans ho3)
  rw [show setL [7, 8] 1 9 = [7, 9] by decide +kernel] at hU2
  have hU := hU2.wds
  have E1 := Lib.hid (show atL [7, 9] 1 = 9 by decide +kernel)
  have E2 := Lib.hid (show atL [7, 9] 2 = 0 by decide +kernel)
  have E3 := Lib.hid (show atL [7, 9] (-1) = 0 by decide +kernel)
  clear hU2 ho1 ho2 ho3 hB hb hc0 hc1 hp
  go_wp2_with fail
  refine (read_is (L := [7, 9]) 2 _ hU E1.out).mono ?_; rintro e w' ⟨rfl, hw'⟩; replace hw' := hw'.symm; subst hw'
  go_wp2_with fail
  refine (read_is (L := [7, 9]) 2 _ hU E2.out).mono ?_; rintro e w' ⟨rfl, hw'⟩; replace hw' := hw'.symm; subst hw'
  go_wp2_with fail
  refine (read_is (L := [7, 9]) 2 _ hU E3.out).mono ?_; rintro e w' ⟨rfl, hw'⟩; replace hw' := hw'.symm; subst hw'
  go_wp2_with fail
  go_ret
  exact ⟨rfl, ho⟩
end Go.Proofs.Ytmegmnpnkhocaaa
