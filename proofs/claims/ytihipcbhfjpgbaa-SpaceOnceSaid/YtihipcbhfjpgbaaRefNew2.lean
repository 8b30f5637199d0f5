/- New of the document's state (layers 9 to 21): nothing is used. -/
import Derived.Test.YtihipcbhfjpgbaaRefNew
import Derived.Deep.RegionLaw
namespace Go.Proofs.Ytihipcbhfjpgbaa
open Go.RowKit
theorem owns_far {w w' : World} {base size n : Nat} {e : TypeId} {v : Value} {xs : List Value} {F : List Nat} (h : w.ownsRow base e size v n xs) (ho : Only F w w') (hF : ∀ j, v.ownBlock = some j → j ∉ F) : w'.ownsRow base e size v n xs := by
  refine ⟨h.1, ?_⟩
  rcases h.2 with h0 | ⟨g, cap, cur, rfl, hb, hg, r⟩
  · exact .inl h0
  · exact .inr ⟨g, cap, cur, rfl, hb, (show Blk w' g e cur from ho.blk (show Blk w g e cur from hg) (hF g rfl)), r⟩
/-- so many like rows, in a block of their own -/
theorem many_rows {w : World} {base size n : Nat} {e : TypeId} {v : Value} {r : List Value} (h : w.ownsRow base e size v n (many r n)) (hr : r.length = size) (hn : 0 < n) :
    ∃ g cap cur, v = .slice (some ⟨g, 0, none⟩) n cap ∧ base ≤ g ∧ Blk w g e cur ∧ ∀ i, i < n → RowOf cur size i r := by
  rcases h.2 with ⟨-, h0⟩ | ⟨g, cap, cur, rfl, hb, hg, -, -, -, ht⟩
  · omega
  · refine ⟨g, cap, cur, rfl, hb, hg, fun i hi j u hu => ?_⟩
    have hj : j < size := by rw [← hr]; exact (List.getElem?_eq_some_iff.1 hu).1
    have e1 := flat_get (f := fun _ : Unit => r) (L := List.replicate n ()) (n := size) (fun _ => hr) i j hj
    have e2 : (List.replicate n ()).flatMap (fun _ => r) = many r n := by
      unfold many
      rw [List.flatMap_def, List.map_replicate]
    have hlt : i * size + j < n * size := by
      have : (i + 1) * size ≤ n * size := Nat.mul_le_mul_right _ hi
      rw [Nat.succ_mul] at this
      omega
    rw [List.getElem?_replicate, if_pos hi] at e1
    have e3 : (many r n)[i * size + j]? = r[j]? := by rw [← e2]; simpa [flat] using e1
    rw [← ht, List.getElem?_take_of_lt hlt, Array.getElem?_toList, hu] at e3
    exact e3
set_option maxRecDepth 100000 in
set_option maxHeartbeats 4000000 in
theorem new_any (w : World) : Calls Try.prog 16 #[] w fun e w' => ∃ gs go, e = .returned (.pointer (some ⟨w.heap.size, 0, none⟩)) ∧ RefAt w' StT SlT ObT ItT w.heap.size gs go RSt.new ∧ w.heap.size ≤ gs ∧ w.heap.size ≤ go ∧ Only [] w w' := by
  obtain ⟨iS, hi0, hi1, hi2, hi3⟩ := info_parts infoSlot
  obtain ⟨iO, hj0, hj1, hj2, hj3⟩ := info_parts infoObj
  have hP := Blk.new w StT #[.slice none 0 0, .slice none 0 0, .int .i64 0, .int .i64 0]
  go_enter Try.func16, Try.ntmps16
  go_wp2_with fail
  go_loopw [2] (fun i wr => ∃ (k : Nat) (v : Value), k ≤ 96 ∧ i = .int .i64 k ∧ Blk wr w.heap.size StT #[v, .slice none 0 0, .int .i64 0, .int .i64 0] ∧ wr.ownsRow w.heap.size SlT 8 v k (many slotF k) ∧ Only [] w wr) (fun i _ => 96 - (intOf i).toNat)
  case atStart => exact ⟨0, _, by omega, rfl, hP, World.ownsRow_nil _ _ _ _, (Only.refl _ _).alloc _⟩
  case round =>
    clear hP
    obtain ⟨k, v, hk, rfl, hb, hown, ho⟩ := hrel
    by_cases hlt : k < 96
    · have c0 : wr.cell? ⟨w.heap.size, 0, none⟩ = some v := hb.cell 0
      have hbz := ho.size
      have hpz := hb.lt
      have HB := Lib.hid (And.intro hb (And.intro hown ho))
      have hown' := hown.alloc (.cells slotF.toArray SlT)
      have hb' := hb.alloc (.cells slotF.toArray SlT)
      have hnews : ∀ (j : Nat) (u : Value), slotF[j]? = some u → (wr.alloc (.cells slotF.toArray SlT)).cell? ((⟨wr.heap.size, 0, none⟩ : Addr).add j) = some u := World.news_of_block (cs := slotF.toArray) (t := SlT) (fr := (0, 0)) (heap_alloc_new wr _)
      have HBB := Lib.hid hb'
      clear hb hown ho hb'
      go_wp2_with (at_builtin; refine wpList_append_lies _ (by rfl) _ _ 47 (by rfl) w.heap.size SlT iS slotZ 8 80 Try.underlying47 hi0 hi1 hi2 hi3 rfl (by omega) v k _ (by rfl) hown' ⟨wr.heap.size, 0, none⟩ 1 1 slotF (by rfl) (by rfl) hnews (by simp [Value.oneCell', slotF, slotRow, Cp.zero]) (by omega) (by unfold maxLen; omega) (by omega) (by simp; omega) (wr.heap.size + 1) (by simp) ?_; intro g5 cap5 w5 hrow5 hgrow5 hat5 hlt5; have hb5 := blk_grown HBB.out hgrow5 (own_apart hown' HBB.out (by decide)); have k1 : w5.cell? ⟨w.heap.size, 0, none⟩ = some v := hb5.cell 0; have f1 : w5.frozen? ⟨w.heap.size, 0, none⟩ = false := hb5.frozen 0)
      obtain ⟨hb, hown, ho⟩ := HB.out
      have hg5 : g5 ≠ w.heap.size := fun e => own_apart hrow5 hb5 (by decide) (by rw [← e]; rfl)
      have hs5 : Only [w.heap.size] w5 (w5.setCell ⟨w.heap.size, 0, none⟩ (.slice (some ⟨g5, 0, none⟩) (k + 1) cap5)) := (Only.refl _ _).setCell (.inl (by simp)) _
      refine ⟨⟨k + 1, _, by omega, by go_num, by simpa using hb5.set_ 0 (.slice (some ⟨g5, 0, none⟩) (k + 1) cap5), ?_, ?_⟩, by simp [intOf]; omega⟩
      · rw [many_succ]
        exact owns_far hrow5 hs5 (fun j hj hm => by simp [Value.ownBlock] at hj hm; omega)
      · exact (only_grows (ho.alloc _) hgrow5 (fun j hj => own_base hown' hj)).setCell (.inr (Nat.le_refl _)) _
    · obtain rfl : k = 96 := by omega
      obtain ⟨gs, cs, cur, rfl, hgs, hB, hrows⟩ := many_rows hown (size := 8) rfl (by omega)
      clear hown hlt
      obtain ⟨wo, rfl⟩ : ∃ x, x = wr := ⟨_, rfl⟩
      rw [show ((96 : Nat) : Int) = 96 from rfl]
      go_wp2_with fail
      go_loopw [3] (fun i wr => ∃ (k : Nat) (v : Value), k ≤ 32 ∧ i = .int .i64 k ∧ Blk wr w.heap.size StT #[.slice (some ⟨gs, 0, none⟩) 96 cs, v, .int .i64 0, .int .i64 0] ∧ Blk wr gs SlT cur ∧ wr.ownsRow w.heap.size ObT 32 v k (many objF k) ∧ Only [] w wr) (fun i _ => 32 - (intOf i).toNat)
      case atStart => exact ⟨0, _, by omega, rfl, hb, hB, World.ownsRow_nil _ _ _ _, ho⟩
      case round =>
        clear hb hB ho
        obtain ⟨k, v, hk2, rfl, hb, hB, hown, ho⟩ := hrel
        by_cases hlt : k < 32
        · have c1 : wr.cell? ⟨w.heap.size, 1, none⟩ = some v := hb.cell 1
          have hbz := ho.size
          have hpz := hb.lt
          have hF : w.heap.size ∉ v.ownBlock.toList := fun hm => own_apart hown hb (by decide) (by simpa using hm)
          have hC := fun W (h : Only v.ownBlock.toList wr W) => And.intro h (show W.cell? ⟨w.heap.size, 1, none⟩ = some v from (h.blk hb hF).cell 1)
          have HC := Lib.hid hC
          have hoy : Only v.ownBlock.toList wr wr.drew := (Only.refl _ wr).drewN 1
          have HB := Lib.hid (And.intro hb (And.intro hB (And.intro hown (And.intro ho hF))))
          have cF := fresh_any 0 wr.drew
          clear hb hB ho hC hF c1
          go_upto_region 9 with fail
          have c1 : wr.cell? ⟨w.heap.size, 1, none⟩ = some v := HB.out.1.cell 1
          go_region_law (first | (refine step_append_lies _ (by rfl) _ _ _ (by rfl) w.heap.size ObT iO objZ 32 272 Try.underlying48 hj0 hj1 hj2 hj3 rfl (by omega) v k _ (by rfl) ((owns_far hown.drew ‹Only [] wr.drew w3› (by simp)).alloc _) ⟨w3.heap.size, 0, none⟩ 1 1 objF (by rfl) (by rfl) (World.news_of_block (cs := objF.toArray) (t := ObT) (fr := (0, 0)) (heap_alloc_new w3 _)) (by simp [Value.oneCell', objF, objRow, RObj.fresh, Cp.zero]) (by omega) (by unfold maxLen; omega) (by omega) (by simp; omega) (w3.heap.size + 1) (by simp) ?_; intro g5 cap5 w5 hrow5 hgrow5 hat5 hlt5; have hoz := (hox.alloc _).trans (grows_S hgrow5); have hb5 := hoz.blk HB.out.1 HB.out.2.2.2.2; have k1 : w5.cell? ⟨w.heap.size, 1, none⟩ = some v := hb5.cell 1; have f1 : w5.frozen? ⟨w.heap.size, 1, none⟩ = false := hb5.frozen 1) | (go_simp; go_at_call 17; (with_reducible refine cF.mono ?_); clear cF; rintro e w3 ⟨rfl, ho3⟩; have hox := hoy.trans (ho3.more (S' := v.ownBlock.toList) (fun _ _ hm => absurd hm (List.not_mem_nil))); have hz3 := hox.size; have hp3 : w.heap.size < w3.heap.size := Nat.lt_of_lt_of_le hpz hz3; have c3 : w3.cell? ⟨w.heap.size, 1, none⟩ = some v := (HC.out _ hox).2))
          all_goals
            obtain ⟨hb, hB, hown, ho, hF⟩ := HB.out
            have hBl := hoz.blk hB (fun hm => own_apart hown hB (by decide) (by simpa using hm))
            have hg5 : g5 ≠ w.heap.size := fun e => own_apart hrow5 hb5 (by decide) (by rw [← e]; rfl)
            have hgs5 : gs ≠ w.heap.size := fun e => (Blk.ne_ hBl hb5 (by decide)) e
            have hs5 : Only [w.heap.size] w5 (w5.setCell ⟨w.heap.size, 1, none⟩ (.slice (some ⟨g5, 0, none⟩) (k + 1) cap5)) := (Only.refl _ _).setCell (.inl (by simp)) _
            have hall : Only [] w w5 := ho.then hoz (fun x hx => .inr (own_base hown (by simpa using hx)))
            go_wp2_with fail
            go_roundw
            case rel =>
              refine ⟨k + 1, _, by omega, by go_num, by simpa using hb5.set_ 1 (.slice (some ⟨g5, 0, none⟩) (k + 1) cap5), hs5.blk hBl (by simpa using hgs5), ?_, hall.setCell (.inr (Nat.le_refl _)) _⟩
              rw [many_succ]
              exact owns_far hrow5 hs5 (fun j hj hm => by simp [Value.ownBlock] at hj hm; omega)
            case measure => simp [intOf]; omega
        · obtain rfl : k = 32 := by omega
          obtain ⟨go, co, cur', rfl, hgo, hB', hrows'⟩ := many_rows hown (size := 32) rfl (by omega)
          clear hown hlt
          go_wp2_with fail
          go_ret
          refine ⟨gs, go, rfl, ⟨⟨cs, co, hb⟩, ⟨cur, hB, fun i hi => ⟨_, hrows i hi, NumsV.nil _ _⟩⟩, ⟨cur', hB', fun i hi => ⟨_, hrows' i hi, NumsC.nil _ _⟩⟩⟩, hgs, hgo, ho⟩
end Go.Proofs.Ytihipcbhfjpgbaa
