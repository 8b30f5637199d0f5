/- 738 zeros of one's own, a word of one's own words read and put (layers 9 and up). -/
import Derived.Test.YtihipcbhfjpgbaaJ3
import Derived.Test.YtihipcbhfjpgbaaJ4
import Derived.Deep.MidRow
namespace Go.Proofs.Ytihipcbhfjpgbaa
open Go.RowKit
abbrev UT : TypeId := 58
theorem rowU_flat {w : World} {g : Nat} {t : TypeId} {L : List Int} (h : Blk w g t (flat u64row L)) : RowU w g t L := ⟨_, h, fun k x hk => by
  have := flat_at (f := u64row) (i := k) (n := 1) (j := 0) (L := L) (fun _ => rfl) hk rfl
  simpa using this⟩
/-- zeros -/
def zeros : List Int := List.replicate 738 0
theorem zeros_us : Us zeros := fun x hx => by
  obtain rfl := List.eq_of_mem_replicate hx
  exact ⟨by omega, by omega⟩
theorem zeros_at (i : Int) : atL zeros i = 0 := by
  rcases atL_cases zeros i with ⟨k, x, rfl, hx, hv, -⟩ | ⟨-, hv, -⟩
  · rw [hv]
    exact List.eq_of_mem_replicate (List.mem_of_getElem? hx)
  · exact hv
theorem zeros_len : zeros.length = 738 := List.length_replicate
theorem MemP.cell {g : Nat} {t : TypeId} {w : World} {L : List Int} {nn m : Nat} (h : MemP g nn t w L) (hm : m < nn) : w.cell? ⟨g, m, none⟩ = some (.int .u64 (atL L m)) := by
  have hx : L[m]? = some (L[m]'(by rw [h.len]; exact hm)) := List.getElem?_eq_getElem _
  obtain ⟨b, off, e0, -, hc⟩ := h.row.wds m _ hx
  injection e0 with e0
  injection e0 with e1 e2 _
  subst e1 e2
  rw [Nat.zero_add] at hc
  rw [hc, atL_in hx]
theorem MemP.put {g : Nat} {t : TypeId} {w : World} {L : List Int} {nn m : Nat} {x : Int} (h : MemP g nn t w L) (hm : m < nn) (hx : U64 x) : MemP g nn t (w.setCell ⟨g, m, none⟩ (.int .u64 x)) (setL L m x) :=
  ⟨by rw [setL_length]; exact h.len, h.row.set_ (by rw [h.len]; exact hm) x, h.us.set m hx⟩
theorem MemP.only {g : Nat} {t : TypeId} {w w' : World} {L : List Int} {nn : Nat} {F : List Nat} (h : MemP g nn t w L) (ho : Only F w w') (hg : g ∉ F) : MemP g nn t w' L := ⟨h.len, h.row.only ho hg, h.us⟩
end Go.Proofs.Ytihipcbhfjpgbaa
/- Words of the document's state (layers 9 and 10: no object is anything): all words. -/
namespace Go.Proofs.Ytihipcbhfjpgbaa
open Go.RowKit
/-- what words can tell -/
structure RSt.Fit (S : RSt) : Prop where
  cap : ∀ i, InS i → (S.cap i).Small
  par : ∀ i, InS i → -1 ≤ S.par i ∧ S.par i < 96
  kids : ∀ i, InS i → ∀ x, x ∈ S.kids i → InS x
  ns : U64 S.ns
  no : U64 S.no
theorem gd {l : List Int} {i : Nat} {x : Int} (h : l[i]? = some x) : l.getD i 0 = x := by rw [List.getD_eq_getElem?_getD, h]; rfl
theorem wordU64 {c : Cp} (h : c.Small) : U64 c.word := by
  have := Cp.word_lt h
  obtain ⟨h1, h2, h3, h4, h5, h6, h7, h8, h9, h10, h11, h12⟩ := h
  unfold Cp.word at this ⊢
  exact ⟨by omega, by omega⟩
section
variable {w : World} {p gs go : Nat} {S : RSt}
theorem RefAt.cSlot (h : RefM w p gs go S) {i : Nat} (hi : i < 96) : ∃ A cp, RowN w A ItT irow' 1 (S.kids i) ∧ ∀ (j : Nat) (v : Value), (slotRow (S.cap i) (S.par i) (.slice A (S.kids i).length cp))[j]? = some v → w.cell? ⟨gs, i * 8 + j, none⟩ = some v := by
  obtain ⟨-, ⟨cur, h2, h3⟩, -⟩ := h
  obtain ⟨kv, q1, A, cp, rfl, q2⟩ := h3 i hi
  exact ⟨A, cp, q2, fun j v hv => by rw [h2.cell]; exact q1 j v hv⟩
end
end Go.Proofs.Ytihipcbhfjpgbaa
