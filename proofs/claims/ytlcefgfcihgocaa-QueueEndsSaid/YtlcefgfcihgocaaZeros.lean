/- 738 zeros of one's own, a word of one's own words read and put (layers 9 and up). -/
import Derived.Test.YtlcefgfcihgocaaVPlain
namespace Go.Proofs.Ytlcefgfcihgocaa
open Go.RowKit
abbrev UT : TypeId := 40
def u64row (v : Int) : List Value := [.int .u64 v]
theorem infoU64 : (Try.prog.info? 40).map (fun i => (i.zero, i.size, i.bytes)) = some (some (.int .u64 0), 1, 8) := by kernel_rfl
theorem rowU_flat {w : World} {g : Nat} {t : TypeId} {L : List Int} (h : Blk w g t (flat u64row L)) : RowU w g t L := ⟨_, h, fun k x hk => by
  have := flat_at (f := u64row) (i := k) (n := 1) (j := 0) (L := L) (fun _ => rfl) hk rfl
  simpa using this⟩
/-- zeros -/
def zeros : List Int := List.replicate 738 0
theorem zeros_us : Us zeros := fun x hx => by
  obtain rfl := List.eq_of_mem_replicate hx
  exact ⟨by omega, by omega⟩
theorem zeros_at (i : Int) : atL zeros i = 0 := by
  rcases atL_cases zeros i with ⟨k, x, rfl, hx, hv, -⟩ | ⟨-, hv, -⟩
  · rw [hv]
    exact List.eq_of_mem_replicate (List.mem_of_getElem? hx)
  · exact hv
theorem zeros_len : zeros.length = 738 := List.length_replicate
theorem MemP.cell {g : Nat} {t : TypeId} {w : World} {L : List Int} {nn m : Nat} (h : MemP g nn t w L) (hm : m < nn) : w.cell? ⟨g, m, none⟩ = some (.int .u64 (atL L m)) := by
  have hx : L[m]? = some (L[m]'(by rw [h.len]; exact hm)) := List.getElem?_eq_getElem _
  obtain ⟨b, off, e0, -, hc⟩ := h.row.wds m _ hx
  injection e0 with e0
  injection e0 with e1 e2 _
  subst e1 e2
  rw [Nat.zero_add] at hc
  rw [hc, atL_in hx]
theorem MemP.put {g : Nat} {t : TypeId} {w : World} {L : List Int} {nn m : Nat} {x : Int} (h : MemP g nn t w L) (hm : m < nn) (hx : U64 x) : MemP g nn t (w.setCell ⟨g, m, none⟩ (.int .u64 x)) (setL L m x) :=
  ⟨by rw [setL_length]; exact h.len, h.row.set_ (by rw [h.len]; exact hm) x, h.us.set m hx⟩
theorem MemP.only {g : Nat} {t : TypeId} {w w' : World} {L : List Int} {nn : Nat} {F : List Nat} (h : MemP g nn t w L) (ho : Only F w w') (hg : g ∉ F) : MemP g nn t w' L := ⟨h.len, h.row.only ho hg, h.us⟩
end Go.Proofs.Ytlcefgfcihgocaa
