/- Words of layer 9's statements: 738 zeros of one's own. -/
import Derived.Test.YtlnealbnkplfmaaVPlain
namespace Go.Proofs.Ytlnealbnkplfmaa
open Go.RowKit
abbrev UT : TypeId := 26
def u64row (v : Int) : List Value := [.int .u64 v]
theorem infoU64 : (Try.prog.info? 26).map (fun i => (i.zero, i.size, i.bytes)) = some (some (.int .u64 0), 1, 8) := by kernel_rfl
theorem rowU_flat {w : World} {g : Nat} {t : TypeId} {L : List Int} (h : Blk w g t (flat u64row L)) : RowU w g t L := ⟨_, h, fun k x hk => by
  have := flat_at (f := u64row) (i := k) (n := 1) (j := 0) (L := L) (fun _ => rfl) hk rfl
  simpa using this⟩
/-- zeros -/
def zeros : List Int := List.replicate 738 0
theorem zeros_us : Us zeros := fun x hx => by
  obtain rfl := List.eq_of_mem_replicate hx
  exact ⟨by omega, by omega⟩
theorem zeros_at (i : Int) : atL zeros i = 0 := by
  rcases atL_cases zeros i with ⟨k, x, rfl, hx, hv, -⟩ | ⟨-, hv, -⟩
  · rw [hv]
    exact List.eq_of_mem_replicate (List.mem_of_getElem? hx)
  · exact hv
theorem zeros_get {m : Nat} (h : m < 738) : zeros[m]? = some 0 := by unfold zeros; rw [List.getElem?_replicate, if_pos h]
theorem zeros_len : zeros.length = 738 := List.length_replicate
set_option maxRecDepth 100000 in
theorem words_nil (w : World) : Calls Try.prog 10 #[.slice none 0 0] w fun e w' => e = .returned (.slice (some ⟨w.heap.size, 0, none⟩) 738 738) ∧ MemP w.heap.size 738 UT w' zeros ∧ Only [] w w' := by
  have hmk := Lib.hid fun W : World => run_makeN (P := Try.prog) (t := 27) (f := u64row) 0 infoU64 Try.underlying27 (fun _ => rfl) (by omega) rfl .i64 .i64 738 738 (by omega) (by omega) (by omega) (by omega) W
  have hb := Blk.new w UT (flat u64row (List.replicate 738 0))
  go_enter Try.func10, Try.ntmps10
  go_wp2
  rw [hmk.out]
  go_wp2
  go_loopw [4] (fun i wr => i = .int .i64 0 ∧ MemP w.heap.size 738 UT wr zeros ∧ Only [] w wr) (fun _ _ => 0)
  case atStart => exact ⟨rfl, ⟨zeros_len, rowU_flat hb, zeros_us⟩, (Only.refl _ _).alloc _⟩
  case round =>
    obtain ⟨rfl, hm, ho⟩ := hrel
    go_wp2
    go_ret
    exact ⟨rfl, hm, ho⟩
end Go.Proofs.Ytlnealbnkplfmaa
