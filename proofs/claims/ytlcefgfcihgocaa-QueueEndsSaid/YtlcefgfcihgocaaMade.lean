/- 738 words of one's own, as they are made (layers 9 and up). -/
import Derived.Test.YtlcefgfcihgocaaVPlain
import Derived.Test.YtlcefgfcihgocaaZeros
namespace Go.Proofs.Ytlcefgfcihgocaa
open Go.RowKit
abbrev PwT : TypeId := 25
/-- the cells of 738 zeros -/
def zerosA : Array Value := flat u64row (List.replicate 738 0)
theorem made_words (W : World) : (Instr.makeSlice 24 (.int .i64 738) (.int .i64 738)).run Try.prog W = .ok (.slice (some ⟨W.heap.size, 0, none⟩) 738 738) (W.alloc (.cells zerosA UT)) :=
  run_makeN (P := Try.prog) (t := 24) (f := u64row) 0 infoU64 Try.underlying24 (fun _ => rfl) (by omega) rfl .i64 .i64 738 738 (by omega) (by omega) (by omega) (by omega) W
theorem memP_new (W : World) : MemP W.heap.size 738 UT (W.alloc (.cells zerosA UT)) zeros := ⟨zeros_len, rowU_flat (Blk.new W UT zerosA), zeros_us⟩
theorem MemP.blkG {g n : Nat} {w : World} {L : List Int} (h : MemP g n UT w L) : ∃ cur, Blk w g UT cur := by
  obtain ⟨cur, hb, -⟩ := h.row
  exact ⟨cur, hb⟩
end Go.Proofs.Ytlcefgfcihgocaa
