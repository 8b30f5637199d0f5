/- Package cdt's calls on plain words of one's own (layer 10). -/
import Derived.Test.YtopbbpjjiamdcaaCdtReplace
import Derived.Test.YtopbbpjjiamdcaaCdtLeaf
import Derived.Test.YtopbbpjjiamdcaaCdtPl
import Derived.Test.YtopbbpjjiamdcaaVPlain
import Derived.Test.YtopbbpjjiamdcaaZeros
namespace Go.Proofs.Ytopbbpjjiamdcaa
open Go.RowKit
abbrev PwT : TypeId := 27
/-- the cells of 738 zeros -/
def zerosA : Array Value := flat u64row (List.replicate 738 0)
theorem made_words (W : World) : (Instr.makeSlice 26 (.int .i64 738) (.int .i64 738)).run Try.prog W = .ok (.slice (some ⟨W.heap.size, 0, none⟩) 738 738) (W.alloc (.cells zerosA UT)) :=
  run_makeN (P := Try.prog) (t := 26) (f := u64row) 0 infoU64 Try.underlying26 (fun _ => rfl) (by omega) rfl .i64 .i64 738 738 (by omega) (by omega) (by omega) (by omega) W
theorem memP_new (W : World) : MemP W.heap.size 738 UT (W.alloc (.cells zerosA UT)) zeros := ⟨zeros_len, rowU_flat (Blk.new W UT zerosA), zeros_us⟩
section
variable {g : Nat} {w : World} {L L' : List Int} {k p n i x : Int}
theorem plink_is (hm : MemP g 738 UT w L) (h1 : linkA L k p = n) (h2 : linkL L k p = L') :
    Calls Try.prog 9 #[.iface PwT (.slice (some ⟨g, 0, none⟩) 738 738), .int .i64 k, .int .i64 p] w fun e w' => e = .returned (errV n) ∧ MemP g 738 UT w' L' ∧ Only [g] w w' :=
  link_is (viewP g 738 738 UT) hm (by rw [linkP_plain, h1, h2])
theorem punlink_is (hm : MemP g 738 UT w L) (h1 : unlinkA k = n) (h2 : unlinkL L k = L') :
    Calls Try.prog 11 #[.iface PwT (.slice (some ⟨g, 0, none⟩) 738 738), .int .i64 k] w fun e w' => e = .returned (errV n) ∧ MemP g 738 UT w' L' ∧ Only [g] w w' :=
  unlink_is (viewP g 738 738 UT) hm (by rw [unlinkP_plain, h1, h2])
theorem preplace_is (hm : MemP g 738 UT w L) (h1 : replaceA L k p = n) (h2 : replaceL L k p = L') :
    Calls Try.prog 13 #[.iface PwT (.slice (some ⟨g, 0, none⟩) 738 738), .int .i64 k, .int .i64 p] w fun e w' => e = .returned (errV n) ∧ MemP g 738 UT w' L' ∧ Only [g] w w' :=
  replace_is (viewP g 738 738 UT) hm (by rw [replaceP_plain, h1, h2])
theorem pkids_is {l : List Int} (hm : MemP g 738 UT w L) (h : kidsL L i = l) :
    Calls Try.prog 20 #[.iface PwT (.slice (some ⟨g, 0, none⟩) 738 738), .int .i64 i] w fun e w' => ∃ u, e = .returned u ∧ MadeV w' w.heap.size u l ∧ MemP g 738 UT w' L ∧ Only [g] w w' :=
  kids_is (viewP g 738 738 UT) hm (by rw [kidsP_plain, h])
theorem pparent_is (hm : MemP g 738 UT w L) (h : toldL L i 1 = x) :
    Calls Try.prog 21 #[.iface PwT (.slice (some ⟨g, 0, none⟩) 738 738), .int .i64 i] w fun e w' => e = .returned (.int .i64 x) ∧ MemP g 738 UT w' L ∧ Only [g] w w' :=
  cparent_is (viewP g 738 738 UT) hm (by rw [toldP_plain, h])
theorem pleaf_is (hm : MemP g 738 UT w L) (h : leafL L i = x) :
    Calls Try.prog 18 #[.iface PwT (.slice (some ⟨g, 0, none⟩) 738 738), .int .i64 i] w fun e w' => e = .returned (.int .i64 x) ∧ MemP g 738 UT w' L ∧ Only [g] w w' :=
  leaf_is (viewP g 738 738 UT) hm (by rw [leafP_plain, h])
end
end Go.Proofs.Ytopbbpjjiamdcaa
