/- Cap of package cspace on plain words of one's own (layers 11 and up). -/
import Derived.Test.YtlhcigpllkigdaaCsCap
import Derived.Test.YtlhcigpllkigdaaJ12
namespace Go.Proofs.Ytlhcigpllkigdaa
open Go.RowKit
section
variable {g : Nat} {w w' : World} {L : List Int} {c : Cp} {i : Int}
theorem pccap_is (hm : MemP g 738 UT w L) (h : capL L i = c) :
    Calls Try.prog 7 #[.iface PwT (.slice (some ⟨g, 0, none⟩) 738 738), .int .i64 i] w fun e w' => e = .returned c.v ∧ MemP g 738 UT w' L ∧ Only [g] w w' :=
  ccap_is (viewP g 738 738 UT) hm (by rw [capP_plain, h])
end
end Go.Proofs.Ytlhcigpllkigdaa
