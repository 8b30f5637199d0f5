/- TxLearns holds: for every list of words and every list of deeds the law answers true, and leaves its arguments as they were. No condition. -/
import Derived.Test.YtbjookkbbdphnaaTxLearns
import Derived.Test.YtbjookkbbdphnaaWords
import Derived.Test.YtbjookkbbdphnaaOps
namespace Go.Proofs.Ytbjookkbbdphnaa
open Go.ChangeShapes Go.WideShapes Go.ChangeAt Go.RowKit Go.Deep

set_option maxRecDepth 100000 in
theorem learns_lifted (os : Os) (started : os.Started) (H : Type) (enc : TypeId × Value → H) :
    ReturnsInHanded {} Try.checked os 3 .any (Rows.txLearnsSpec.pre6 enc Try.prog Try.f3 Rows.txLearnsRow.domain false) (Rows.txLearnsSpec.post enc Try.prog Try.f3 false true false false) := by
  refine returnsInHanded_of_change (C := Try.checked) own started (by kernel_rfl) Try.func3
    (ChangeSpec.witness6 (enc := enc) (C := Try.checked) false ⟨#[], #[.slice none 0 0, .slice none 0 0], []⟩ 8 (by kernel_rfl) (by kernel_rfl) (by kernel_rfl) (by kernel_rfl)) ?_
  intro W base args ds gs before hval0 hW hcnd _
  have hval : ∀ (j : Nat) t v, Try.f3.params[j]? = some t → args[j]? = some v → Value.okWide Try.prog W .any base t v := hval0
  have hW' := hW
  obtain ⟨p, q, hA0, hV, rfl, hfz, hnd⟩ := hW
  have hA : DataW.TrodAll enc Try.prog W 0 (fun _ => true) true Try.f3.params.toList args.toList ds p := hA0
  rw [Try.params3] at hA hval
  obtain ⟨v0, vs0, d0, ds0, p0, q0, hargs0, rfl, rfl, h0, r0⟩ := trodAll_cons hA
  obtain ⟨v1, vs1, d1, ds1, p1, q1, rfl, rfl, rfl, h1, r1⟩ := trodAll_cons r0
  obtain ⟨rfl, rfl, rfl⟩ := trodAll_nil r1
  obtain rfl : args = #[v0, v1] := by cases args; simp_all
  obtain ⟨A1, L1, c1, rfl, hL1, hl1⟩ := words_of (hval 0 _ v0 rfl rfl) h0
  obtain ⟨A2, L2, c2, rfl, hL2, hl2⟩ := ops_of (hval 1 _ v1 rfl rfl) h1
  refine (learns_any c1 c2 W hL1 hL2 hl1 hl2).mono fun e W' ⟨he, ho⟩ => ?_
  subst he
  exact ⟨_, rfl, law_post (f := Try.f3) (s := Rows.txLearnsSpec) rfl Try.underlying4 rfl rfl laidOut (by decide +kernel) hW' (ho.to_below (Nat.le_refl _) (by simp))⟩

theorem learns_holds : Rows.TxLearnsSaid :=
  OpenClaim.holds_of_wide 3 Try.f3 rfl rfl rfl rfl rfl rfl rfl ⟨rfl, rfl, rfl, rfl, rfl⟩ rfl rfl rfl rfl rfl (by kernel_rfl) Try.func3 (by kernel_rfl)
    (of_decide_eq_true (by kernel_rfl)) (by unfold Func.isWrapper; first | (rw [if_pos (by decide +kernel)]; kernel_rfl) | (rw [if_neg (by decide +kernel)]; exact ⟨rfl, rfl⟩))
    (fun os started H enc _ => learns_lifted os started H enc)
#print axioms learns_holds
end Go.Proofs.Ytbjookkbbdphnaa
