/- Words and the document's state, one and the same tree (layer 10), and what each call comes to on both: as mathematics. -/
import Derived.Test.YtihipcbhfjpgbaaCdtWords
import Derived.Test.YtihipcbhfjpgbaaJ3
namespace Go.Proofs.Ytihipcbhfjpgbaa
open Go.RowKit
theorem slotOk_is {i : Int} : slotOk i = slotB i 0 := by
  cases h : slotOk i with
  | true => have := slotOk_yes.1 h; exact (slotB_yes.2 ⟨this.1, this.2, by omega, by omega⟩).symm
  | false => have := slotOk_no.1 h; exact (slotB_no.2 (.inl this)).symm
theorem slotOk_in {i : Int} : slotOk i = true ↔ InS i := slotOk_yes
theorem slotB_in {i : Int} : slotB i 0 = true ↔ InS i := by rw [← slotOk_is]; exact slotOk_yes
section
variable {L : List Int} {S : RSt} {i k p a b x : Int}
theorem parsTo_at : ∀ (l : List Int) (P : Int → Int), parsTo P l b x = if x ∈ l then b else P x := by
  intro l
  induction l with
  | nil => intro P; simp [parsTo]
  | cons y l ih =>
    intro P
    rw [show parsTo P (y :: l) b = parsTo (setF P y b) l b from rfl, ih]
    by_cases h : x ∈ l
    · rw [if_pos h, if_pos (by simp [h])]
    · rw [if_neg h]
      by_cases e : x = y
      · subst e; rw [setF_self, if_pos (by simp)]
      · rw [setF_ne e, if_neg (by simp [h, e])]
end
end Go.Proofs.Ytihipcbhfjpgbaa
