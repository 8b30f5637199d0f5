/- A region that draws its order: once what writes has come up, the rest is walked once, in the order of the text, in whatever world differs by new blocks alone. No dump is read here. -/
import Derived.Test.YtgkjkmdenmighaaMem
import Derived.Deep.RegionHeld3
import Derived.BigQuiet
namespace Go.Proofs.Ytgkjkmdenmighaa
open Go.RowKit
/-- a world in which nothing old has turned -/
structure Since (w : World) where
  val : World
  only : Only [] w val
instance since_nonempty (w : World) : Nonempty (Since w) := ⟨⟨w, Only.refl _ _⟩⟩
section
variable {P : Program} {ops : Array Oper} {md : Region.Mode} {S : World → Prop} {C : World → Prop}
theorem anyH_of_quiet {Q : Act → Prop} {Q' : Exit → Act → World → Prop} (hQ : ∀ a w, C w → Q a → Q' .normal a w) (hS : ∀ w, C w → S w) : ∀ (fuel : Nat) (listed : Array Bool) (a : Act) (w : World), C w →
    wpAnyQ P md ops C Q fuel listed a → wpAnyH P md ops Q' S fuel listed a w
  | 0, _, _, _, hw, h => ⟨h.1, hQ _ _ hw h.2⟩
  | fuel + 1, _, _, _, hw, h => ⟨fun h0 => hQ _ _ hw (h.1 h0), fun i hi => wpOp_of_qOp hw (fun a' w' hw' hk => ⟨hS _ hw', anyH_of_quiet hQ hS fuel _ a' w' hw' hk⟩) (h.2 i hi)⟩
end
/-- the rest of a region, from number k on -/
theorem rest_quiet {P : Program} {l : List Oper} {S : World → Prop} {Q' : Exit → Act → World → Prop} {listed : Array Bool} {a : Act} {w : World} {fuel : Nat} (k : Nat)
    (hn : Region.noSelect l.toArray = true) (hf : (l.drop k).length = fuel) (hB : Region.lexFrom .any l.toArray fuel k listed = true) (hS : ∀ o : Since w, S o.val)
    (h : wpQuiet P l.toArray (fun W => ∃ o : Since w, W = o.val) (fun a' => ∀ o : Since w, Q' .normal a' o.val) (l.drop k) a) : wpAnyH P .any l.toArray Q' S fuel listed a w := by
  subst hf
  refine anyH_of_quiet (C := fun W => ∃ o : Since w, W = o.val) (Q := fun a' => ∀ o : Since w, Q' .normal a' o.val) ?_ ?_ _ _ _ _ ⟨⟨w, Only.refl _ _⟩, rfl⟩ ?_
  · rintro a' W ⟨o, rfl⟩ hq
    exact hq o
  · rintro W ⟨o, rfl⟩
    exact hS o
  · exact wpAnyQ_lex hn (l.drop k) k listed a (fun j => by simp) hB h
/-- .. behind twelve operations -/
theorem rest_quiet12 {P : Program} {o0 o1 o2 o3 o4 o5 o6 o7 o8 o9 o10 o11 : Oper} {l : List Oper} {S : World → Prop} {Q' : Exit → Act → World → Prop} {listed : Array Bool} {a : Act} {w : World} {fuel : Nat}
    (hn : Region.noSelect (o0 :: o1 :: o2 :: o3 :: o4 :: o5 :: o6 :: o7 :: o8 :: o9 :: o10 :: o11 :: l).toArray = true) (hf : l.length = fuel) (hB : Region.lexFrom .any (o0 :: o1 :: o2 :: o3 :: o4 :: o5 :: o6 :: o7 :: o8 :: o9 :: o10 :: o11 :: l).toArray fuel 12 listed = true) (hS : ∀ o : Since w, S o.val)
    (h : wpQuiet P (o0 :: o1 :: o2 :: o3 :: o4 :: o5 :: o6 :: o7 :: o8 :: o9 :: o10 :: o11 :: l).toArray (fun W => ∃ o : Since w, W = o.val) (fun a' => ∀ o : Since w, Q' .normal a' o.val) l a) : wpAnyH P .any (o0 :: o1 :: o2 :: o3 :: o4 :: o5 :: o6 :: o7 :: o8 :: o9 :: o10 :: o11 :: l).toArray Q' S fuel listed a w :=
  rest_quiet 12 hn hf hB hS h
/-- the way on is shown in full here; what is left to the tactic is idle: there all may be had -/
theorem fork {X : Prop} {K : Act → World → Prop} {a : Act} {w : World} (_hX : Hid False → X) (_idle : Hid False → X → K a w) (h : K a w) : K a w := h
end Go.Proofs.Ytgkjkmdenmighaa
