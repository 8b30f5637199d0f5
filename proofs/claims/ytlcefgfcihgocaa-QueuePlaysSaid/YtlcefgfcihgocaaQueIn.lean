/- Four lists of numbers as they lie, a slice of slices of one's own; whether a number is in one of them (layer 14). -/
import Derived.Test.YtlcefgfcihgocaaMade
import Derived.Test.YtlcefgfcihgocaaQueM
import Derived.Test.YtlcefgfcihgocaaRefRow
import Derived.Test.YtlcefgfcihgocaaLayA
import Derived.Test.YtlcefgfcihgocaaVok
import Derived.Test.YtlcefgfcihgocaaLayM
namespace Go.Proofs.Ytlcefgfcihgocaa
open Go.RowKit
abbrev IsT : TypeId := 35
/-- four lists, in block h -/
def QRows (w : World) (h : Nat) (q : Int → List Int) : Prop := ∃ cur : Array Value, Blk w h IsT cur ∧ ∀ k : Nat, k < 4 → ∃ A cp, cur[k]? = some (.slice A (q k).length cp) ∧ RowN w A ItT irow' 1 (q k) ∧ (q k).length ≤ cp ∧ cp ≤ maxLen
section
variable {w w' : World} {h g : Nat} {q : Int → List Int} {F : List Nat}
theorem QRows.lt (r : QRows w h q) : h < w.heap.size := by obtain ⟨cur, hb, -⟩ := r; exact hb.lt
theorem QRows.only (r : QRows w h q) (ho : Only F w w') (hh : h ∉ F) (hF : ∀ y cur, Blk w y ItT cur → y ∉ F) : QRows w' h q := by
  obtain ⟨cur, hb, hr⟩ := r
  refine ⟨cur, ho.blk hb hh, fun k hk => ?_⟩
  obtain ⟨A, cp, e, hR, hc⟩ := hr k hk
  exact ⟨A, cp, e, hR.only ho hF, hc⟩
theorem QRows.only0 (r : QRows w h q) (ho : Only [] w w') : QRows w' h q := r.only ho (by simp) (fun _ _ _ => by simp)
theorem QRows.cell (r : QRows w h q) {k : Nat} (hk : k < 4) : ∃ A cp, w.cell? ⟨h, k, none⟩ = some (.slice A (q k).length cp) ∧ RowN w A ItT irow' 1 (q k) := by
  obtain ⟨cur, hb, hr⟩ := r
  obtain ⟨A, cp, e, hR, -⟩ := hr k hk
  exact ⟨A, cp, by rw [hb.cell]; exact e, hR⟩
theorem QRows.cellC (r : QRows w h q) {k : Nat} (hk : k < 4) : ∃ A cp, w.cell? ⟨h, k, none⟩ = some (.slice A (q k).length cp) ∧ RowN w A ItT irow' 1 (q k) ∧ (q k).length ≤ cp ∧ cp ≤ maxLen := by
  obtain ⟨cur, hb, hr⟩ := r
  obtain ⟨A, cp, e, hR⟩ := hr k hk
  exact ⟨A, cp, by rw [hb.cell]; exact e, hR⟩
theorem QRows.frozen (r : QRows w h q) (k : Nat) : w.frozen? ⟨h, k, none⟩ = false := by obtain ⟨cur, hb, -⟩ := r; exact hb.frozen k
/-- words of one's own are no part of it -/
theorem QRows.read {L : List Int} (r : QRows w h q) (hm : MemP g 738 UT w L) (ho : Only [g] w w') : QRows w' h q := by
  obtain ⟨c0, hg⟩ := hm.blkG
  refine r.only ho (fun e => ?_) (fun y cur hy e => ?_)
  · obtain ⟨cur, hb, -⟩ := r
    simp at e
    subst e
    exact absurd (hb.uniq hg).1 (by decide)
  · simp at e
    subst e
    exact absurd (hy.uniq hg).1 (by decide)
/-- a list is put -/
theorem QRows.put (r : QRows w h q) {o : Nat} (ho : o < 4) {l : List Int} {A : Option Addr} {cp : Nat} (hA : RowN w A ItT irow' 1 l) (hcp : l.length ≤ cp ∧ cp ≤ maxLen) : QRows (w.setCell ⟨h, o, none⟩ (.slice A l.length cp)) h (putQ q o l) := by
  obtain ⟨cur, hb, hr⟩ := r
  have hn : ∀ y cu, Blk w y ItT cu → y ≠ h := fun y cu hy e => by subst e; exact absurd (hy.uniq hb).1 (by decide)
  have hO : Only [h] w (w.setCell ⟨h, o, none⟩ (.slice A l.length cp)) := (Only.refl _ _).setCell (.inl (by simp)) _
  refine ⟨_, hb.set_ o _, fun k hk => ?_⟩
  unfold putQ
  by_cases e : k = o
  · subst e
    obtain ⟨A1, cp1, e1, -⟩ := hr k hk
    rw [if_pos rfl]
    refine ⟨A, cp, ?_, ?_, hcp⟩
    · rw [Array.getElem?_setIfInBounds_self_of_lt (Array.getElem?_eq_some_iff.1 e1).1]
    · exact hA.only hO (fun y cu hy => by simpa using hn y cu hy)
  · obtain ⟨A1, cp1, e1, hR, hc1⟩ := hr k hk
    rw [if_neg (by omega)]
    refine ⟨A1, cp1, ?_, ?_, hc1⟩
    · rw [Array.getElem?_setIfInBounds_ne (fun e' => e e'.symm)]
      exact e1
    · exact hR.only hO (fun y cu hy => by simpa using hn y cu hy)
end
/-- is it in one of four lists -/
def inB (q : Int → List Int) (n : Int) : Bool := decide (n ∈ q 0 ∨ n ∈ q 1 ∨ n ∈ q 2 ∨ n ∈ q 3)
theorem inB_yes {q : Int → List Int} {n : Int} {k : Nat} (hk : k < 4) (h : n ∈ q k) : inB q n = true := by
  unfold inB
  have : k = 0 ∨ k = 1 ∨ k = 2 ∨ k = 3 := by omega
  rcases this with rfl | rfl | rfl | rfl
  · exact decide_eq_true (.inl h)
  · exact decide_eq_true (.inr (.inl h))
  · exact decide_eq_true (.inr (.inr (.inl h)))
  · exact decide_eq_true (.inr (.inr (.inr h)))
theorem inB_no {q : Int → List Int} {n : Int} (h : ∀ k : Nat, k < 4 → n ∉ q k) : inB q n = false := by
  unfold inB
  refine decide_eq_false fun e => ?_
  rcases e with e | e | e | e
  · exact h 0 (by omega) e
  · exact h 1 (by omega) e
  · exact h 2 (by omega) e
  · exact h 3 (by omega) e
theorem inB_not {q : Int → List Int} {n : Int} (h : inB q n = false) {k : Nat} (hk : k < 4) : n ∉ q k := fun e => by rw [inB_yes hk e] at h; cases h
set_option maxRecDepth 100000 in
set_option maxHeartbeats 1000000 in
theorem in_any {w : World} {h : Nat} {q : Int → List Int} (r : QRows w h q) (n : Int) (hs : ∀ k : Nat, k < 4 → (q k).length ≤ 1000) :
    Calls Try.prog 7 #[.slice (some ⟨h, 0, none⟩) 4 4, .int .i64 n] w fun e w' => e = .returned (.bool (inB q n)) ∧ w = w' := by
  have R := Lib.hid (And.intro r hs)
  clear r hs
  obtain ⟨b, hb⟩ : ∃ b, Hid (inB q n = b) := ⟨_, Lib.hid rfl⟩
  rw [hb.out]
  go_enter Try.func7, Try.ntmps7
  go_wp2_with fail
  go_loopw [5] (fun i wr => ∃ k : Nat, k ≤ 4 ∧ i = .int .i64 k ∧ (∀ j : Nat, j < k → n ∉ q j) ∧ w = wr) (fun i _ => 4 - (intOf i).toNat)
  case atStart => exact ⟨0, by omega, rfl, fun j hj => by omega, rfl⟩
  case round =>
    obtain ⟨k, hk, rfl, hn, hw⟩ := hrel
    subst hw
    by_cases hlt : k < 4
    · have hlt' : (k : Int) < 4 := by omega
      have hk0 : (0 : Int) ≤ (k : Int) := by omega
      obtain ⟨A, cp, c0, hR⟩ := R.out.1.cell hlt
      have HR := Lib.hid hR
      have HN := Lib.hid hn
      have hl := R.out.2 k hlt
      clear hR hn
      go_wp2_with fail
      go_loopw [6] (fun i wr => ∃ m : Nat, m ≤ (q k).length ∧ i = .int .i64 m ∧ (∀ j : Nat, j < m → (q k)[j]? ≠ some n) ∧ w = wr) (fun i _ => (q k).length - (intOf i).toNat)
      case atStart => exact ⟨0, by omega, rfl, fun j hj => by omega, rfl⟩
      case round =>
        obtain ⟨m, hm, rfl, hq, hw⟩ := hrel
        subst hw
        by_cases hmt : m < (q k).length
        · obtain ⟨x, hx⟩ : ∃ x, (q k)[m]? = some x := ⟨_, List.getElem?_eq_getElem hmt⟩
          obtain ⟨B, rfl, hB, c1⟩ := rowN_cell HR.out hx
          have HQ := Lib.hid (And.intro hx hq)
          have hmt' : (m : Int) < ((q k).length : Int) := by omega
          have hm0 : (0 : Int) ≤ (m : Int) := by omega
          clear hx hq
          by_cases e : x = n
          · have e1 : (x == n) = true := by simp [e]
            have HB : Hid (b = true) := Lib.hid (by rw [← hb.out]; exact inB_yes hlt (by rw [← e]; exact List.mem_of_getElem? HQ.out.1))
            clear e
            go_wp2_with fail
            go_ret
            exact ⟨by rw [HB.out]; rfl, rfl⟩
          · have e1 : (x == n) = false := by simp [e]
            have HE := Lib.hid e
            clear e
            go_wp2_with fail
            go_roundw
            case rel =>
              refine ⟨m + 1, by omega, by go_num, fun j hj => ?_, by trivial⟩
              by_cases ej : j = m
              · subst ej
                rw [HQ.out.1]
                exact fun e' => HE.out (Option.some.inj e')
              · exact HQ.out.2 j (by omega)
            case measure => simp [intOf]; omega
        · obtain rfl : m = (q k).length := by omega
          have HQ := Lib.hid hq
          clear hq hmt
          go_wp2_with fail
          go_roundw
          case rel =>
            refine ⟨k + 1, by omega, by go_num, fun j hj => ?_, by trivial⟩
            by_cases ej : j = k
            · subst ej
              intro hmem
              obtain ⟨i, hi, hx⟩ := List.getElem_of_mem hmem
              exact HQ.out i hi (by rw [List.getElem?_eq_getElem hi, hx])
            · exact HN.out j (by omega)
          case measure => simp [intOf]; omega
    · obtain rfl : k = 4 := by omega
      have HB : Hid (b = false) := Lib.hid (by rw [← hb.out]; exact inB_no hn)
      clear hlt hn
      go_wp2_with fail
      go_ret
      exact ⟨by rw [HB.out]; rfl, rfl⟩
end Go.Proofs.Ytlcefgfcihgocaa
