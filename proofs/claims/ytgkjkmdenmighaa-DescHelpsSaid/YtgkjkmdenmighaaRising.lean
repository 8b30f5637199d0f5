/- Whether entries rise by cells, each of a store (layer 7's law). -/
import Derived.Test.YtgkjkmdenmighaaDescHelpsM
import Derived.Test.YtgkjkmdenmighaaDescA
import Derived.Deep.DeepCutAuto
namespace Go.Proofs.Ytgkjkmdenmighaa
open Go.RowKit
/-- do the first k rise? -/
def Adj (N : Nat) (L : List En) (k : Nat) : Prop := ∀ (j : Nat) (e : En), j < k → L[j]? = some e → (0 ≤ e.cell ∧ e.cell < N) ∧ ∀ e', 0 < j → L[j - 1]? = some e' → e'.cell < e.cell
theorem adj_rising {N : Nat} {L : List En} {k : Nat} (h : Adj N L k) : Rising N (L.take k) := Rising.of_adj fun j e he => by
  have hj := (List.getElem?_eq_some_iff.1 he).1
  rw [List.length_take] at hj
  rw [List.getElem?_take_of_lt (by omega)] at he
  refine ⟨(h j e (by omega) he).1, fun e' h0 he' => (h j e (by omega) he).2 e' h0 ?_⟩
  rw [List.getElem?_take_of_lt (by omega)] at he'
  exact he'
theorem adj_le {N : Nat} {L : List En} {k : Nat} (h : Adj N L k) (hk : k ≤ L.length) : k ≤ N := by
  have := (adj_rising h).length
  rw [List.length_take] at this
  omega
theorem adj_all {N : Nat} {L : List En} (h : Adj N L L.length) : Rising N L := by
  have := adj_rising h
  rwa [List.take_of_length_le (Nat.le_refl _)] at this
theorem adj_more {N : Nat} {L : List En} {k : Nat} (h : Adj N L k) {e : En} (he : L[k]? = some e) (h1 : 0 ≤ e.cell ∧ e.cell < N) (h2 : ∀ e', 0 < k → L[k - 1]? = some e' → e'.cell < e.cell) : Adj N L (k + 1) := fun j x hj hx => by
  by_cases hjk : j = k
  · subst hjk
    rw [he] at hx
    cases hx
    exact ⟨h1, h2⟩
  · exact h j x (by omega) hx
/-- what is told of entries: whether they rise, but for what is let go -/
def RisPost (N : Nat) (L : List En) (e : Ending) : Prop := ∃ b, e = .returned (.bool b) ∧ (b = true → Rising N L)
theorem risPost {N : Nat} {L : List En} (b : Bool) (h : b = true → Rising N L) : RisPost N L (.returned (.bool b)) := ⟨b, rfl, h⟩
section
variable {w : World} {A : Option Addr} {L : List En}
set_option maxRecDepth 100000 in
set_option maxHeartbeats 2000000 in
theorem rising_any (cp : Nat) {cells : Int} (hcl : 0 ≤ cells ∧ cells ≤ 30) (h : RowsAt w A En.row 5 L) :
    Calls Try.prog 16 #[.slice A L.length cp, .int .i64 cells] w fun e w' => RisPost cells.toNat L e ∧ Only [] w w' := by
  have HA := Lib.hid h
  clear h
  go_enter Try.func16, Try.ntmps16
  go_wp2_with fail
  go_loopw [5] (fun i wr => ∃ k : Nat, k ≤ L.length ∧ i = .int .i64 k ∧ Adj cells.toNat L k ∧ ∃ n, wr = w.drewN n) (fun i _ => L.length - (intOf i).toNat)
  case atStart => exact ⟨0, by omega, rfl, fun j e hj => absurd hj (by omega), 0, rfl⟩
  case round =>
    obtain ⟨k, hk, rfl, hadj, nd, hwr⟩ := hrel
    have hk30 := adj_le hadj hk
    have HJ := Lib.hid hadj
    clear hadj
    have ho : Only [] w wr := by rw [hwr]; exact (Only.refl _ _).drewN _
    by_cases hlt : k < L.length
    · obtain ⟨e, he⟩ : ∃ e, L[k]? = some e := ⟨_, List.getElem?_eq_getElem hlt⟩
      obtain ⟨b, off, rfl, hb, hc⟩ := HA.out k e he
      have e0 : wr.cell? ⟨b, off + k * 5, none⟩ = some (.int .i64 e.cell) := (ho.cell (p := ⟨b, _, none⟩) hb (by simp)).trans (hc 0 _ rfl)
      have HE := Lib.hid he
      have HW := Lib.hid hwr
      clear hc he hwr
      go_wp2_with fail
      by_cases n1 : e.cell < 0
      · have k1 : decide (e.cell < 0) = true := by simpa using n1
        go_big_quiet (fail)
        go_wp2_with fail
        go_ret
        exact ⟨risPost false (by simp), ho.drewN _⟩
      · have k1 : decide (e.cell < 0) = false := by simpa using n1
        by_cases n2 : cells ≤ e.cell
        · have k2 : decide (cells ≤ e.cell) = true := by simpa using n2
          go_big_quiet (fail)
          go_wp2_with fail
          go_ret
          exact ⟨risPost false (by simp), ho.drewN _⟩
        · have k2 : decide (cells ≤ e.cell) = false := by simpa using n2
          by_cases h0 : 0 < k
          · obtain ⟨p, hp⟩ : ∃ p, L[k - 1]? = some p := ⟨_, List.getElem?_eq_getElem (by omega)⟩
            obtain ⟨b', off', hA, hb', hc'⟩ := HA.out (k - 1) p hp
            injection hA with hA
            injection hA with hA1 hA2
            subst hA1 hA2
            have p0 : wr.cell? ⟨b, off + (k - 1) * 5, none⟩ = some (.int .i64 p.cell) := (ho.cell (p := ⟨b, _, none⟩) hb (by simp)).trans (hc' 0 _ rfl)
            have q1 : (0 : Int) ≤ (k : Int) - 1 := by omega
            have q2 : (k : Int) - 1 < (L.length : Int) := by omega
            have q5 : (1 : Int) ≤ (k : Int) := by omega
            have q6 : 1 ≤ k := by omega
            have q3 : ((k : Int) - 1).toNat = k - 1 := by omega
            have q4 : IntKind.i64.wrap ((k : Int) - 1) = (k : Int) - 1 := IntWalk.i64_in _ (by omega)
            have q7 : decide ((0 : Int) < (k : Int)) = true := by simp; omega
            have q8 : decide (0 < k) = true := by simp; omega
            have HP := Lib.hid hp
            clear hc' hp hb'
            by_cases n3 : e.cell ≤ p.cell
            · have k3 : decide (e.cell ≤ p.cell) = true := by simpa using n3
              go_big_quiet (fail)
              go_wp2_with fail
              go_ret
              exact ⟨risPost false (by simp), ho.drewN _⟩
            · have k3 : decide (e.cell ≤ p.cell) = false := by simpa using n3
              go_big_quiet (fail)
              go_wp2_with fail
              refine ⟨⟨k + 1, by omega, by go_num, adj_more HJ.out HE.out (by omega) (fun e' _ he' => ?_), nd + nq, by rw [HW.out, World.drewN_drewN]⟩, by simp [intOf]; omega⟩
              rw [HP.out] at he'
              cases he'
              omega
          · have q7 : decide ((0 : Int) < (k : Int)) = false := by simp; omega
            have q8 : decide (0 < k) = false := by simp; omega
            go_big_quiet (fail)
            go_wp2_with fail
            exact ⟨⟨k + 1, by omega, by go_num, adj_more HJ.out HE.out (by omega) (fun e' h _ => absurd h h0), nd + nq, by rw [HW.out, World.drewN_drewN]⟩, by simp [intOf]; omega⟩
    · obtain rfl : k = L.length := by omega
      have hr := adj_all HJ.out
      clear hwr
      go_wp2_with fail
      go_ret
      exact ⟨risPost true (fun _ => hr), ho⟩
end
end Go.Proofs.Ytgkjkmdenmighaa
