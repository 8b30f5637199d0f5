/- Leaf of the document's state (layer 10). -/
import Derived.Test.YtopbbpjjiamdcaaRefLink
namespace Go.Proofs.Ytopbbpjjiamdcaa
open Go.RowKit
/-- each time the first kid, so often at most -/
def leafR (K : Int → List Int) : Nat → Int → Int
  | 0, i => i
  | n + 1, i => match K i with
    | [] => i
    | x :: _ => leafR K n x
def leafS (S : RSt) (i : Int) : Int := if slotOk i = true then leafR S.kids 96 i else -1
theorem leafR_nil {K : Int → List Int} {n : Nat} {i : Int} (h : K i = []) : leafR K n i = i := by
  cases n with
  | zero => rfl
  | succ n => simp [leafR, h]
theorem leafR_cons {K : Int → List Int} {n : Nat} {i x : Int} {l : List Int} (h : K i = x :: l) : leafR K (n + 1) i = leafR K n x := by simp [leafR, h]
/-- kids are slots -/
def RSt.KidsIn (S : RSt) : Prop := ∀ i : Int, InS i → ∀ x, x ∈ S.kids i → InS x
section
variable {w : World} {p gs go : Nat} {S : RSt}
set_option maxRecDepth 100000 in
set_option maxHeartbeats 2000000 in
theorem rleaf_any (h : RefM w p gs go S) (hK : S.KidsIn) (a : Int) :
    Calls Try.prog 19 #[.pointer (some ⟨p, 0, none⟩), .int .i64 a] w fun e w' => e = .returned (.int .i64 (leafS S a)) ∧ w' = w := by
  cases h1 : slotOk a with
  | false =>
    have hN : leafS S a = -1 := by rw [leafS, if_neg (by simp [h1])]
    rw [hN]
    have sA := Lib.hid (rslot_is h1)
    clear hN h1
    go_enter Try.func19, Try.ntmps19
    go_wp2_with ((with_reducible refine (sA.out _).mono ?_); rintro e w1 ⟨rfl, rfl⟩)
    go_ret
    exact ⟨rfl, rfl⟩
  | true =>
    have ia := slotOk_yes.1 h1
    have hN : leafS S a = leafR S.kids 96 a := by rw [leafS, if_pos h1]
    have sA := Lib.hid (rslot_is h1)
    obtain ⟨r, hr⟩ : ∃ r, Hid (leafR S.kids 96 a = r) := ⟨_, Lib.hid rfl⟩
    rw [hN, hr.out]
    clear hN h1
    obtain ⟨k, rfl⟩ : ∃ k : Nat, a = k := ⟨a.toNat, by omega⟩
    have hk : k < 96 := by omega
    go_enter Try.func19, Try.ntmps19
    go_wp2_with ((with_reducible refine (sA.out _).mono ?_); rintro e w1 ⟨rfl, rfl⟩)
    go_loopw [1, 6] (fun i n wr => ∃ c m : Nat, m ≤ 96 ∧ c < 96 ∧ i = .int .i64 c ∧ n = .int .i64 m ∧ wr = w1 ∧ leafR S.kids (96 - m) c = r) (fun _ n _ => 96 - (intOf n).toNat)
    case atStart => exact ⟨k, 0, by omega, hk, rfl, rfl, rfl, hr.out⟩
    case round =>
      obtain ⟨c, m, hm, hc, rfl, rfl, hw, hl⟩ := hrel
      replace hw := hw.symm
      subst hw
      obtain ⟨cs, c0⟩ := h.cSlots
      obtain ⟨A, cp, cK, hR⟩ := h.cKids hc
      have hcI : (c : Int) < 96 := by omega
      by_cases hlt : m < 96
      · obtain ⟨L, hL⟩ : ∃ L, S.kids c = L := ⟨_, rfl⟩
        rw [hL] at cK hR
        have HL := Lib.hid hL
        have Hl := Lib.hid hl
        clear hL hl
        cases L with
        | nil =>
          go_wp2_with fail
          go_ret
          refine ⟨?_, rfl⟩
          rw [← Hl.out, leafR_nil HL.out]
          rfl
        | cons x L =>
          obtain ⟨g, rfl, hg, cx⟩ := rowN_cell hR (k := 0) (x := x) rfl
          have hx := hK c ⟨by omega, by omega⟩ x (by rw [HL.out]; simp)
          obtain ⟨y, rfl⟩ : ∃ y : Nat, x = y := ⟨x.toNat, by have := hx.1; omega⟩
          have hy : y < 96 := by have := hx.2; omega
          have hlen : (0 : Int) < (((y : Int) :: L).length : Int) := by simp
          have hlen2 : 0 < ((y : Int) :: L).length := by simp
          obtain ⟨n, hn⟩ : ∃ n, ((y : Int) :: L).length = n := ⟨_, rfl⟩
          rw [hn] at cK hlen hlen2
          clear hx hn hR
          go_wp2_with fail
          go_roundw
          case rel =>
            refine ⟨y, m + 1, by omega, hy, rfl, by go_num, by trivial, ?_⟩
            rw [← Hl.out, show 96 - m = (96 - (m + 1)) + 1 by omega, leafR_cons HL.out]
          case measure => simp [intOf]; omega
      · obtain rfl : m = 96 := by omega
        have Hl := Lib.hid hl
        clear hl hlt
        go_wp2_with fail
        go_ret
        refine ⟨?_, rfl⟩
        rw [← Hl.out]
        rfl
end
end Go.Proofs.Ytopbbpjjiamdcaa
