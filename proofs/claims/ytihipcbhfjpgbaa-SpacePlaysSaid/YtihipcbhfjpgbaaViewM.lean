/- Lists of words, as mathematics (layer 5): a word of a list, a range, where lists are unlike; a list of words as it lies. No dump is read here. -/
import Derived.Test.YtihipcbhfjpgbaaMem
namespace Go.Proofs.Ytihipcbhfjpgbaa
open Go.RowKit
/-- is there a word i among n -/
def hasB (n : Nat) (i : Int) : Bool := decide (0 ≤ i ∧ i < n)
theorem hasB_yes {n : Nat} {i : Int} : hasB n i = true ↔ 0 ≤ i ∧ i < n := by simp [hasB]
theorem hasB_no {n : Nat} {i : Int} : hasB n i = false ↔ i < 0 ∨ (n : Int) ≤ i := by simp [hasB]; omega
/-- a word of a list, 0 outside it -/
def atL (L : List Int) (i : Int) : Int := if hasB L.length i = true then L.getD i.toNat 0 else 0
/-- a list with a word put, if it is there -/
def setL (L : List Int) (i v : Int) : List Int := if hasB L.length i = true then L.set i.toNat v else L
theorem setL_length (L : List Int) (i v : Int) : (setL L i v).length = L.length := by unfold setL; split <;> simp
theorem atL_in {L : List Int} {k : Nat} {x : Int} (h : L[k]? = some x) : atL L k = x := by
  have hk := (List.getElem?_eq_some_iff.1 h).1
  have hb : hasB L.length k = true := hasB_yes.2 ⟨by omega, by omega⟩
  simp [atL, hb, h]
theorem atL_out {L : List Int} {i : Int} (h : i < 0 ∨ (L.length : Int) ≤ i) : atL L i = 0 := by
  simp [atL, hasB_no.2 h]
theorem atL_cases (L : List Int) (i : Int) : (∃ k x, i = ((k : Nat) : Int) ∧ L[k]? = some x ∧ atL L i = x ∧ hasB L.length i = true) ∨ ((i < 0 ∨ (L.length : Int) ≤ i) ∧ atL L i = 0 ∧ hasB L.length i = false) := by
  by_cases h : i < 0 ∨ (L.length : Int) ≤ i
  · exact .inr ⟨h, atL_out h, hasB_no.2 h⟩
  · obtain ⟨k, rfl⟩ : ∃ k : Nat, i = k := ⟨i.toNat, by omega⟩
    have hk : k < L.length := by omega
    exact .inl ⟨k, L[k], rfl, List.getElem?_eq_getElem hk, atL_in (List.getElem?_eq_getElem hk), hasB_yes.2 ⟨by omega, by omega⟩⟩
theorem setL_out {L : List Int} {i : Int} (v : Int) (h : hasB L.length i = false) : setL L i v = L := by simp [setL, h]
theorem setL_in {L : List Int} {k : Nat} (v : Int) (h : k < L.length) : setL L k v = L.set k v := by
  have hb : hasB L.length k = true := hasB_yes.2 ⟨by omega, by omega⟩
  simp [setL, hb]
theorem atL_setL (L : List Int) (i v j : Int) : atL (setL L i v) j = if hasB L.length i = true ∧ j = i then v else atL L j := by
  rcases atL_cases L i with ⟨k, x, rfl, hx, -, hb⟩ | ⟨-, -, hb⟩
  · have hk := (List.getElem?_eq_some_iff.1 hx).1
    rw [setL_in v hk]
    rcases atL_cases L j with ⟨m, y, rfl, hy, hj, hbj⟩ | ⟨hj, hj', hbj⟩
    · have hm := (List.getElem?_eq_some_iff.1 hy).1
      rw [hj]
      by_cases e : m = k
      · subst e
        rw [if_pos ⟨hb, rfl⟩]
        exact atL_in (by simp [hm])
      · rw [if_neg (by rintro ⟨_, h⟩; omega)]
        exact atL_in (by rw [List.getElem?_set_ne (by omega)]; exact hy)
    · rw [hj', if_neg (by rintro ⟨_, h⟩; subst h; omega)]
      exact atL_out (by simpa using hj)
  · rw [setL_out v hb, if_neg (by rw [hb]; simp)]
/-- a slice of words, nil let in: each of them -/
def Wds (w : World) (A : Option Addr) (L : List Int) : Prop :=
  ∀ (k : Nat) (x : Int), L[k]? = some x → ∃ b off, A = some ⟨b, off, none⟩ ∧ b < w.heap.size ∧ w.cell? ⟨b, off + k, none⟩ = some (.int .u64 x)
/-- the block in which the words lie, if there are any -/
def blkS (A : Option Addr) (L : List Int) : List Nat := if L = [] then [] else A.toList.map Addr.block
theorem blkS_mem {A : Option Addr} {L : List Int} {b off : Nat} {k : Nat} {x : Int} (hA : A = some ⟨b, off, none⟩) (hx : L[k]? = some x) : b ∈ blkS A L := by
  have hL : L ≠ [] := by rintro rfl; simp at hx
  subst hA
  simp [blkS, hL]
section
variable {w w' : World} {A : Option Addr} {L : List Int}
theorem Wds.lt (h : Wds w A L) : ∀ k, k ∈ blkS A L → k < w.heap.size := fun k hk => by
  cases L with
  | nil => simp [blkS] at hk
  | cons x L =>
    obtain ⟨b, off, rfl, hb, -⟩ := h 0 x rfl
    simp [blkS] at hk
    omega
theorem Wds.same (h : Wds w A L) (hs : w.heap.size ≤ w'.heap.size) (hk : ∀ k, k ∈ blkS A L → w'.heap[k]? = w.heap[k]?) : Wds w' A L :=
  fun k x hx => by
    obtain ⟨b, off, hA, hb, hc⟩ := h k x hx
    exact ⟨b, off, hA, by omega, (World.cell?_of_block (w := w) (a := ⟨b, off + k, none⟩) (hk b (blkS_mem hA hx))).trans hc⟩
theorem Wds.only {S : List Nat} (h : Wds w A L) (ho : Only S w w') (hS : ∀ k, k ∈ blkS A L → k ∉ S) : Wds w' A L :=
  h.same ho.size fun k hk => ho.block k (h.lt k hk) (hS k hk)
theorem Wds.only0 (h : Wds w A L) (ho : Only [] w w') : Wds w' A L := h.only ho fun _ _ => by simp
theorem Wds.below {n : Nat} (h : Wds w A L) (hb : Below n w w') (hA : ∀ k, k ∈ blkS A L → k < n) : Wds w' A L :=
  h.same hb.size fun k hk => hb.block k (hA k hk)
end
theorem Wds.drewN {w : World} {A : Option Addr} {L : List Int} (h : Wds w A L) (n : Nat) : Wds (w.drewN n) A L := fun k x hx => h k x hx
theorem Wds.nil (w : World) (A : Option Addr) : Wds w A [] := fun k x hx => by simp at hx
/-- a row of words in a block of one's own: at its head the words, behind them whatever -/
def RowU (w : World) (g : Nat) (t : TypeId) (L : List Int) : Prop := ∃ cur, Blk w g t cur ∧ ∀ (k : Nat) (x : Int), L[k]? = some x → cur[k]? = some (.int .u64 x)
section
variable {w w' : World} {g : Nat} {t : TypeId} {L : List Int}
theorem RowU.lt (h : RowU w g t L) : g < w.heap.size := by obtain ⟨cur, hb, -⟩ := h; exact hb.lt
theorem RowU.wds (h : RowU w g t L) : Wds w (some ⟨g, 0, none⟩) L := fun k x hx => by
  obtain ⟨cur, hb, hc⟩ := h
  exact ⟨g, 0, rfl, hb.lt, by rw [Nat.zero_add, hb.cell]; exact hc k x hx⟩
theorem RowU.drewN (h : RowU w g t L) (n : Nat) : RowU (w.drewN n) g t L := h
theorem RowU.frozen (h : RowU w g t L) (i : Nat) : w.frozen? ⟨g, i, none⟩ = false := by obtain ⟨cur, hb, -⟩ := h; exact hb.frozen i
theorem RowU.only {S : List Nat} (h : RowU w g t L) (ho : Only S w w') (hg : g ∉ S) : RowU w' g t L := by
  obtain ⟨cur, hb, hc⟩ := h
  exact ⟨cur, ho.blk hb hg, hc⟩
theorem RowU.same (h : RowU w g t L) (hk : w'.heap[g]? = w.heap[g]?) : RowU w' g t L := by
  obtain ⟨cur, hb, hc⟩ := h
  exact ⟨cur, hk.trans hb, hc⟩
theorem RowU.set_ (h : RowU w g t L) {k : Nat} (hk : k < L.length) (v : Int) : RowU (w.setCell ⟨g, k, none⟩ (.int .u64 v)) g t (setL L k v) := by
  obtain ⟨cur, hb, hc⟩ := h
  refine ⟨_, hb.set_ k _, fun j x hx => ?_⟩
  rw [setL_in v hk] at hx
  have hkc : k < cur.size := (Array.getElem?_eq_some_iff.1 (hc k _ (List.getElem?_eq_getElem hk))).1
  rw [Array.getElem?_setIfInBounds]
  rw [List.getElem?_set] at hx
  split at hx
  · next e =>
    rw [if_pos e, if_pos hkc]
    cases hx
    rfl
  · next e => rw [if_neg e]; exact hc j x hx
end
/-- the world behind a word that is written -/
def wrW (w : World) (g n : Nat) (i v : Int) : World := if hasB n i = true then w.setCell ⟨g, i.toNat, none⟩ (.int .u64 v) else w
theorem RowU.wr {w : World} {g : Nat} {t : TypeId} {L : List Int} (h : RowU w g t L) (i v : Int) : RowU (wrW w g L.length i v) g t (setL L i v) := by
  rcases atL_cases L i with ⟨k, x, rfl, hx, -, hb⟩ | ⟨-, -, hb⟩
  · have hk := (List.getElem?_eq_some_iff.1 hx).1
    simp only [wrW, hb, if_pos, Int.toNat_natCast]
    exact h.set_ hk v
  · simp only [wrW, hb, setL_out v hb]
    exact h
theorem wrW_only (w : World) (g n : Nat) (i v : Int) : Only [g] w (wrW w g n i v) := by
  unfold wrW
  split
  · exact (Only.refl _ _).setCell (p := ⟨g, _, none⟩) (.inl (by simp)) _
  · exact Only.refl _ _
end Go.Proofs.Ytihipcbhfjpgbaa
