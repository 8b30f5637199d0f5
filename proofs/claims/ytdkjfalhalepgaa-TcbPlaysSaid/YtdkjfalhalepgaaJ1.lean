/- Memory words: a block known whole, a frame that says which old blocks may have turned, rows of equal parts. No dump is read here. -/
import Derived.Below
import Derived.Laws.OwnMore
import Derived.Deep.Draws
import Derived.Laws.Rows
import Derived.Laws.MakeOwn
import Derived.OwnWalk
import Derived.Laws.Bits64
import Derived.IntWalk
import Derived.Laws.Bits64b
namespace Go.Proofs.Ytdkjfalhalepgaa
open Go.RowKit
/-- block g is just the cells cs, of element type t, none frozen -/
def Blk (w : World) (g : Nat) (t : TypeId) (cs : Array Value) : Prop := w.heap[g]? = some (.cells cs t (0, 0))
section
variable {w w' : World} {g : Nat} {t : TypeId} {cs : Array Value}
theorem Blk.lt (h : Blk w g t cs) : g < w.heap.size := by
  rcases Nat.lt_or_ge g w.heap.size with hlt | hge
  · exact hlt
  · unfold Blk at h; rw [Array.getElem?_eq_none hge] at h; cases h
theorem Blk.cell (h : Blk w g t cs) (i : Nat) : w.cell? ⟨g, i, none⟩ = cs[i]? := cell_of_row w g i cs t (0, 0) h
theorem Blk.frozen (h : Blk w g t cs) (i : Nat) : w.frozen? ⟨g, i, none⟩ = false := by
  unfold Blk at h
  simp [World.frozen?, h]
theorem Blk.new (w : World) (t : TypeId) (cs : Array Value) : Blk (w.alloc (.cells cs t)) w.heap.size t cs := heap_alloc_new w _
theorem Blk.drew (h : Blk w g t cs) : Blk w.drew g t cs := h
theorem Blk.drewN (h : Blk w g t cs) (n : Nat) : Blk (w.drewN n) g t cs := h
theorem Blk.alloc (h : Blk w g t cs) (o : Obj) : Blk (w.alloc o) g t cs := (Below.heap_alloc w o g h.lt).trans h
theorem Blk.set_ (h : Blk w g t cs) (i : Nat) (u : Value) : Blk (w.setCell ⟨g, i, none⟩ u) g t (cs.setIfInBounds i u) := by
  unfold Blk at h ⊢
  simp [World.setCell, Array.getElem?_modify, h]
theorem Blk.far (h : Blk w g t cs) {p : Addr} (hp : g ≠ p.block) (u : Value) : Blk (w.setCell p u) g t cs := (Below.heap_setCell w p u g hp).trans h
theorem Blk.below {B : Nat} (h : Blk w g t cs) (hb : Below B w w') (hg : g < B) : Blk w' g t cs := (hb.block g hg).trans h
theorem Blk.ne_ {g' : Nat} {t' : TypeId} {cs' : Array Value} (h : Blk w g t cs) (h' : Blk w g' t' cs') (hne : t ≠ t') : g ≠ g' := by
  rintro rfl
  unfold Blk at h h'
  rw [h] at h'
  injection h' with h'
  injection h' with _ ht
  exact hne ht
theorem Blk.uniq {t' : TypeId} {cs' : Array Value} (h : Blk w g t cs) (h' : Blk w g t' cs') : t = t' ∧ cs = cs' := by
  unfold Blk at h h'
  rw [h] at h'
  injection h' with h'
  injection h' with h1 h2
  exact ⟨h2, h1⟩
end
/-- of the old blocks only those in S may have turned; streams as they were; no block has gone -/
structure Only (S : List Nat) (w w' : World) : Prop where
  os : w'.os = w.os
  tape : w'.tape = w.tape
  output : w'.output = w.output
  size : w.heap.size ≤ w'.heap.size
  block : ∀ k, k < w.heap.size → k ∉ S → w'.heap[k]? = w.heap[k]?
section
variable {S S' : List Nat} {a b c w w' : World}
theorem Only.refl (S : List Nat) (w : World) : Only S w w := ⟨rfl, rfl, rfl, Nat.le_refl _, fun _ _ _ => rfl⟩
theorem Only.trans (h : Only S a b) (k : Only S b c) : Only S a c :=
  ⟨k.os.trans h.os, k.tape.trans h.tape, k.output.trans h.output, Nat.le_trans h.size k.size, fun i hi hn => (k.block i (Nat.lt_of_lt_of_le hi h.size) hn).trans (h.block i hi hn)⟩
theorem Only.more (h : Only S a b) (hs : ∀ k, k < a.heap.size → k ∈ S → k ∈ S') : Only S' a b := ⟨h.os, h.tape, h.output, h.size, fun k hk hn => h.block k hk (fun hm => hn (hs k hk hm))⟩
/-- what was written in blocks that are new since a is of no account -/
theorem Only.then (h : Only S a b) (k : Only S' b c) (hs : ∀ x, x ∈ S' → x ∈ S ∨ a.heap.size ≤ x) : Only S a c :=
  ⟨k.os.trans h.os, k.tape.trans h.tape, k.output.trans h.output, Nat.le_trans h.size k.size, fun i hi hn => (k.block i (Nat.lt_of_lt_of_le hi h.size) (fun hm => by
    rcases hs i hm with h1 | h1
    · exact hn h1
    · omega)).trans (h.block i hi hn)⟩
theorem Only.drew (h : Only S a w) : Only S a w.drew := ⟨h.os, h.tape, h.output, h.size, h.block⟩
theorem Only.drewN (h : Only S a w) (n : Nat) : Only S a (w.drewN n) := ⟨h.os, h.tape, h.output, h.size, h.block⟩
theorem Only.alloc (h : Only S a w) (o : Obj) : Only S a (w.alloc o) :=
  ⟨h.os, h.tape, h.output, Nat.le_trans h.size (by simp), fun i hi hn => (Below.heap_alloc w o i (Nat.lt_of_lt_of_le hi h.size)).trans (h.block i hi hn)⟩
theorem Only.setCell (h : Only S a w) {p : Addr} (hp : p.block ∈ S ∨ a.heap.size ≤ p.block) (u : Value) : Only S a (w.setCell p u) :=
  ⟨h.os, h.tape, h.output, by simpa [World.setCell] using h.size, fun i hi hn => (Below.heap_setCell w p u i (by
    rintro rfl
    rcases hp with hp | hp
    · exact hn hp
    · omega)).trans (h.block i hi hn)⟩
theorem Only.to_below (h : Only S w w') {B : Nat} (hB : B ≤ w.heap.size) (hs : ∀ x, x ∈ S → B ≤ x) : Below B w w' :=
  ⟨h.os, h.tape, h.output, h.size, fun k hk => h.block k (by omega) (fun hm => by have := hs k hm; omega)⟩
theorem Only.blk {g : Nat} {t : TypeId} {cs : Array Value} (h : Only S w w') (hb : Blk w g t cs) (hg : g ∉ S) : Blk w' g t cs := (h.block g hb.lt hg).trans hb
theorem Only.cell (h : Only S w w') {p : Addr} (hp : p.block < w.heap.size) (hn : p.block ∉ S) : w'.cell? p = w.cell? p := World.cell?_of_block (w := w) (h.block p.block hp hn)
theorem Only.frozen (h : Only S w w') {p : Addr} (hp : p.block < w.heap.size) (hn : p.block ∉ S) : w'.frozen? p = w.frozen? p := World.frozen?_of_block (w := w) (h.block p.block hp hn)
end
/-- rows of equal parts -/
def flat {α : Type} (f : α → List Value) (L : List α) : Array Value := (L.flatMap f).toArray
section
variable {α : Type} {f : α → List Value} {n : Nat} {L : List α}
theorem flat_size (hf : ∀ a, (f a).length = n) : (flat f L).size = L.length * n := by
  unfold flat
  induction L with
  | nil => simp
  | cons a L ih =>
    simp only [List.size_toArray, List.flatMap_cons, List.length_append, List.length_cons, hf] at ih ⊢
    rw [ih, Nat.succ_mul, Nat.add_comm]
theorem flat_get (hf : ∀ a, (f a).length = n) (i j : Nat) (hj : j < n) : (flat f L)[i * n + j]? = (L[i]?).bind fun a => (f a)[j]? := by
  unfold flat
  induction L generalizing i with
  | nil => simp
  | cons a L ih =>
    simp only [List.getElem?_toArray, List.flatMap_cons] at ih ⊢
    cases i with
    | zero => rw [List.getElem?_append_left (by rw [hf]; omega)]; simp
    | succ i =>
      have e : (i + 1) * n + j = n + (i * n + j) := by rw [Nat.succ_mul]; omega
      rw [List.getElem?_append_right (by rw [hf]; omega), hf, e, Nat.add_sub_cancel_left, ih]
      simp
theorem flat_at (hf : ∀ a, (f a).length = n) {i j : Nat} {a : α} {v : Value} (h : L[i]? = some a) (hv : (f a)[j]? = some v) : (flat f L)[i * n + j]? = some v := by
  have hj : j < n := by rw [← hf a]; exact (List.getElem?_eq_some_iff.1 hv).1
  rw [flat_get hf i j hj, h]
  exact hv
theorem flat_out (hf : ∀ a, (f a).length = n) {k : Nat} (h : L.length * n ≤ k) : (flat f L)[k]? = none := by
  rw [Array.getElem?_eq_none]
  rw [flat_size hf]
  exact h
theorem madeCells_flat (hf : ∀ a, (f a).length = n) (h0 : 0 < n) (z : Array Value) (a : α) (hz : z.toList = f a) (c : Nat) : madeCells z (c * n) = flat f (List.replicate c a) := by
  have hzs : z.size = n := by rw [← Array.length_toList, hz, hf]
  apply Array.ext_getElem?
  intro k
  by_cases hk : k < c * n
  · have e : k = k / n * n + k % n := by rw [Nat.mul_comm]; exact (Nat.div_add_mod k n).symm
    have hm : k % n < n := Nat.mod_lt _ h0
    have hd : k / n < c := Nat.div_lt_of_lt_mul (by rwa [Nat.mul_comm])
    have hR : (flat f (List.replicate c a))[k]? = (f a)[k % n]? := by
      conv => lhs; rw [e]
      rw [flat_get hf _ _ hm, List.getElem?_replicate, if_pos hd]
      rfl
    rw [hR, ← hz]
    have hk' : k % n < z.size := by omega
    rw [Array.getElem?_toList]
    have e1 : (madeCells z (c * n))[k]? = some z[k % n]! := by simp [madeCells, hk, hzs]
    rw [e1, getElem!_pos z _ hk', Array.getElem?_eq_getElem hk']
  · rw [flat_out hf (by simpa using Nat.le_of_not_lt hk), Array.getElem?_eq_none]
    rw [size_madeCells]
    omega
end
/-- make([]T, n, c): the block as a row of zeros -/
theorem run_makeN {P : Program} {t e : TypeId} {z : Value} {size bytes : Nat} {α : Type} {f : α → List Value} (a : α) (hinfo : (P.info? e).map (fun i => (i.zero, i.size, i.bytes)) = some (some z, size, bytes))
    (ht : P.underlying t = some (.slice e)) (hf : ∀ a, (f a).length = size) (h0 : 0 < size) (hz : z.cells.toList = f a) (kl kc : IntKind) (l c : Int) (hl : 0 ≤ l) (hlc : l ≤ c) (hb : (bytes : Int) * c ≤ 281474976710656) (h63 : c ≤ 9223372036854775807) (w : World) :
    (Instr.makeSlice t (.int kl l) (.int kc c)).run P w = .ok (.slice (some ⟨w.heap.size, 0, none⟩) l.toNat c.toNat) (w.alloc (.cells (flat f (List.replicate c.toNat a)) e)) := by
  obtain ⟨i, hi, hz0, hz1, hz2⟩ := info_parts hinfo
  rw [run_make (P := P) w t e i z ht hi hz0 kl kc l c hl hlc (by rw [hz2]; exact hb) h63, hz1, madeCells_flat hf h0 z.cells a hz]
end Go.Proofs.Ytdkjfalhalepgaa
/- Lists of words, as mathematics (layer 5): a word of a list, a range, where lists are unlike; a list of words as it lies. No dump is read here. -/
namespace Go.Proofs.Ytdkjfalhalepgaa
open Go.RowKit
/-- is there a word i among n -/
def hasB (n : Nat) (i : Int) : Bool := decide (0 ≤ i ∧ i < n)
theorem hasB_yes {n : Nat} {i : Int} : hasB n i = true ↔ 0 ≤ i ∧ i < n := by simp [hasB]
theorem hasB_no {n : Nat} {i : Int} : hasB n i = false ↔ i < 0 ∨ (n : Int) ≤ i := by simp [hasB]; omega
/-- a word of a list, 0 outside it -/
def atL (L : List Int) (i : Int) : Int := if hasB L.length i = true then L.getD i.toNat 0 else 0
/-- a list with a word put, if it is there -/
def setL (L : List Int) (i v : Int) : List Int := if hasB L.length i = true then L.set i.toNat v else L
theorem setL_length (L : List Int) (i v : Int) : (setL L i v).length = L.length := by unfold setL; split <;> simp
theorem atL_in {L : List Int} {k : Nat} {x : Int} (h : L[k]? = some x) : atL L k = x := by
  have hk := (List.getElem?_eq_some_iff.1 h).1
  have hb : hasB L.length k = true := hasB_yes.2 ⟨by omega, by omega⟩
  simp [atL, hb, h]
theorem atL_out {L : List Int} {i : Int} (h : i < 0 ∨ (L.length : Int) ≤ i) : atL L i = 0 := by
  simp [atL, hasB_no.2 h]
theorem atL_cases (L : List Int) (i : Int) : (∃ k x, i = ((k : Nat) : Int) ∧ L[k]? = some x ∧ atL L i = x ∧ hasB L.length i = true) ∨ ((i < 0 ∨ (L.length : Int) ≤ i) ∧ atL L i = 0 ∧ hasB L.length i = false) := by
  by_cases h : i < 0 ∨ (L.length : Int) ≤ i
  · exact .inr ⟨h, atL_out h, hasB_no.2 h⟩
  · obtain ⟨k, rfl⟩ : ∃ k : Nat, i = k := ⟨i.toNat, by omega⟩
    have hk : k < L.length := by omega
    exact .inl ⟨k, L[k], rfl, List.getElem?_eq_getElem hk, atL_in (List.getElem?_eq_getElem hk), hasB_yes.2 ⟨by omega, by omega⟩⟩
theorem setL_out {L : List Int} {i : Int} (v : Int) (h : hasB L.length i = false) : setL L i v = L := by simp [setL, h]
theorem setL_in {L : List Int} {k : Nat} (v : Int) (h : k < L.length) : setL L k v = L.set k v := by
  have hb : hasB L.length k = true := hasB_yes.2 ⟨by omega, by omega⟩
  simp [setL, hb]
theorem atL_setL (L : List Int) (i v j : Int) : atL (setL L i v) j = if hasB L.length i = true ∧ j = i then v else atL L j := by
  rcases atL_cases L i with ⟨k, x, rfl, hx, -, hb⟩ | ⟨-, -, hb⟩
  · have hk := (List.getElem?_eq_some_iff.1 hx).1
    rw [setL_in v hk]
    rcases atL_cases L j with ⟨m, y, rfl, hy, hj, hbj⟩ | ⟨hj, hj', hbj⟩
    · have hm := (List.getElem?_eq_some_iff.1 hy).1
      rw [hj]
      by_cases e : m = k
      · subst e
        rw [if_pos ⟨hb, rfl⟩]
        exact atL_in (by simp [hm])
      · rw [if_neg (by rintro ⟨_, h⟩; omega)]
        exact atL_in (by rw [List.getElem?_set_ne (by omega)]; exact hy)
    · rw [hj', if_neg (by rintro ⟨_, h⟩; subst h; omega)]
      exact atL_out (by simpa using hj)
  · rw [setL_out v hb, if_neg (by rw [hb]; simp)]
/-- a slice of words, nil let in: each of them -/
def Wds (w : World) (A : Option Addr) (L : List Int) : Prop :=
  ∀ (k : Nat) (x : Int), L[k]? = some x → ∃ b off, A = some ⟨b, off, none⟩ ∧ b < w.heap.size ∧ w.cell? ⟨b, off + k, none⟩ = some (.int .u64 x)
/-- the block in which the words lie, if there are any -/
def blkS (A : Option Addr) (L : List Int) : List Nat := if L = [] then [] else A.toList.map Addr.block
theorem blkS_mem {A : Option Addr} {L : List Int} {b off : Nat} {k : Nat} {x : Int} (hA : A = some ⟨b, off, none⟩) (hx : L[k]? = some x) : b ∈ blkS A L := by
  have hL : L ≠ [] := by rintro rfl; simp at hx
  subst hA
  simp [blkS, hL]
section
variable {w w' : World} {A : Option Addr} {L : List Int}
theorem Wds.lt (h : Wds w A L) : ∀ k, k ∈ blkS A L → k < w.heap.size := fun k hk => by
  cases L with
  | nil => simp [blkS] at hk
  | cons x L =>
    obtain ⟨b, off, rfl, hb, -⟩ := h 0 x rfl
    simp [blkS] at hk
    omega
theorem Wds.same (h : Wds w A L) (hs : w.heap.size ≤ w'.heap.size) (hk : ∀ k, k ∈ blkS A L → w'.heap[k]? = w.heap[k]?) : Wds w' A L :=
  fun k x hx => by
    obtain ⟨b, off, hA, hb, hc⟩ := h k x hx
    exact ⟨b, off, hA, by omega, (World.cell?_of_block (w := w) (a := ⟨b, off + k, none⟩) (hk b (blkS_mem hA hx))).trans hc⟩
theorem Wds.only {S : List Nat} (h : Wds w A L) (ho : Only S w w') (hS : ∀ k, k ∈ blkS A L → k ∉ S) : Wds w' A L :=
  h.same ho.size fun k hk => ho.block k (h.lt k hk) (hS k hk)
theorem Wds.only0 (h : Wds w A L) (ho : Only [] w w') : Wds w' A L := h.only ho fun _ _ => by simp
theorem Wds.below {n : Nat} (h : Wds w A L) (hb : Below n w w') (hA : ∀ k, k ∈ blkS A L → k < n) : Wds w' A L :=
  h.same hb.size fun k hk => hb.block k (hA k hk)
end
theorem Wds.drewN {w : World} {A : Option Addr} {L : List Int} (h : Wds w A L) (n : Nat) : Wds (w.drewN n) A L := fun k x hx => h k x hx
theorem Wds.nil (w : World) (A : Option Addr) : Wds w A [] := fun k x hx => by simp at hx
/-- a row of words in a block of one's own: at its head the words, behind them whatever -/
def RowU (w : World) (g : Nat) (t : TypeId) (L : List Int) : Prop := ∃ cur, Blk w g t cur ∧ ∀ (k : Nat) (x : Int), L[k]? = some x → cur[k]? = some (.int .u64 x)
section
variable {w w' : World} {g : Nat} {t : TypeId} {L : List Int}
theorem RowU.lt (h : RowU w g t L) : g < w.heap.size := by obtain ⟨cur, hb, -⟩ := h; exact hb.lt
theorem RowU.wds (h : RowU w g t L) : Wds w (some ⟨g, 0, none⟩) L := fun k x hx => by
  obtain ⟨cur, hb, hc⟩ := h
  exact ⟨g, 0, rfl, hb.lt, by rw [Nat.zero_add, hb.cell]; exact hc k x hx⟩
theorem RowU.drewN (h : RowU w g t L) (n : Nat) : RowU (w.drewN n) g t L := h
theorem RowU.frozen (h : RowU w g t L) (i : Nat) : w.frozen? ⟨g, i, none⟩ = false := by obtain ⟨cur, hb, -⟩ := h; exact hb.frozen i
theorem RowU.only {S : List Nat} (h : RowU w g t L) (ho : Only S w w') (hg : g ∉ S) : RowU w' g t L := by
  obtain ⟨cur, hb, hc⟩ := h
  exact ⟨cur, ho.blk hb hg, hc⟩
theorem RowU.same (h : RowU w g t L) (hk : w'.heap[g]? = w.heap[g]?) : RowU w' g t L := by
  obtain ⟨cur, hb, hc⟩ := h
  exact ⟨cur, hk.trans hb, hc⟩
theorem RowU.set_ (h : RowU w g t L) {k : Nat} (hk : k < L.length) (v : Int) : RowU (w.setCell ⟨g, k, none⟩ (.int .u64 v)) g t (setL L k v) := by
  obtain ⟨cur, hb, hc⟩ := h
  refine ⟨_, hb.set_ k _, fun j x hx => ?_⟩
  rw [setL_in v hk] at hx
  have hkc : k < cur.size := (Array.getElem?_eq_some_iff.1 (hc k _ (List.getElem?_eq_getElem hk))).1
  rw [Array.getElem?_setIfInBounds]
  rw [List.getElem?_set] at hx
  split at hx
  · next e =>
    rw [if_pos e, if_pos hkc]
    cases hx
    rfl
  · next e => rw [if_neg e]; exact hc j x hx
theorem RowU.of_owns {base : Nat} {cap n : Nat} (h : w.ownsRow base t 1 (.slice (some ⟨g, 0, none⟩) n cap) n (L.map (Value.int .u64))) : RowU w g t L := by
  rcases h.2 with ⟨h0, _⟩ | ⟨g', cap', cur, h0, _, hg, _, _, _, ht⟩
  · cases h0
  · injection h0 with h0 _ _
    injection h0 with h0
    injection h0 with h0 _ _
    subst h0
    refine ⟨cur, hg, fun k x hx => ?_⟩
    have e : (cur.toList.take (n * 1))[k]? = some (.int .u64 x) := by rw [ht]; simp [hx]
    have hk := (List.getElem?_eq_some_iff.1 e).1
    rw [List.length_take] at hk
    rw [List.getElem?_take_of_lt (by omega), Array.getElem?_toList] at e
    exact e
end
/-- the world behind a word that is written -/
def wrW (w : World) (g n : Nat) (i v : Int) : World := if hasB n i = true then w.setCell ⟨g, i.toNat, none⟩ (.int .u64 v) else w
theorem RowU.wr {w : World} {g : Nat} {t : TypeId} {L : List Int} (h : RowU w g t L) (i v : Int) : RowU (wrW w g L.length i v) g t (setL L i v) := by
  rcases atL_cases L i with ⟨k, x, rfl, hx, -, hb⟩ | ⟨-, -, hb⟩
  · have hk := (List.getElem?_eq_some_iff.1 hx).1
    simp only [wrW, hb, if_pos, Int.toNat_natCast]
    exact h.set_ hk v
  · simp only [wrW, hb, setL_out v hb]
    exact h
theorem wrW_only (w : World) (g n : Nat) (i v : Int) : Only [g] w (wrW w g n i v) := by
  unfold wrW
  split
  · exact (Only.refl _ _).setCell (p := ⟨g, _, none⟩) (.inl (by simp)) _
  · exact Only.refl _ _
end Go.Proofs.Ytdkjfalhalepgaa
/- A function of a view as mathematics: what it reads and writes, one behind the other (layers 9 and up). No dump is read here. -/
namespace Go.Proofs.Ytdkjfalhalepgaa
open Go.RowKit
/-- what is read and written of a view, as mathematics -/
structure Mach (σ : Type) where
  rd : σ → Int → Int × σ
  wr : σ → Int → Int → σ
/-- plain words -/
def machP : Mach (List Int) := ⟨fun L i => (atL L i, L), setL⟩
/-- a function that reads, writes, and tells something -/
inductive Vp (α : Type) : Type where
  | ret (a : α)
  | rd (i : Int) (k : Int → Vp α)
  | wr (i v : Int) (k : Vp α)
namespace Vp
variable {σ α β : Type}
def run (M : Mach σ) : Vp α → σ → α × σ
  | ret a, s => (a, s)
  | rd i k, s => (k (M.rd s i).1).run M (M.rd s i).2
  | wr i v k, s => k.run M (M.wr s i v)
def bind : Vp α → (α → Vp β) → Vp β
  | ret a, f => f a
  | rd i k, f => rd i fun x => (k x).bind f
  | wr i v k, f => wr i v (k.bind f)
section
variable {M : Mach σ} {s : σ}
theorem run_ret (a : α) : (ret a).run M s = (a, s) := rfl
theorem run_rd (i : Int) (k : Int → Vp α) : (rd i k).run M s = (k (M.rd s i).1).run M (M.rd s i).2 := rfl
theorem run_wr (i v : Int) (k : Vp α) : (wr i v k).run M s = k.run M (M.wr s i v) := rfl
theorem run_bind (p : Vp α) (f : α → Vp β) : (p.bind f).run M s = (f (p.run M s).1).run M (p.run M s).2 := by
  induction p generalizing s with
  | ret a => rfl
  | rd i k ih => exact ih _
  | wr i v k ih => exact ih
theorem run_bind_is {p : Vp α} {f : α → Vp β} {a : α} {s1 : σ} (h : p.run M s = (a, s1)) : (p.bind f).run M s = (f a).run M s1 := by rw [run_bind, h]
theorem run_yes {c : Prop} [Decidable c] {p q : Vp α} (h : c) : (if c then p else q).run M s = p.run M s := by rw [if_pos h]
theorem run_no {c : Prop} [Decidable c] {p q : Vp α} (h : ¬ c) : (if c then p else q).run M s = q.run M s := by rw [if_neg h]
end
theorem run_rdP {L : List Int} (i : Int) (k : Int → Vp α) : (rd i k).run machP L = (k (atL L i)).run machP L := rfl
theorem run_wrP {L : List Int} (i v : Int) (k : Vp α) : (wr i v k).run machP L = k.run machP (setL L i v) := rfl
end Vp
/-- is it a word -/
def U64 (x : Int) : Prop := 0 ≤ x ∧ x ≤ 18446744073709551615
/-- are they words -/
def Us (L : List Int) : Prop := ∀ x, x ∈ L → U64 x
theorem Us.atL {L : List Int} (h : Us L) (i : Int) : U64 (atL L i) := by
  rcases atL_cases L i with ⟨k, x, rfl, hx, hv, -⟩ | ⟨-, hv, -⟩
  · rw [hv]; exact h x (List.mem_of_getElem? hx)
  · rw [hv]; exact ⟨by omega, by omega⟩
theorem Us.set {L : List Int} (h : Us L) (i : Int) {v : Int} (hv : U64 v) : Us (setL L i v) := fun x hx => by
  unfold setL at hx
  split at hx
  · rcases List.mem_or_eq_of_mem_set hx with h1 | h1
    · exact h x h1
    · subst h1; exact hv
  · exact h x hx
end Go.Proofs.Ytdkjfalhalepgaa
/- Where all lies in the words, as mathematics (layer 9): a slot's word, an object's; what is used, a field, what is taken. No dump is read here. -/
namespace Go.Proofs.Ytdkjfalhalepgaa
open Go.RowKit
def belowB (n m : Int) : Bool := decide (0 ≤ n ∧ n < m)
def slotB (i f : Int) : Bool := decide (0 ≤ i ∧ i < 96 ∧ 0 ≤ f ∧ f < 5)
def objB (i f : Int) : Bool := decide (0 ≤ i ∧ i < 32 ∧ 0 ≤ f ∧ f < 8)
theorem belowB_yes {n m : Int} : belowB n m = true ↔ 0 ≤ n ∧ n < m := by simp [belowB]
theorem belowB_no {n m : Int} : belowB n m = false ↔ n < 0 ∨ m ≤ n := by simp [belowB]; omega
theorem slotB_yes {i f : Int} : slotB i f = true ↔ 0 ≤ i ∧ i < 96 ∧ 0 ≤ f ∧ f < 5 := by simp [slotB]
theorem slotB_no {i f : Int} : slotB i f = false ↔ (i < 0 ∨ 96 ≤ i) ∨ (f < 0 ∨ 5 ≤ f) := by simp [slotB]; omega
theorem objB_yes {i f : Int} : objB i f = true ↔ 0 ≤ i ∧ i < 32 ∧ 0 ≤ f ∧ f < 8 := by simp [objB]
theorem objB_no {i f : Int} : objB i f = false ↔ (i < 0 ∨ 32 ≤ i) ∨ (f < 0 ∨ 8 ≤ f) := by simp [objB]; omega
/-- a slot's word, 0 if there is none -/
def slotI (i f : Int) : Int := if slotB i f = true then 5 * i + f else 0
/-- an object's -/
def objI (i f : Int) : Int := if objB i f = true then 480 + 8 * i + f else 0
theorem slotI_yes {i f : Int} (h : slotB i f = true) : slotI i f = 5 * i + f := by simp [slotI, h]
theorem slotI_no {i f : Int} (h : slotB i f = false) : slotI i f = 0 := by simp [slotI, h]
theorem objI_yes {i f : Int} (h : objB i f = true) : objI i f = 480 + 8 * i + f := by simp [objI, h]
theorem objI_no {i f : Int} (h : objB i f = false) : objI i f = 0 := by simp [objI, h]
/-- a word as a field's number -/
def numI (w : Int) : Int := if 4611686018427387904 < w then 0 else w
theorem numI_rng {w : Int} (h : U64 w) : 0 ≤ numI w ∧ numI w ≤ 4611686018427387904 := by
  have := h.1
  unfold numI
  split <;> omega
def fieldP (o f : Int) : Vp Int := if objB o f = true then .rd (objI o f) fun w => .ret (numI w) else .ret 0
def refP (o f : Int) : Vp (Int × Bool) := (fieldP o f).bind fun n => .ret (if belowB (n - 1) 32 = true then (n - 1, true) else (0, false))
def putP (o f n : Int) : Vp Unit := if objB o f = true ∧ 0 ≤ n then .wr (objI o f) n (.ret ()) else .ret ()
def isP (o k : Int) : Vp Bool := if objB o 0 = true ∧ 0 ≤ k then .rd (objI o 0) fun w => .ret (w == k) else .ret false
section
variable {L : List Int} {o f n k : Int}
/-- a field's number, of plain words -/
def fieldL (L : List Int) (o f : Int) : Int := if objB o f = true then numI (atL L (480 + 8 * o + f)) else 0
def refL (L : List Int) (o f : Int) : Int × Bool := if belowB (fieldL L o f - 1) 32 = true then (fieldL L o f - 1, true) else (0, false)
def putL (L : List Int) (o f n : Int) : List Int := if objB o f = true ∧ 0 ≤ n then setL L (480 + 8 * o + f) n else L
def isL (L : List Int) (o k : Int) : Bool := objB o 0 && decide (0 ≤ k) && (atL L (480 + 8 * o) == k)
theorem fieldP_plain : (fieldP o f).run machP L = (fieldL L o f, L) := by
  unfold fieldP fieldL
  split
  · next h => rw [Vp.run_rdP, Vp.run_ret, objI_yes h]
  · rfl
theorem refP_plain : (refP o f).run machP L = (refL L o f, L) := by
  unfold refP refL
  rw [Vp.run_bind_is fieldP_plain, Vp.run_ret]
theorem putP_plain : (putP o f n).run machP L = ((), putL L o f n) := by
  unfold putP putL
  split
  · next h => rw [Vp.run_wrP, Vp.run_ret, objI_yes h.1]
  · rfl
theorem isP_plain : (isP o k).run machP L = (isL L o k, L) := by
  unfold isP isL
  by_cases h : objB o 0 = true ∧ 0 ≤ k
  · rw [if_pos h, Vp.run_rdP, Vp.run_ret, objI_yes h.1]
    simp [h]
  · rw [if_neg h, Vp.run_ret]
    congr 1
    cases h1 : objB o 0 <;> simp [h1] at h ⊢
    omega
end
end Go.Proofs.Ytdkjfalhalepgaa
/- A capability's mathematics (layer 2): whether it may be, its word. No dump is read here. -/
namespace Go.Proofs.Ytdkjfalhalepgaa
open Go.RowKit
/-- a capability, as its six fields lie: Kind, Rights, Obj, Badge, Guard, Bits -/
structure Cp where
  kind : Int
  rights : Int
  obj : Int
  badge : Int
  guard : Int
  bits : Int
abbrev Cp.arr (c : Cp) : Array Value := #[.int .i64 c.kind, .int .i64 c.rights, .int .i64 c.obj, .int .i64 c.badge, .int .i64 c.guard, .int .i64 c.bits]
abbrev Cp.v (c : Cp) : Value := .agg c.arr
def Cp.zero : Cp := ⟨0, 0, 0, 0, 0, 0⟩
def upToB (n m : Int) : Bool := decide (0 ≤ n) && decide (n ≤ m)
theorem upToB_iff (n m : Int) : upToB n m = true ↔ 0 ≤ n ∧ n ≤ m := by unfold upToB; rw [Bool.and_eq_true, decide_eq_true_eq, decide_eq_true_eq]
theorem upToB_yes {n m : Int} (h0 : 0 ≤ n) (h1 : n ≤ m) : upToB n m = true := (upToB_iff n m).2 ⟨h0, h1⟩
theorem upToB_no {n m : Int} (h : n < 0 ∨ m < n) : upToB n m = false := by rw [Bool.eq_false_iff, Ne, upToB_iff]; omega
def mayBadge (k b : Int) : Prop := if k = 3 ∨ k = 4 then 0 ≤ b ∧ b ≤ 65535 else b = 0
def mayGuard (k g n : Int) : Prop := if k = 2 then (0 ≤ n ∧ n ≤ 8) ∧ 0 ≤ g ∧ g ≤ 2 ^ n.toNat - 1 else n = 0 ∧ g = 0
instance (k b : Int) : Decidable (mayBadge k b) := by unfold mayBadge; infer_instance
instance (k g n : Int) : Decidable (mayGuard k g n) := by unfold mayGuard; infer_instance
def Cp.may (c : Cp) : Prop :=
  if c.kind = 0 then c.rights = 0 ∧ c.obj = 0 ∧ c.badge = 0 ∧ c.guard = 0 ∧ c.bits = 0
  else (0 ≤ c.kind ∧ c.kind ≤ 8) ∧ (0 ≤ c.rights ∧ c.rights ≤ 7) ∧ (0 ≤ c.obj ∧ c.obj ≤ 31) ∧ mayBadge c.kind c.badge ∧ mayGuard c.kind c.guard c.bits
instance (c : Cp) : Decidable c.may := by unfold Cp.may; infer_instance
def mayBadgeB (k b : Int) : Bool := decide (mayBadge k b)
def mayGuardB (k g n : Int) : Bool := decide (mayGuard k g n)
def Cp.mayB (c : Cp) : Bool := decide c.may
/-- its word -/
def Cp.word (c : Cp) : Int := c.kind + 16 * c.rights + 128 * c.obj + 4096 * c.badge + 268435456 * c.bits + 4294967296 * c.guard
/-- a word's parts -/
def Cp.of (w : Int) : Cp := ⟨w % 16, w / 16 % 8, w / 128 % 32, w / 4096 % 65536, w / 4294967296 % 4294967296, w / 268435456 % 16⟩
theorem pow_le (n : Int) (h0 : 0 ≤ n) (h8 : n ≤ 8) : 1 ≤ (2 : Int) ^ n.toNat ∧ (2 : Int) ^ n.toNat ≤ 256 := by
  obtain ⟨k, rfl⟩ : ∃ k : Nat, n = k := ⟨n.toNat, by omega⟩
  have hk : k ≤ 8 := by omega
  rw [Int.toNat_natCast]
  match k, hk with
  | 0, _ => decide
  | 1, _ => decide
  | 2, _ => decide
  | 3, _ => decide
  | 4, _ => decide
  | 5, _ => decide
  | 6, _ => decide
  | 7, _ => decide
  | 8, _ => decide
structure Cp.Small (c : Cp) : Prop where
  k0 : 0 ≤ c.kind
  k1 : c.kind ≤ 8
  r0 : 0 ≤ c.rights
  r1 : c.rights ≤ 7
  o0 : 0 ≤ c.obj
  o1 : c.obj ≤ 31
  b0 : 0 ≤ c.badge
  b1 : c.badge ≤ 65535
  g0 : 0 ≤ c.guard
  g1 : c.guard ≤ 255
  n0 : 0 ≤ c.bits
  n1 : c.bits ≤ 8
theorem Cp.may.small {c : Cp} (h : c.may) : c.Small := by
  obtain ⟨k, r, o, b, g, n⟩ := c
  unfold Cp.may at h
  simp only at h
  by_cases hk : k = 0
  · rw [if_pos hk] at h
    obtain ⟨rfl, rfl, rfl, rfl, rfl⟩ := h
    constructor <;> simp <;> omega
  · rw [if_neg hk] at h
    obtain ⟨⟨_, _⟩, ⟨_, _⟩, ⟨_, _⟩, hb, hg⟩ := h
    have hb' : 0 ≤ b ∧ b ≤ 65535 := by
      unfold mayBadge at hb
      split at hb <;> omega
    have hg' : (0 ≤ n ∧ n ≤ 8) ∧ 0 ≤ g ∧ g ≤ 255 := by
      unfold mayGuard at hg
      split at hg
      · obtain ⟨⟨h0, h8⟩, hg0, hg1⟩ := hg
        have := pow_le n h0 h8
        omega
      · omega
    constructor <;> simp <;> omega
theorem Cp.word_lt {c : Cp} (h : c.Small) : 0 ≤ c.word ∧ c.word < 18446744073709551616 := by
  obtain ⟨h1, h2, h3, h4, h5, h6, h7, h8, h9, h10, h11, h12⟩ := h
  unfold Cp.word
  omega
theorem Cp.of_word {c : Cp} (h : c.Small) : Cp.of c.word = c := by
  obtain ⟨k, r, o, b, g, n⟩ := c
  obtain ⟨h1, h2, h3, h4, h5, h6, h7, h8, h9, h10, h11, h12⟩ := h
  simp only at *
  unfold Cp.of Cp.word
  simp only [Cp.mk.injEq]
  omega
theorem part_nat (x a b : Nat) (hab : a ≤ b) (hb : b ≤ 64) : x * 2 ^ (64 - b) % 18446744073709551616 / 2 ^ (64 - b + a) = x / 2 ^ a % 2 ^ (b - a) := by
  have e : (18446744073709551616 : Nat) = 2 ^ b * 2 ^ (64 - b) := by
    rw [← Nat.pow_add, show b + (64 - b) = 64 by omega]
  rw [e, Nat.mul_mod_mul_right, Nat.pow_add, ← Nat.div_div_eq_div_mul, Nat.mul_div_cancel _ (Nat.two_pow_pos _)]
  have e2 : (2 : Nat) ^ b = 2 ^ a * 2 ^ (b - a) := by rw [← Nat.pow_add, show a + (b - a) = b by omega]
  rw [e2, Nat.mod_mul_right_div_self]
theorem part_int (x a b : Int) (h0 : 0 ≤ x) (ha : 0 ≤ a) (hab : a ≤ b) (hb : b ≤ 64) (h63 : b - a ≤ 62) :
    wrap64 (IntKind.u64.wrap (x * 2 ^ (64 - b).toNat) / 2 ^ (64 - b + a).toNat) = x / 2 ^ a.toNat % 2 ^ (b - a).toNat := by
  obtain ⟨x, rfl⟩ := Int.eq_ofNat_of_zero_le h0
  obtain ⟨a, rfl⟩ := Int.eq_ofNat_of_zero_le ha
  obtain ⟨b, rfl⟩ := Int.eq_ofNat_of_zero_le (show 0 ≤ b by omega)
  have q := part_nat x a b (by omega) (by omega)
  have e1 : (64 - (b : Int)).toNat = 64 - b := by omega
  have e2 : (64 - (b : Int) + a).toNat = 64 - b + a := by omega
  have e3 : ((b : Int) - a).toNat = b - a := by omega
  rw [IntKind.wrap_u64, e1, e2, e3, Int.toNat_natCast]
  have e : ((x : Int) * 2 ^ (64 - b) % 18446744073709551616 / 2 ^ (64 - b + a)) = ((x * 2 ^ (64 - b) % 18446744073709551616 / 2 ^ (64 - b + a) : Nat) : Int) := by simp
  rw [e, q]
  have hlt : x / 2 ^ a % 2 ^ (b - a) < 2 ^ (b - a) := Nat.mod_lt _ (Nat.two_pow_pos _)
  have hle : (2 : Nat) ^ (b - a) ≤ 2 ^ 62 := Nat.pow_le_pow_right (by omega) (by omega)
  have h62 : (2 : Nat) ^ 62 = 4611686018427387904 := by decide
  rw [IntWalk.wrap64_in _ (by omega)]
  simp
theorem mayBadgeB_yes {k b : Int} (h : k = 3 ∨ k = 4) : mayBadgeB k b = upToB b 65535 := by
  rw [Bool.eq_iff_iff, upToB_iff]; simp [mayBadgeB, mayBadge, h]
theorem mayBadgeB_no {k b : Int} (h3 : ¬ k = 3) (h4 : ¬ k = 4) : mayBadgeB k b = (b == 0) := by
  rw [Bool.eq_iff_iff]; simp [mayBadgeB, mayBadge, h3, h4]
theorem mayGuardB_no {k g n : Int} (h : ¬ k = 2) : mayGuardB k g n = ((n == 0) && (g == 0)) := by
  rw [Bool.eq_iff_iff]; simp [mayGuardB, mayGuard, h]
theorem mayGuardB_in {k g n : Int} (h : k = 2) (h0 : 0 ≤ n) (h8 : n ≤ 8) : mayGuardB k g n = upToB g (2 ^ n.toNat - 1) := by
  rw [Bool.eq_iff_iff, upToB_iff]; simp [mayGuardB, mayGuard, h, h0, h8]
theorem mayGuardB_out {k g n : Int} (h : k = 2) (hn : n < 0 ∨ 8 < n) : mayGuardB k g n = false := by
  rw [Bool.eq_false_iff]; simp [mayGuardB, mayGuard, h]; omega
theorem Cp.mayB_null {c : Cp} (h : c.kind = 0) : c.mayB = ((c.rights == 0) && (c.obj == 0) && (c.badge == 0) && (c.guard == 0) && (c.bits == 0)) := by
  rw [Bool.eq_iff_iff]; simp [Cp.mayB, Cp.may, h, and_assoc]
theorem Cp.mayB_real {c : Cp} (h : ¬ c.kind = 0) : c.mayB = (upToB c.kind 8 && upToB c.rights 7 && upToB c.obj 31 && mayBadgeB c.kind c.badge && mayGuardB c.kind c.guard c.bits) := by
  rw [Bool.eq_iff_iff]
  simp only [Cp.mayB, Cp.may, h, if_false, Bool.and_eq_true, upToB_iff, mayBadgeB, mayGuardB, decide_eq_true_eq, and_assoc]
theorem or_add (a b : Int) (i : Nat) (m : Int) (hm : m = 2 ^ i) (h0 : 0 ≤ a) (ha : a < m) (hb0 : 0 ≤ b) (hb : b * m < 18446744073709551616) (hi : i ≤ 63) : bits .or .u64 a (b * m) = a + b * m := by
  subst hm
  obtain ⟨a, rfl⟩ := Int.eq_ofNat_of_zero_le h0
  obtain ⟨b, rfl⟩ := Int.eq_ofNat_of_zero_le hb0
  have e : ((2 : Int) ^ i) = ((2 ^ i : Nat) : Int) := by simp
  rw [e] at ha hb ⊢
  have ha' : a < 2 ^ i := by omega
  have hb' : b * 2 ^ i < 18446744073709551616 := by
    have q : ((b * 2 ^ i : Nat) : Int) < 18446744073709551616 := by rw [Int.natCast_mul]; exact hb
    omega
  have h63 : (2 : Nat) ^ i ≤ 2 ^ 63 := Nat.pow_le_pow_right (by omega) hi
  have e63 : (2 : Nat) ^ 63 = 9223372036854775808 := by decide
  rw [← Int.natCast_mul, bits_or_u64_nat _ _ (by omega) hb', Nat.or_comm, Nat.mul_comm b, ← Nat.two_pow_add_eq_or_of_lt ha', ← Int.natCast_add, Nat.add_comm]
theorem word_or {c : Cp} (h : c.Small) : bits .or .u64 (bits .or .u64 (bits .or .u64 (bits .or .u64 (bits .or .u64 c.kind (c.rights * 16)) (c.obj * 128)) (c.badge * 4096)) (c.bits * 268435456)) (c.guard * 4294967296) = c.word := by
  obtain ⟨h1, h2, h3, h4, h5, h6, h7, h8, h9, h10, h11, h12⟩ := h
  rw [or_add c.kind c.rights 4 16 (by decide) (by omega) (by omega) (by omega) (by omega) (by omega),
    or_add _ c.obj 7 128 (by decide) (by omega) (by omega) (by omega) (by omega) (by omega),
    or_add _ c.badge 12 4096 (by decide) (by omega) (by omega) (by omega) (by omega) (by omega),
    or_add _ c.bits 28 268435456 (by decide) (by omega) (by omega) (by omega) (by omega) (by omega),
    or_add _ c.guard 32 4294967296 (by decide) (by omega) (by omega) (by omega) (by omega) (by omega)]
  unfold Cp.word
  omega
section
variable {w : World} {g : Nat} {t : TypeId} {c : Cp}
theorem Blk.six (h : Blk w g t c.arr) : w.cell? ⟨g, 0, none⟩ = some (.int .i64 c.kind) ∧ w.cell? ⟨g, 1, none⟩ = some (.int .i64 c.rights) ∧ w.cell? ⟨g, 2, none⟩ = some (.int .i64 c.obj) ∧
    w.cell? ⟨g, 3, none⟩ = some (.int .i64 c.badge) ∧ w.cell? ⟨g, 4, none⟩ = some (.int .i64 c.guard) ∧ w.cell? ⟨g, 5, none⟩ = some (.int .i64 c.bits) :=
  ⟨h.cell 0, h.cell 1, h.cell 2, h.cell 3, h.cell 4, h.cell 5⟩
end
theorem Blk.cap {w : World} {B : Nat} {t : TypeId} {k r o b g n : Int} (h : Blk w B t #[.int .i64 k, .int .i64 r, .int .i64 o, .int .i64 b, .int .i64 g, .int .i64 n]) : w.cell? ⟨B, 0, none⟩ = some (.int .i64 k) ∧ w.cell? ⟨B, 1, none⟩ = some (.int .i64 r) ∧ w.cell? ⟨B, 2, none⟩ = some (.int .i64 o) ∧
    w.cell? ⟨B, 3, none⟩ = some (.int .i64 b) ∧ w.cell? ⟨B, 4, none⟩ = some (.int .i64 g) ∧ w.cell? ⟨B, 5, none⟩ = some (.int .i64 n) :=
  ⟨h.cell 0, h.cell 1, h.cell 2, h.cell 3, h.cell 4, h.cell 5⟩
theorem tup_u64 {a b : Int} (h : a = b) : Ending.returned (.tuple #[.int .u64 a, .nilIface]) = .returned (.tuple #[.int .u64 b, .nilIface]) := by rw [h]
end Go.Proofs.Ytdkjfalhalepgaa
