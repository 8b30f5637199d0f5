/- Memory words: a block known whole, a frame that says which old blocks may have turned, rows of equal parts. No dump is read here. -/
import Derived.Below
import Derived.Laws.OwnMore
import Derived.Deep.Draws
import Derived.Laws.Rows
import Derived.Laws.MakeOwn
import Derived.OwnWalk
namespace Go.Proofs.Ytihipcbhfjpgbaa
open Go.RowKit
/-- block g is just the cells cs, of element type t, none frozen -/
def Blk (w : World) (g : Nat) (t : TypeId) (cs : Array Value) : Prop := w.heap[g]? = some (.cells cs t (0, 0))
section
variable {w w' : World} {g : Nat} {t : TypeId} {cs : Array Value}
theorem Blk.lt (h : Blk w g t cs) : g < w.heap.size := by
  rcases Nat.lt_or_ge g w.heap.size with hlt | hge
  · exact hlt
  · unfold Blk at h; rw [Array.getElem?_eq_none hge] at h; cases h
theorem Blk.cell (h : Blk w g t cs) (i : Nat) : w.cell? ⟨g, i, none⟩ = cs[i]? := cell_of_row w g i cs t (0, 0) h
theorem Blk.frozen (h : Blk w g t cs) (i : Nat) : w.frozen? ⟨g, i, none⟩ = false := by
  unfold Blk at h
  simp [World.frozen?, h]
theorem Blk.new (w : World) (t : TypeId) (cs : Array Value) : Blk (w.alloc (.cells cs t)) w.heap.size t cs := heap_alloc_new w _
theorem Blk.drew (h : Blk w g t cs) : Blk w.drew g t cs := h
theorem Blk.drewN (h : Blk w g t cs) (n : Nat) : Blk (w.drewN n) g t cs := h
theorem Blk.alloc (h : Blk w g t cs) (o : Obj) : Blk (w.alloc o) g t cs := (Below.heap_alloc w o g h.lt).trans h
theorem Blk.set_ (h : Blk w g t cs) (i : Nat) (u : Value) : Blk (w.setCell ⟨g, i, none⟩ u) g t (cs.setIfInBounds i u) := by
  unfold Blk at h ⊢
  simp [World.setCell, Array.getElem?_modify, h]
theorem Blk.far (h : Blk w g t cs) {p : Addr} (hp : g ≠ p.block) (u : Value) : Blk (w.setCell p u) g t cs := (Below.heap_setCell w p u g hp).trans h
theorem Blk.below {B : Nat} (h : Blk w g t cs) (hb : Below B w w') (hg : g < B) : Blk w' g t cs := (hb.block g hg).trans h
theorem Blk.ne_ {g' : Nat} {t' : TypeId} {cs' : Array Value} (h : Blk w g t cs) (h' : Blk w g' t' cs') (hne : t ≠ t') : g ≠ g' := by
  rintro rfl
  unfold Blk at h h'
  rw [h] at h'
  injection h' with h'
  injection h' with _ ht
  exact hne ht
theorem Blk.uniq {t' : TypeId} {cs' : Array Value} (h : Blk w g t cs) (h' : Blk w g t' cs') : t = t' ∧ cs = cs' := by
  unfold Blk at h h'
  rw [h] at h'
  injection h' with h'
  injection h' with h1 h2
  exact ⟨h2, h1⟩
end
/-- of the old blocks only those in S may have turned; streams as they were; no block has gone -/
structure Only (S : List Nat) (w w' : World) : Prop where
  os : w'.os = w.os
  tape : w'.tape = w.tape
  output : w'.output = w.output
  size : w.heap.size ≤ w'.heap.size
  block : ∀ k, k < w.heap.size → k ∉ S → w'.heap[k]? = w.heap[k]?
section
variable {S S' : List Nat} {a b c w w' : World}
theorem Only.refl (S : List Nat) (w : World) : Only S w w := ⟨rfl, rfl, rfl, Nat.le_refl _, fun _ _ _ => rfl⟩
theorem Only.trans (h : Only S a b) (k : Only S b c) : Only S a c :=
  ⟨k.os.trans h.os, k.tape.trans h.tape, k.output.trans h.output, Nat.le_trans h.size k.size, fun i hi hn => (k.block i (Nat.lt_of_lt_of_le hi h.size) hn).trans (h.block i hi hn)⟩
theorem Only.more (h : Only S a b) (hs : ∀ k, k < a.heap.size → k ∈ S → k ∈ S') : Only S' a b := ⟨h.os, h.tape, h.output, h.size, fun k hk hn => h.block k hk (fun hm => hn (hs k hk hm))⟩
/-- what was written in blocks that are new since a is of no account -/
theorem Only.then (h : Only S a b) (k : Only S' b c) (hs : ∀ x, x ∈ S' → x ∈ S ∨ a.heap.size ≤ x) : Only S a c :=
  ⟨k.os.trans h.os, k.tape.trans h.tape, k.output.trans h.output, Nat.le_trans h.size k.size, fun i hi hn => (k.block i (Nat.lt_of_lt_of_le hi h.size) (fun hm => by
    rcases hs i hm with h1 | h1
    · exact hn h1
    · omega)).trans (h.block i hi hn)⟩
theorem Only.drew (h : Only S a w) : Only S a w.drew := ⟨h.os, h.tape, h.output, h.size, h.block⟩
theorem Only.drewN (h : Only S a w) (n : Nat) : Only S a (w.drewN n) := ⟨h.os, h.tape, h.output, h.size, h.block⟩
theorem Only.alloc (h : Only S a w) (o : Obj) : Only S a (w.alloc o) :=
  ⟨h.os, h.tape, h.output, Nat.le_trans h.size (by simp), fun i hi hn => (Below.heap_alloc w o i (Nat.lt_of_lt_of_le hi h.size)).trans (h.block i hi hn)⟩
theorem Only.setCell (h : Only S a w) {p : Addr} (hp : p.block ∈ S ∨ a.heap.size ≤ p.block) (u : Value) : Only S a (w.setCell p u) :=
  ⟨h.os, h.tape, h.output, by simpa [World.setCell] using h.size, fun i hi hn => (Below.heap_setCell w p u i (by
    rintro rfl
    rcases hp with hp | hp
    · exact hn hp
    · omega)).trans (h.block i hi hn)⟩
theorem Only.to_below (h : Only S w w') {B : Nat} (hB : B ≤ w.heap.size) (hs : ∀ x, x ∈ S → B ≤ x) : Below B w w' :=
  ⟨h.os, h.tape, h.output, h.size, fun k hk => h.block k (by omega) (fun hm => by have := hs k hm; omega)⟩
theorem Only.blk {g : Nat} {t : TypeId} {cs : Array Value} (h : Only S w w') (hb : Blk w g t cs) (hg : g ∉ S) : Blk w' g t cs := (h.block g hb.lt hg).trans hb
theorem Only.cell (h : Only S w w') {p : Addr} (hp : p.block < w.heap.size) (hn : p.block ∉ S) : w'.cell? p = w.cell? p := World.cell?_of_block (w := w) (h.block p.block hp hn)
theorem Only.frozen (h : Only S w w') {p : Addr} (hp : p.block < w.heap.size) (hn : p.block ∉ S) : w'.frozen? p = w.frozen? p := World.frozen?_of_block (w := w) (h.block p.block hp hn)
end
/-- rows of equal parts -/
def flat {α : Type} (f : α → List Value) (L : List α) : Array Value := (L.flatMap f).toArray
section
variable {α : Type} {f : α → List Value} {n : Nat} {L : List α}
theorem flat_size (hf : ∀ a, (f a).length = n) : (flat f L).size = L.length * n := by
  unfold flat
  induction L with
  | nil => simp
  | cons a L ih =>
    simp only [List.size_toArray, List.flatMap_cons, List.length_append, List.length_cons, hf] at ih ⊢
    rw [ih, Nat.succ_mul, Nat.add_comm]
theorem flat_get (hf : ∀ a, (f a).length = n) (i j : Nat) (hj : j < n) : (flat f L)[i * n + j]? = (L[i]?).bind fun a => (f a)[j]? := by
  unfold flat
  induction L generalizing i with
  | nil => simp
  | cons a L ih =>
    simp only [List.getElem?_toArray, List.flatMap_cons] at ih ⊢
    cases i with
    | zero => rw [List.getElem?_append_left (by rw [hf]; omega)]; simp
    | succ i =>
      have e : (i + 1) * n + j = n + (i * n + j) := by rw [Nat.succ_mul]; omega
      rw [List.getElem?_append_right (by rw [hf]; omega), hf, e, Nat.add_sub_cancel_left, ih]
      simp
theorem flat_at (hf : ∀ a, (f a).length = n) {i j : Nat} {a : α} {v : Value} (h : L[i]? = some a) (hv : (f a)[j]? = some v) : (flat f L)[i * n + j]? = some v := by
  have hj : j < n := by rw [← hf a]; exact (List.getElem?_eq_some_iff.1 hv).1
  rw [flat_get hf i j hj, h]
  exact hv
theorem flat_out (hf : ∀ a, (f a).length = n) {k : Nat} (h : L.length * n ≤ k) : (flat f L)[k]? = none := by
  rw [Array.getElem?_eq_none]
  rw [flat_size hf]
  exact h
theorem madeCells_flat (hf : ∀ a, (f a).length = n) (h0 : 0 < n) (z : Array Value) (a : α) (hz : z.toList = f a) (c : Nat) : madeCells z (c * n) = flat f (List.replicate c a) := by
  have hzs : z.size = n := by rw [← Array.length_toList, hz, hf]
  apply Array.ext_getElem?
  intro k
  by_cases hk : k < c * n
  · have e : k = k / n * n + k % n := by rw [Nat.mul_comm]; exact (Nat.div_add_mod k n).symm
    have hm : k % n < n := Nat.mod_lt _ h0
    have hd : k / n < c := Nat.div_lt_of_lt_mul (by rwa [Nat.mul_comm])
    have hR : (flat f (List.replicate c a))[k]? = (f a)[k % n]? := by
      conv => lhs; rw [e]
      rw [flat_get hf _ _ hm, List.getElem?_replicate, if_pos hd]
      rfl
    rw [hR, ← hz]
    have hk' : k % n < z.size := by omega
    rw [Array.getElem?_toList]
    have e1 : (madeCells z (c * n))[k]? = some z[k % n]! := by simp [madeCells, hk, hzs]
    rw [e1, getElem!_pos z _ hk', Array.getElem?_eq_getElem hk']
  · rw [flat_out hf (by simpa using Nat.le_of_not_lt hk), Array.getElem?_eq_none]
    rw [size_madeCells]
    omega
end
/-- make([]T, n, c): the block as a row of zeros -/
theorem run_makeN {P : Program} {t e : TypeId} {z : Value} {size bytes : Nat} {α : Type} {f : α → List Value} (a : α) (hinfo : (P.info? e).map (fun i => (i.zero, i.size, i.bytes)) = some (some z, size, bytes))
    (ht : P.underlying t = some (.slice e)) (hf : ∀ a, (f a).length = size) (h0 : 0 < size) (hz : z.cells.toList = f a) (kl kc : IntKind) (l c : Int) (hl : 0 ≤ l) (hlc : l ≤ c) (hb : (bytes : Int) * c ≤ 281474976710656) (h63 : c ≤ 9223372036854775807) (w : World) :
    (Instr.makeSlice t (.int kl l) (.int kc c)).run P w = .ok (.slice (some ⟨w.heap.size, 0, none⟩) l.toNat c.toNat) (w.alloc (.cells (flat f (List.replicate c.toNat a)) e)) := by
  obtain ⟨i, hi, hz0, hz1, hz2⟩ := info_parts hinfo
  rw [run_make (P := P) w t e i z ht hi hz0 kl kc l c hl hlc (by rw [hz2]; exact hb) h63, hz1, madeCells_flat hf h0 z.cells a hz]
end Go.Proofs.Ytihipcbhfjpgbaa
