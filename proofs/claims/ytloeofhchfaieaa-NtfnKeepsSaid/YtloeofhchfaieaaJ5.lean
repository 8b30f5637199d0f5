/- Any view: how its two calls are reached, what they do to what it stands for, what of the memory it is made of (layers 9 and up: each function of a view is walked over this, once, for plain words and a record's view alike). -/
import Derived.Test.YtloeofhchfaieaaRows
import Derived.Test.YtloeofhchfaieaaJ2
import Derived.WalkKit
import Derived.WalkSpells
import Derived.WalkLawsBesides
import Derived.Handy
import Derived.BigQuiet
import Derived.Deep.QuietTactic
import Derived.RegionTactic
import Derived.Lib.Hide
import Derived.Deep.Light
import Derived.Test.YtloeofhchfaieaaViewM
import Derived.Test.YtloeofhchfaieaaJ4
import Derived.Deep.MidRow
namespace Go.Proofs.Ytloeofhchfaieaa
open Go.RowKit
/-- a view: Ok holds of what it stands for (what is read is a word), S are the blocks that its calls turn, R those that it is made of -/
structure VOk {σ : Type} (M : Mach σ) (T : TypeId) (v : Value) (fR fW : FuncId) (Mem : World → σ → Prop) (Ok : σ → Prop) (S R : List Nat) : Prop where
  mR : ∀ (n : Nat) (w : World), Sem.run Try.prog (method (n + 1) T v "Read") w = .ok (fR, v) w
  mW : ∀ (n : Nat) (w : World), Sem.run Try.prog (method (n + 1) T v "Write") w = .ok (fW, v) w
  nR : ∀ (n : Nat) (w : World), Sem.run Try.prog (nilAhead (n + 1) T v "Read") w = .ok (some false) w
  nW : ∀ (n : Nat) (w : World), Sem.run Try.prog (nilAhead (n + 1) T v "Write") w = .ok (some false) w
  eR : ∀ (args : Array Value) (w : World), (callFunc fR args).run Try.prog w = .ok (.enter fR args) w
  eW : ∀ (args : Array Value) (w : World), (callFunc fW args).run Try.prog w = .ok (.enter fW args) w
  rd : ∀ (w : World) (s : σ) (i : Int), Mem w s → Calls Try.prog fR #[v, .int .i64 i] w fun e w' => e = .returned (.int .u64 (M.rd s i).1) ∧ Mem w' (M.rd s i).2 ∧ Only S w w'
  wr : ∀ (w : World) (s : σ) (i x : Int), Mem w s → U64 x → Calls Try.prog fW #[v, .int .i64 i, .int .u64 x] w fun e w' => e = .returned (.tuple #[]) ∧ Mem w' (M.wr s i x) ∧ Only S w w'
  ok : ∀ (w : World) (s : σ), Mem w s → Ok s
  rng : ∀ (s : σ) (i : Int), Ok s → U64 (M.rd s i).1
  okR : ∀ (s : σ) (i : Int), Ok s → Ok (M.rd s i).2
  okW : ∀ (s : σ) (i x : Int), Ok s → U64 x → Ok (M.wr s i x)
  lt : ∀ (w : World) (s : σ) (k : Nat), Mem w s → k ∈ R → k < w.heap.size
  keep : ∀ (w w' : World) (s : σ) (S' : List Nat), Mem w s → Only S' w w' → (∀ k, k ∈ S' → k ∉ R) → Mem w' s
  sub : ∀ k, k ∈ S → k ∈ R
section
variable {σ : Type} {M : Mach σ} {T : TypeId} {v : Value} {fR fW : FuncId} {Mem : World → σ → Prop} {Ok : σ → Prop} {S R : List Nat} {w w' : World} {s : σ}
theorem VOk.drewN (V : VOk M T v fR fW Mem Ok S R) (h : Mem w s) (n : Nat) : Mem (w.drewN n) s := V.keep w _ s [] h ((Only.refl [] w).drewN n) (by simp)
theorem VOk.only0 (V : VOk M T v fR fW Mem Ok S R) (h : Mem w s) (ho : Only [] w w') : Mem w' s := V.keep w _ s [] h ho (by simp)
/-- what is new is no part of it -/
theorem VOk.fresh (V : VOk M T v fR fW Mem Ok S R) (h : Mem w s) {k : Nat} (hk : w.heap.size ≤ k) : k ∉ R := fun hm => by have := V.lt w s k h hm; omega
theorem VOk.freshS (V : VOk M T v fR fW Mem Ok S R) (h : Mem w s) {k : Nat} (hk : w.heap.size ≤ k) : k ∉ S := fun hm => V.fresh h hk (V.sub k hm)
/-- what is no part of it is put -/
theorem VOk.put (V : VOk M T v fR fW Mem Ok S R) (h : Mem w s) {k : Nat} (hk : k ∉ R) (i : Nat) (u : Value) : Mem (w.setCell ⟨k, i, none⟩ u) s :=
  V.keep w _ s [k] h ((Only.refl _ _).setCell (.inl (by simp)) _) (fun j hj => by simp at hj; subst hj; exact hk)
end
end Go.Proofs.Ytloeofhchfaieaa
/- What a plain view's calls answer (layer 5's, for layer 6's laws): has, Read, Write. -/
namespace Go.Proofs.Ytloeofhchfaieaa
open Go.RowKit
section
variable {A : Option Addr} {L : List Int} (cp : Nat) (w : World)
theorem phas_any (n : Nat) (A : Option Addr) (i : Int) : Calls Try.prog 65 #[.slice A n cp, .int .i64 i] w fun e w' => e = .returned (.bool (hasB n i)) ∧ w' = w := by
  go_enter Try.func65, Try.ntmps65
  go_wp2
  all_goals go_ret
  all_goals exact ⟨by simp [hasB, *] <;> omega, rfl⟩
theorem phas_is {n : Nat} {i : Int} {q : Bool} (A : Option Addr) (h : hasB n i = q) : Calls Try.prog 65 #[.slice A n cp, .int .i64 i] w fun e w' => e = .returned (.bool q) ∧ w' = w := h ▸ phas_any cp w n A i
theorem pread_any (h : Wds w A L) (i : Int) : Calls Try.prog 63 #[.slice A L.length cp, .int .i64 i] w fun e w' => e = .returned (.int .u64 (atL L i)) ∧ w' = w := by
  rcases atL_cases L i with ⟨k, x, rfl, hx, hv, hb⟩ | ⟨ho, hv, hb⟩
  · have hk := (List.getElem?_eq_some_iff.1 hx).1
    obtain ⟨b, off, rfl, hlt, hc⟩ := h k x hx
    have B := Lib.hid hb
    clear hb h hx
    rw [hv]
    clear hv
    go_enter Try.func63, Try.ntmps63
    go_wp2_with (go_at_call 65; refine (phas_is _ _ _ B.out).mono ?_; rintro e w' ⟨rfl, rfl⟩)
    go_ret
    exact ⟨rfl, rfl⟩
  · have B := Lib.hid hb
    clear hb h ho
    rw [hv]
    clear hv
    go_enter Try.func63, Try.ntmps63
    go_wp2_with (go_at_call 65; refine (phas_is _ _ _ B.out).mono ?_; rintro e w' ⟨rfl, rfl⟩)
    go_ret
    exact ⟨rfl, rfl⟩
theorem pwrite_any {g : Nat} {t : TypeId} (h : RowU w g t L) (i v : Int) : Calls Try.prog 64 #[.slice (some ⟨g, 0, none⟩) L.length cp, .int .i64 i, .int .u64 v] w fun e w' => e = .returned (.tuple #[]) ∧ w' = wrW w g L.length i v := by
  rcases atL_cases L i with ⟨k, x, rfl, hx, -, hb⟩ | ⟨ho, -, hb⟩
  · have hk := (List.getElem?_eq_some_iff.1 hx).1
    obtain ⟨b, off, e0, hlt, hc⟩ := h.wds k x hx
    injection e0 with e0
    injection e0 with e1 e2 _
    subst e1 e2
    rw [Nat.zero_add] at hc
    have hf := h.frozen k
    have hW : wrW w g L.length k v = w.setCell ⟨g, k, none⟩ (.int .u64 v) := by simp [wrW, hb]
    have B := Lib.hid hb
    clear hb h hx
    rw [hW]
    clear hW
    go_enter Try.func64, Try.ntmps64
    go_wp2_with (go_at_call 65; refine (phas_is _ _ _ B.out).mono ?_; rintro e w' ⟨rfl, rfl⟩)
    go_end0
    exact ⟨rfl, rfl⟩
  · have hW : wrW w g L.length i v = w := by simp [wrW, hb]
    have B := Lib.hid hb
    clear hb h ho
    rw [hW]
    clear hW
    go_enter Try.func64, Try.ntmps64
    go_wp2_with (go_at_call 65; refine (phas_is _ _ _ B.out).mono ?_; rintro e w' ⟨rfl, rfl⟩)
    go_end0
    exact ⟨rfl, rfl⟩
end
end Go.Proofs.Ytloeofhchfaieaa
/- Plain words of one's own as a view (layers 9 and up). -/
namespace Go.Proofs.Ytloeofhchfaieaa
open Go.RowKit
theorem meth_pread (n : Nat) (v : Value) (w : World) : Sem.run Try.prog (method (n + 1) 27 v "Read") w = .ok (63, v) w := by kernel_rfl
theorem meth_pwrite (n : Nat) (v : Value) (w : World) : Sem.run Try.prog (method (n + 1) 27 v "Write") w = .ok (64, v) w := by kernel_rfl
theorem nil_pread (n : Nat) (v : Value) (w : World) : Sem.run Try.prog (nilAhead (n + 1) 27 v "Read") w = .ok (some false) w := by kernel_rfl
theorem nil_pwrite (n : Nat) (v : Value) (w : World) : Sem.run Try.prog (nilAhead (n + 1) 27 v "Write") w = .ok (some false) w := by kernel_rfl
theorem enterPR (args : Array Value) (w : World) : (callFunc 63 args).run Try.prog w = .ok (.enter 63 args) w := by kernel_rfl
theorem enterPW (args : Array Value) (w : World) : (callFunc 64 args).run Try.prog w = .ok (.enter 64 args) w := by kernel_rfl
/-- plain words of one's own, in block g -/
structure MemP (g nn : Nat) (t : TypeId) (w : World) (L : List Int) : Prop where
  len : L.length = nn
  row : RowU w g t L
  us : Us L
theorem viewP (g nn cap : Nat) (t : TypeId) :
    VOk machP 27 (.slice (some ⟨g, 0, none⟩) nn cap) 63 64 (MemP g nn t) Us [g] [g] where
  mR := fun n w => meth_pread n _ w
  mW := fun n w => meth_pwrite n _ w
  nR := fun n w => nil_pread n _ w
  nW := fun n w => nil_pwrite n _ w
  eR := enterPR
  eW := enterPW
  rd := fun w L i ⟨hl, hr, hu⟩ => by
    subst hl
    exact (pread_any cap w hr.wds i).mono fun e w' ⟨he, hw⟩ => by subst hw; exact ⟨he, ⟨rfl, hr, hu⟩, Only.refl _ _⟩
  wr := fun w L i x ⟨hl, hr, hu⟩ hx => by
    subst hl
    exact (pwrite_any cap w hr i x).mono fun e w' ⟨he, hw⟩ => by subst hw; exact ⟨he, ⟨setL_length L i x, hr.wr i x, hu.set i hx⟩, wrW_only _ _ _ _ _⟩
  ok := fun _ _ h => h.us
  rng := fun _ i h => h.atL i
  okR := fun _ _ h => h
  okW := fun _ i _ h hx => h.set i hx
  lt := fun w L k h hk => by
    obtain rfl : k = g := by simpa using hk
    exact h.row.lt
  keep := fun w w' L S' h ho hS => ⟨h.len, h.row.only ho (fun hm => hS g hm (by simp)), h.us⟩
  sub := fun k hk => hk
end Go.Proofs.Ytloeofhchfaieaa
/- 738 zeros of one's own, a word of one's own words read and put (layers 9 and up). -/
namespace Go.Proofs.Ytloeofhchfaieaa
open Go.RowKit
abbrev UT : TypeId := 51
def u64row (v : Int) : List Value := [.int .u64 v]
theorem infoU64 : (Try.prog.info? 51).map (fun i => (i.zero, i.size, i.bytes)) = some (some (.int .u64 0), 1, 8) := by kernel_rfl
theorem rowU_flat {w : World} {g : Nat} {t : TypeId} {L : List Int} (h : Blk w g t (flat u64row L)) : RowU w g t L := ⟨_, h, fun k x hk => by
  have := flat_at (f := u64row) (i := k) (n := 1) (j := 0) (L := L) (fun _ => rfl) hk rfl
  simpa using this⟩
/-- zeros -/
def zeros : List Int := List.replicate 738 0
theorem zeros_us : Us zeros := fun x hx => by
  obtain rfl := List.eq_of_mem_replicate hx
  exact ⟨by omega, by omega⟩
theorem zeros_at (i : Int) : atL zeros i = 0 := by
  rcases atL_cases zeros i with ⟨k, x, rfl, hx, hv, -⟩ | ⟨-, hv, -⟩
  · rw [hv]
    exact List.eq_of_mem_replicate (List.mem_of_getElem? hx)
  · exact hv
theorem zeros_len : zeros.length = 738 := List.length_replicate
theorem MemP.cell {g : Nat} {t : TypeId} {w : World} {L : List Int} {nn m : Nat} (h : MemP g nn t w L) (hm : m < nn) : w.cell? ⟨g, m, none⟩ = some (.int .u64 (atL L m)) := by
  have hx : L[m]? = some (L[m]'(by rw [h.len]; exact hm)) := List.getElem?_eq_getElem _
  obtain ⟨b, off, e0, -, hc⟩ := h.row.wds m _ hx
  injection e0 with e0
  injection e0 with e1 e2 _
  subst e1 e2
  rw [Nat.zero_add] at hc
  rw [hc, atL_in hx]
theorem MemP.put {g : Nat} {t : TypeId} {w : World} {L : List Int} {nn m : Nat} {x : Int} (h : MemP g nn t w L) (hm : m < nn) (hx : U64 x) : MemP g nn t (w.setCell ⟨g, m, none⟩ (.int .u64 x)) (setL L m x) :=
  ⟨by rw [setL_length]; exact h.len, h.row.set_ (by rw [h.len]; exact hm) x, h.us.set m hx⟩
theorem MemP.only {g : Nat} {t : TypeId} {w w' : World} {L : List Int} {nn : Nat} {F : List Nat} (h : MemP g nn t w L) (ho : Only F w w') (hg : g ∉ F) : MemP g nn t w' L := ⟨h.len, h.row.only ho hg, h.us⟩
end Go.Proofs.Ytloeofhchfaieaa
/- Words of the document's state (layers 9 and 10: no object is anything): all words. -/
namespace Go.Proofs.Ytloeofhchfaieaa
open Go.RowKit
/-- what words can tell -/
structure RSt.Fit (S : RSt) : Prop where
  cap : ∀ i, InS i → (S.cap i).Small
  par : ∀ i, InS i → -1 ≤ S.par i ∧ S.par i < 96
  kids : ∀ i, InS i → ∀ x, x ∈ S.kids i → InS x
  ns : U64 S.ns
  no : U64 S.no
theorem gd {l : List Int} {i : Nat} {x : Int} (h : l[i]? = some x) : l.getD i 0 = x := by rw [List.getD_eq_getElem?_getD, h]; rfl
theorem wordU64 {c : Cp} (h : c.Small) : U64 c.word := by
  have := Cp.word_lt h
  obtain ⟨h1, h2, h3, h4, h5, h6, h7, h8, h9, h10, h11, h12⟩ := h
  unfold Cp.word at this ⊢
  exact ⟨by omega, by omega⟩
section
variable {w : World} {p gs go : Nat} {S : RSt}
theorem RefAt.cSlot (h : RefM w p gs go S) {i : Nat} (hi : i < 96) : ∃ A cp, RowN w A ItT irow' 1 (S.kids i) ∧ ∀ (j : Nat) (v : Value), (slotRow (S.cap i) (S.par i) (.slice A (S.kids i).length cp))[j]? = some v → w.cell? ⟨gs, i * 8 + j, none⟩ = some v := by
  obtain ⟨-, ⟨cur, h2, h3⟩, -⟩ := h
  obtain ⟨kv, q1, A, cp, rfl, q2⟩ := h3 i hi
  exact ⟨A, cp, q2, fun j v hv => by rw [h2.cell]; exact q1 j v hv⟩
end
end Go.Proofs.Ytloeofhchfaieaa
