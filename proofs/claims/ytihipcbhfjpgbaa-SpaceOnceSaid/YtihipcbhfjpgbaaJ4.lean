/- Any view: how its two calls are reached, what they do to what it stands for, what of the memory it is made of (layers 9 and up: each function of a view is walked over this, once, for plain words and a record's view alike). -/
import Derived.Test.YtihipcbhfjpgbaaRows
import Derived.Test.YtihipcbhfjpgbaaJ1
import Derived.WalkKit
import Derived.WalkSpells
import Derived.WalkLawsBesides
import Derived.Handy
import Derived.BigQuiet
import Derived.Deep.QuietTactic
import Derived.RegionTactic
import Derived.Lib.Hide
import Derived.Deep.Light
import Derived.Test.YtihipcbhfjpgbaaViewM
namespace Go.Proofs.Ytihipcbhfjpgbaa
open Go.RowKit
/-- a view: Ok holds of what it stands for (what is read is a word), S are the blocks that its calls turn, R those that it is made of -/
structure VOk {σ : Type} (M : Mach σ) (T : TypeId) (v : Value) (fR fW : FuncId) (Mem : World → σ → Prop) (Ok : σ → Prop) (S R : List Nat) : Prop where
  mR : ∀ (n : Nat) (w : World), Sem.run Try.prog (method (n + 1) T v "Read") w = .ok (fR, v) w
  mW : ∀ (n : Nat) (w : World), Sem.run Try.prog (method (n + 1) T v "Write") w = .ok (fW, v) w
  nR : ∀ (n : Nat) (w : World), Sem.run Try.prog (nilAhead (n + 1) T v "Read") w = .ok (some false) w
  nW : ∀ (n : Nat) (w : World), Sem.run Try.prog (nilAhead (n + 1) T v "Write") w = .ok (some false) w
  eR : ∀ (args : Array Value) (w : World), (callFunc fR args).run Try.prog w = .ok (.enter fR args) w
  eW : ∀ (args : Array Value) (w : World), (callFunc fW args).run Try.prog w = .ok (.enter fW args) w
  rd : ∀ (w : World) (s : σ) (i : Int), Mem w s → Calls Try.prog fR #[v, .int .i64 i] w fun e w' => e = .returned (.int .u64 (M.rd s i).1) ∧ Mem w' (M.rd s i).2 ∧ Only S w w'
  wr : ∀ (w : World) (s : σ) (i x : Int), Mem w s → U64 x → Calls Try.prog fW #[v, .int .i64 i, .int .u64 x] w fun e w' => e = .returned (.tuple #[]) ∧ Mem w' (M.wr s i x) ∧ Only S w w'
  ok : ∀ (w : World) (s : σ), Mem w s → Ok s
  rng : ∀ (s : σ) (i : Int), Ok s → U64 (M.rd s i).1
  okR : ∀ (s : σ) (i : Int), Ok s → Ok (M.rd s i).2
  okW : ∀ (s : σ) (i x : Int), Ok s → U64 x → Ok (M.wr s i x)
  lt : ∀ (w : World) (s : σ) (k : Nat), Mem w s → k ∈ R → k < w.heap.size
  keep : ∀ (w w' : World) (s : σ) (S' : List Nat), Mem w s → Only S' w w' → (∀ k, k ∈ S' → k ∉ R) → Mem w' s
  sub : ∀ k, k ∈ S → k ∈ R
section
variable {σ : Type} {M : Mach σ} {T : TypeId} {v : Value} {fR fW : FuncId} {Mem : World → σ → Prop} {Ok : σ → Prop} {S R : List Nat} {w w' : World} {s : σ}
theorem VOk.drewN (V : VOk M T v fR fW Mem Ok S R) (h : Mem w s) (n : Nat) : Mem (w.drewN n) s := V.keep w _ s [] h ((Only.refl [] w).drewN n) (by simp)
theorem VOk.only0 (V : VOk M T v fR fW Mem Ok S R) (h : Mem w s) (ho : Only [] w w') : Mem w' s := V.keep w _ s [] h ho (by simp)
/-- what is new is no part of it -/
theorem VOk.fresh (V : VOk M T v fR fW Mem Ok S R) (h : Mem w s) {k : Nat} (hk : w.heap.size ≤ k) : k ∉ R := fun hm => by have := V.lt w s k h hm; omega
/-- what is no part of it is put -/
theorem VOk.put (V : VOk M T v fR fW Mem Ok S R) (h : Mem w s) {k : Nat} (hk : k ∉ R) (i : Nat) (u : Value) : Mem (w.setCell ⟨k, i, none⟩ u) s :=
  V.keep w _ s [k] h ((Only.refl _ _).setCell (.inl (by simp)) _) (fun j hj => by simp at hj; subst hj; exact hk)
end
end Go.Proofs.Ytihipcbhfjpgbaa
/- What a plain view's calls answer (layer 5's, for layer 6's laws): has, Read, Write. -/
namespace Go.Proofs.Ytihipcbhfjpgbaa
open Go.RowKit
section
variable {A : Option Addr} {L : List Int} (cp : Nat) (w : World)
theorem phas_any (n : Nat) (A : Option Addr) (i : Int) : Calls Try.prog 46 #[.slice A n cp, .int .i64 i] w fun e w' => e = .returned (.bool (hasB n i)) ∧ w' = w := by
  go_enter Try.func46, Try.ntmps46
  go_wp2
  all_goals go_ret
  all_goals exact ⟨by simp [hasB, *] <;> omega, rfl⟩
theorem phas_is {n : Nat} {i : Int} {q : Bool} (A : Option Addr) (h : hasB n i = q) : Calls Try.prog 46 #[.slice A n cp, .int .i64 i] w fun e w' => e = .returned (.bool q) ∧ w' = w := h ▸ phas_any cp w n A i
theorem pread_any (h : Wds w A L) (i : Int) : Calls Try.prog 44 #[.slice A L.length cp, .int .i64 i] w fun e w' => e = .returned (.int .u64 (atL L i)) ∧ w' = w := by
  rcases atL_cases L i with ⟨k, x, rfl, hx, hv, hb⟩ | ⟨ho, hv, hb⟩
  · have hk := (List.getElem?_eq_some_iff.1 hx).1
    obtain ⟨b, off, rfl, hlt, hc⟩ := h k x hx
    have B := Lib.hid hb
    clear hb h hx
    rw [hv]
    clear hv
    go_enter Try.func44, Try.ntmps44
    go_wp2_with (go_at_call 46; refine (phas_is _ _ _ B.out).mono ?_; rintro e w' ⟨rfl, rfl⟩)
    go_ret
    exact ⟨rfl, rfl⟩
  · have B := Lib.hid hb
    clear hb h ho
    rw [hv]
    clear hv
    go_enter Try.func44, Try.ntmps44
    go_wp2_with (go_at_call 46; refine (phas_is _ _ _ B.out).mono ?_; rintro e w' ⟨rfl, rfl⟩)
    go_ret
    exact ⟨rfl, rfl⟩
theorem pwrite_any {g : Nat} {t : TypeId} (h : RowU w g t L) (i v : Int) : Calls Try.prog 45 #[.slice (some ⟨g, 0, none⟩) L.length cp, .int .i64 i, .int .u64 v] w fun e w' => e = .returned (.tuple #[]) ∧ w' = wrW w g L.length i v := by
  rcases atL_cases L i with ⟨k, x, rfl, hx, -, hb⟩ | ⟨ho, -, hb⟩
  · have hk := (List.getElem?_eq_some_iff.1 hx).1
    obtain ⟨b, off, e0, hlt, hc⟩ := h.wds k x hx
    injection e0 with e0
    injection e0 with e1 e2 _
    subst e1 e2
    rw [Nat.zero_add] at hc
    have hf := h.frozen k
    have hW : wrW w g L.length k v = w.setCell ⟨g, k, none⟩ (.int .u64 v) := by simp [wrW, hb]
    have B := Lib.hid hb
    clear hb h hx
    rw [hW]
    clear hW
    go_enter Try.func45, Try.ntmps45
    go_wp2_with (go_at_call 46; refine (phas_is _ _ _ B.out).mono ?_; rintro e w' ⟨rfl, rfl⟩)
    go_end0
    exact ⟨rfl, rfl⟩
  · have hW : wrW w g L.length i v = w := by simp [wrW, hb]
    have B := Lib.hid hb
    clear hb h ho
    rw [hW]
    clear hW
    go_enter Try.func45, Try.ntmps45
    go_wp2_with (go_at_call 46; refine (phas_is _ _ _ B.out).mono ?_; rintro e w' ⟨rfl, rfl⟩)
    go_end0
    exact ⟨rfl, rfl⟩
end
end Go.Proofs.Ytihipcbhfjpgbaa
/- Plain words of one's own as a view (layers 9 and up). -/
namespace Go.Proofs.Ytihipcbhfjpgbaa
open Go.RowKit
theorem meth_pread (n : Nat) (v : Value) (w : World) : Sem.run Try.prog (method (n + 1) 27 v "Read") w = .ok (44, v) w := by kernel_rfl
theorem meth_pwrite (n : Nat) (v : Value) (w : World) : Sem.run Try.prog (method (n + 1) 27 v "Write") w = .ok (45, v) w := by kernel_rfl
theorem nil_pread (n : Nat) (v : Value) (w : World) : Sem.run Try.prog (nilAhead (n + 1) 27 v "Read") w = .ok (some false) w := by kernel_rfl
theorem nil_pwrite (n : Nat) (v : Value) (w : World) : Sem.run Try.prog (nilAhead (n + 1) 27 v "Write") w = .ok (some false) w := by kernel_rfl
theorem enterPR (args : Array Value) (w : World) : (callFunc 44 args).run Try.prog w = .ok (.enter 44 args) w := by kernel_rfl
theorem enterPW (args : Array Value) (w : World) : (callFunc 45 args).run Try.prog w = .ok (.enter 45 args) w := by kernel_rfl
/-- plain words of one's own, in block g -/
structure MemP (g nn : Nat) (t : TypeId) (w : World) (L : List Int) : Prop where
  len : L.length = nn
  row : RowU w g t L
  us : Us L
theorem viewP (g nn cap : Nat) (t : TypeId) :
    VOk machP 27 (.slice (some ⟨g, 0, none⟩) nn cap) 44 45 (MemP g nn t) Us [g] [g] where
  mR := fun n w => meth_pread n _ w
  mW := fun n w => meth_pwrite n _ w
  nR := fun n w => nil_pread n _ w
  nW := fun n w => nil_pwrite n _ w
  eR := enterPR
  eW := enterPW
  rd := fun w L i ⟨hl, hr, hu⟩ => by
    subst hl
    exact (pread_any cap w hr.wds i).mono fun e w' ⟨he, hw⟩ => by subst hw; exact ⟨he, ⟨rfl, hr, hu⟩, Only.refl _ _⟩
  wr := fun w L i x ⟨hl, hr, hu⟩ hx => by
    subst hl
    exact (pwrite_any cap w hr i x).mono fun e w' ⟨he, hw⟩ => by subst hw; exact ⟨he, ⟨setL_length L i x, hr.wr i x, hu.set i hx⟩, wrW_only _ _ _ _ _⟩
  ok := fun _ _ h => h.us
  rng := fun _ i h => h.atL i
  okR := fun _ _ h => h
  okW := fun _ i _ h hx => h.set i hx
  lt := fun w L k h hk => by
    obtain rfl : k = g := by simpa using hk
    exact h.row.lt
  keep := fun w w' L S' h ho hS => ⟨h.len, h.row.only ho (fun hm => hS g hm (by simp)), h.us⟩
  sub := fun k hk => hk
end Go.Proofs.Ytihipcbhfjpgbaa
