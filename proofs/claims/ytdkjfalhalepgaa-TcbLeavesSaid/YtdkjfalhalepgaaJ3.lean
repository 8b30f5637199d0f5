/- The document's state of layers 9 to 21 as it lies in this program's types; a number of a list of numbers. -/
import Derived.Test.YtdkjfalhalepgaaRefNew2
import Derived.Test.YtdkjfalhalepgaaJ1
import Derived.Test.YtdkjfalhalepgaaRows
import Derived.WalkKit
import Derived.WalkSpells
import Derived.WalkLawsBesides
import Derived.Handy
import Derived.BigQuiet
import Derived.Deep.QuietTactic
import Derived.RegionTactic
import Derived.Lib.Hide
import Derived.Deep.Light
import Derived.Test.YtdkjfalhalepgaaJ2
import Derived.Deep.MidRow
namespace Go.Proofs.Ytdkjfalhalepgaa
open Go.RowKit
theorem infoIt : (Try.prog.info? ItT).map (fun i => (i.zero, i.size, i.bytes)) = some (some (.int .i64 0), 1, 8) := by kernel_rfl
theorem rowN_cell {w : World} {A : Option Addr} {t : TypeId} {L : List Int} {k : Nat} {x : Int} (h : RowN w A t irow' 1 L) (hx : L[k]? = some x) : ∃ g, A = some ⟨g, 0, none⟩ ∧ g < w.heap.size ∧ w.cell? ⟨g, k, none⟩ = some (.int .i64 x) := by
  obtain ⟨g, cur, hA, hb, hc⟩ := h k x hx
  refine ⟨g, hA, hb.lt, ?_⟩
  rw [hb.cell]
  have := hc 0 _ rfl
  simpa using this
theorem slotOk_yes {i : Int} : slotOk i = true ↔ 0 ≤ i ∧ i < 96 := by simp [slotOk]
theorem slotOk_no {i : Int} : slotOk i = false ↔ i < 0 ∨ 96 ≤ i := by simp [slotOk]; omega
abbrev RefM (w : World) (p gs go : Nat) (S : RSt) : Prop := RefAt w StT SlT ObT ItT p gs go S
/-- what lists of kids are: not long -/
def RSt.Short (S : RSt) : Prop := ∀ i : Int, (S.kids i).length ≤ 500
end Go.Proofs.Ytdkjfalhalepgaa
/- Link, Unlink, Leaf, Replace of the document's state (layer 10), as mathematics. -/
namespace Go.Proofs.Ytdkjfalhalepgaa
open Go.RowKit
def linkN (S : RSt) (k p : Int) : Int := if slotOk k = false ∨ slotOk p = false then 2 else if k = p ∨ 0 ≤ S.par k then 10 else 0
def linkS (S : RSt) (k p : Int) : RSt := if linkN S k p = 0 then { S with par := setF S.par k p, kids := setF S.kids p (k :: S.kids p) } else S
def unlinkN (k : Int) : Int := if slotOk k = false then 2 else 0
def unlinkS (S : RSt) (k : Int) : RSt := if slotOk k = true ∧ 0 ≤ S.par k then { S with kids := setF S.kids (S.par k) ((S.kids (S.par k)).erase k), par := setF S.par k (-1) } else S
/-- each time the first kid, so often at most -/
def leafR (K : Int → List Int) : Nat → Int → Int
  | 0, i => i
  | n + 1, i => match K i with
    | [] => i
    | x :: _ => leafR K n x
def leafS (S : RSt) (i : Int) : Int := if slotOk i = true then leafR S.kids 96 i else -1
def parsTo (P : Int → Int) (l : List Int) (b : Int) : Int → Int := l.foldl (fun P x => setF P x b) P
def kids1 (S : RSt) (a b : Int) : Int → List Int := if 0 ≤ S.par a then setF S.kids (S.par a) ((S.kids (S.par a)).map (swapK a b)) else S.kids
def replaceN (S : RSt) (a b : Int) : Int := if slotOk a = false ∨ slotOk b = false then 2 else if a = b ∨ 0 ≤ S.par b ∨ S.kids b ≠ [] then 10 else 0
def replaceOk (S : RSt) (a b : Int) : RSt :=
  { S with par := parsTo (setF (setF S.par b (S.par a)) a (-1)) (kids1 S a b a) b, kids := setF (setF (kids1 S a b) b (kids1 S a b a)) a [] }
def replaceS (S : RSt) (a b : Int) : RSt := if replaceN S a b = 0 then replaceOk S a b else S
end Go.Proofs.Ytdkjfalhalepgaa
/- Rights' mathematics (layer 3): what is derived, minted, mutated; what is within another one. No dump is read here. -/
namespace Go.Proofs.Ytdkjfalhalepgaa
open Go.RowKit
/-- the rights that both have -/
def andR (a b : Int) : Int := bits .and .i64 a b
/-- a sum of the first k rights that both have -/
def part (a b : Int) : Nat → Int
  | 0 => 0
  | k + 1 => part a b k + if a / 2 ^ k % 2 = 1 ∧ b / 2 ^ k % 2 = 1 then 2 ^ k else 0
def Cp.mint (c : Cp) (m b : Int) : Cp × Int :=
  if ¬ (c.may ∧ c.kind ≠ 0 ∧ 0 ≤ m ∧ m ≤ 7 ∧ 1 ≤ b ∧ b ≤ 65535) then (Cp.zero, 1) else if ¬ (c.kind = 3 ∨ c.kind = 4) then (Cp.zero, 5) else if c.badge ≠ 0 then (Cp.zero, 10)
  else (⟨c.kind, andR c.rights m, c.obj, b, c.guard, c.bits⟩, 0)
def Cp.mutate (c : Cp) (g n : Int) : Cp × Int :=
  if ¬ (c.may ∧ c.kind ≠ 0) then (Cp.zero, 1) else if c.kind ≠ 2 then (Cp.zero, 5) else if ¬ (Cp.mk c.kind c.rights c.obj c.badge g n).may then (Cp.zero, 1) else (⟨c.kind, c.rights, c.obj, c.badge, g, n⟩, 0)
/-- it may still be with other rights, and another badge -/
theorem Cp.may.with {c : Cp} (h : c.may) (hk : c.kind ≠ 0) {r b : Int} (hr0 : 0 ≤ r) (hr : r ≤ 7) (hb : mayBadge c.kind b) : (Cp.mk c.kind r c.obj b c.guard c.bits).may := by
  unfold Cp.may at h ⊢
  rw [if_neg hk] at h
  simp only
  rw [if_neg hk]
  exact ⟨h.1, ⟨hr0, hr⟩, h.2.2.1, hb, h.2.2.2.2⟩
theorem Cp.may.badge {c : Cp} (h : c.may) (hk : c.kind ≠ 0) : mayBadge c.kind c.badge := by
  unfold Cp.may at h
  rw [if_neg hk] at h
  exact h.2.2.2.1
end Go.Proofs.Ytdkjfalhalepgaa
/- What the document's own answer for layer 2 answers: Word alone. -/
namespace Go.Proofs.Ytdkjfalhalepgaa
open Go.RowKit
theorem refWord_any (c : Cp) (w : World) (h : c.Small) : Calls Try.prog 35 #[c.v] w fun e w' => e = .returned (.int .u64 c.word) ∧ Only [] w w' := by
  have hw := Cp.word_lt h
  obtain ⟨h1, h2, h3, h4, h5, h6, h7, h8, h9, h10, h11, h12⟩ := h
  unfold Cp.word at hw
  go_enter Try.func35, Try.ntmps35
  go_wp2
  go_ret
  exact ⟨by unfold Cp.word; rfl, (Only.refl _ _).alloc _⟩
end Go.Proofs.Ytdkjfalhalepgaa
/- The words of the document's state, as mathematics: which are put, one behind the other (layers 9 to 21). No dump is read here. -/
namespace Go.Proofs.Ytdkjfalhalepgaa
open Go.RowKit
/-- what kid number k of slot i puts -/
def kidW (i : Nat) (l : List Int) (k : Nat) : List (Int × Int) :=
  (if k = 0 then [(5 * (i : Int) + 2, l.getD k 0 + 1)] else [(5 * l.getD k 0 + 4, l.getD (k - 1) 0 + 1)]) ++ (if k + 1 < l.length then [(5 * l.getD k 0 + 3, l.getD (k + 1) 0 + 1)] else [])
/-- what slot i puts -/
def slotW (S : RSt) (i : Nat) : List (Int × Int) := [(5 * (i : Int), (S.cap i).word), (5 * (i : Int) + 1, S.par i + 1)] ++ (List.range (S.kids i).length).flatMap (kidW i (S.kids i))
theorem range_flat_succ {α : Type} (f : Nat → List α) (n : Nat) : (List.range (n + 1)).flatMap f = (List.range n).flatMap f ++ f n := by
  rw [List.range_succ, List.flatMap_append]
  simp
theorem applyW_step (f : Nat → List (Int × Int)) (n : Nat) (L : List Int) : applyW ((List.range (n + 1)).flatMap f) L = applyW (f n) (applyW ((List.range n).flatMap f) L) := by rw [range_flat_succ, applyW_append]
theorem applyW_slot (S : RSt) (i : Nat) (L : List Int) : applyW (slotW S i) L = applyW ((List.range (S.kids i).length).flatMap (kidW i (S.kids i))) (setL (setL L (5 * (i : Int)) (S.cap i).word) (5 * (i : Int) + 1) (S.par i + 1)) := rfl
end Go.Proofs.Ytdkjfalhalepgaa
/- Any view: how its two calls are reached, what they do to what it stands for, what of the memory it is made of (layers 9 and up: each function of a view is walked over this, once, for plain words and a record's view alike). -/
namespace Go.Proofs.Ytdkjfalhalepgaa
open Go.RowKit
/-- a view: Ok holds of what it stands for (what is read is a word), S are the blocks that its calls turn, R those that it is made of -/
structure VOk {σ : Type} (M : Mach σ) (T : TypeId) (v : Value) (fR fW : FuncId) (Mem : World → σ → Prop) (Ok : σ → Prop) (S R : List Nat) : Prop where
  mR : ∀ (n : Nat) (w : World), Sem.run Try.prog (method (n + 1) T v "Read") w = .ok (fR, v) w
  mW : ∀ (n : Nat) (w : World), Sem.run Try.prog (method (n + 1) T v "Write") w = .ok (fW, v) w
  nR : ∀ (n : Nat) (w : World), Sem.run Try.prog (nilAhead (n + 1) T v "Read") w = .ok (some false) w
  nW : ∀ (n : Nat) (w : World), Sem.run Try.prog (nilAhead (n + 1) T v "Write") w = .ok (some false) w
  eR : ∀ (args : Array Value) (w : World), (callFunc fR args).run Try.prog w = .ok (.enter fR args) w
  eW : ∀ (args : Array Value) (w : World), (callFunc fW args).run Try.prog w = .ok (.enter fW args) w
  rd : ∀ (w : World) (s : σ) (i : Int), Mem w s → Calls Try.prog fR #[v, .int .i64 i] w fun e w' => e = .returned (.int .u64 (M.rd s i).1) ∧ Mem w' (M.rd s i).2 ∧ Only S w w'
  wr : ∀ (w : World) (s : σ) (i x : Int), Mem w s → U64 x → Calls Try.prog fW #[v, .int .i64 i, .int .u64 x] w fun e w' => e = .returned (.tuple #[]) ∧ Mem w' (M.wr s i x) ∧ Only S w w'
  ok : ∀ (w : World) (s : σ), Mem w s → Ok s
  rng : ∀ (s : σ) (i : Int), Ok s → U64 (M.rd s i).1
  okR : ∀ (s : σ) (i : Int), Ok s → Ok (M.rd s i).2
  okW : ∀ (s : σ) (i x : Int), Ok s → U64 x → Ok (M.wr s i x)
  lt : ∀ (w : World) (s : σ) (k : Nat), Mem w s → k ∈ R → k < w.heap.size
  keep : ∀ (w w' : World) (s : σ) (S' : List Nat), Mem w s → Only S' w w' → (∀ k, k ∈ S' → k ∉ R) → Mem w' s
  sub : ∀ k, k ∈ S → k ∈ R
section
variable {σ : Type} {M : Mach σ} {T : TypeId} {v : Value} {fR fW : FuncId} {Mem : World → σ → Prop} {Ok : σ → Prop} {S R : List Nat} {w w' : World} {s : σ}
theorem VOk.drewN (V : VOk M T v fR fW Mem Ok S R) (h : Mem w s) (n : Nat) : Mem (w.drewN n) s := V.keep w _ s [] h ((Only.refl [] w).drewN n) (by simp)
theorem VOk.only0 (V : VOk M T v fR fW Mem Ok S R) (h : Mem w s) (ho : Only [] w w') : Mem w' s := V.keep w _ s [] h ho (by simp)
/-- what is new is no part of it -/
theorem VOk.fresh (V : VOk M T v fR fW Mem Ok S R) (h : Mem w s) {k : Nat} (hk : w.heap.size ≤ k) : k ∉ R := fun hm => by have := V.lt w s k h hm; omega
theorem VOk.freshS (V : VOk M T v fR fW Mem Ok S R) (h : Mem w s) {k : Nat} (hk : w.heap.size ≤ k) : k ∉ S := fun hm => V.fresh h hk (V.sub k hm)
/-- what is no part of it is put -/
theorem VOk.put (V : VOk M T v fR fW Mem Ok S R) (h : Mem w s) {k : Nat} (hk : k ∉ R) (i : Nat) (u : Value) : Mem (w.setCell ⟨k, i, none⟩ u) s :=
  V.keep w _ s [k] h ((Only.refl _ _).setCell (.inl (by simp)) _) (fun j hj => by simp at hj; subst hj; exact hk)
end
end Go.Proofs.Ytdkjfalhalepgaa
/- What a plain view's calls answer (layer 5's, for layer 6's laws): has, Read, Write. -/
namespace Go.Proofs.Ytdkjfalhalepgaa
open Go.RowKit
section
variable {A : Option Addr} {L : List Int} (cp : Nat) (w : World)
theorem phas_any (n : Nat) (A : Option Addr) (i : Int) : Calls Try.prog 112 #[.slice A n cp, .int .i64 i] w fun e w' => e = .returned (.bool (hasB n i)) ∧ w' = w := by
  go_enter Try.func112, Try.ntmps112
  go_wp2
  all_goals go_ret
  all_goals exact ⟨by simp [hasB, *] <;> omega, rfl⟩
theorem phas_is {n : Nat} {i : Int} {q : Bool} (A : Option Addr) (h : hasB n i = q) : Calls Try.prog 112 #[.slice A n cp, .int .i64 i] w fun e w' => e = .returned (.bool q) ∧ w' = w := h ▸ phas_any cp w n A i
theorem pread_any (h : Wds w A L) (i : Int) : Calls Try.prog 110 #[.slice A L.length cp, .int .i64 i] w fun e w' => e = .returned (.int .u64 (atL L i)) ∧ w' = w := by
  rcases atL_cases L i with ⟨k, x, rfl, hx, hv, hb⟩ | ⟨ho, hv, hb⟩
  · have hk := (List.getElem?_eq_some_iff.1 hx).1
    obtain ⟨b, off, rfl, hlt, hc⟩ := h k x hx
    have B := Lib.hid hb
    clear hb h hx
    rw [hv]
    clear hv
    go_enter Try.func110, Try.ntmps110
    go_wp2_with (go_at_call 112; refine (phas_is _ _ _ B.out).mono ?_; rintro e w' ⟨rfl, rfl⟩)
    go_ret
    exact ⟨rfl, rfl⟩
  · have B := Lib.hid hb
    clear hb h ho
    rw [hv]
    clear hv
    go_enter Try.func110, Try.ntmps110
    go_wp2_with (go_at_call 112; refine (phas_is _ _ _ B.out).mono ?_; rintro e w' ⟨rfl, rfl⟩)
    go_ret
    exact ⟨rfl, rfl⟩
theorem pwrite_any {g : Nat} {t : TypeId} (h : RowU w g t L) (i v : Int) : Calls Try.prog 111 #[.slice (some ⟨g, 0, none⟩) L.length cp, .int .i64 i, .int .u64 v] w fun e w' => e = .returned (.tuple #[]) ∧ w' = wrW w g L.length i v := by
  rcases atL_cases L i with ⟨k, x, rfl, hx, -, hb⟩ | ⟨ho, -, hb⟩
  · have hk := (List.getElem?_eq_some_iff.1 hx).1
    obtain ⟨b, off, e0, hlt, hc⟩ := h.wds k x hx
    injection e0 with e0
    injection e0 with e1 e2 _
    subst e1 e2
    rw [Nat.zero_add] at hc
    have hf := h.frozen k
    have hW : wrW w g L.length k v = w.setCell ⟨g, k, none⟩ (.int .u64 v) := by simp [wrW, hb]
    have B := Lib.hid hb
    clear hb h hx
    rw [hW]
    clear hW
    go_enter Try.func111, Try.ntmps111
    go_wp2_with (go_at_call 112; refine (phas_is _ _ _ B.out).mono ?_; rintro e w' ⟨rfl, rfl⟩)
    go_end0
    exact ⟨rfl, rfl⟩
  · have hW : wrW w g L.length i v = w := by simp [wrW, hb]
    have B := Lib.hid hb
    clear hb h ho
    rw [hW]
    clear hW
    go_enter Try.func111, Try.ntmps111
    go_wp2_with (go_at_call 112; refine (phas_is _ _ _ B.out).mono ?_; rintro e w' ⟨rfl, rfl⟩)
    go_end0
    exact ⟨rfl, rfl⟩
end
end Go.Proofs.Ytdkjfalhalepgaa
/- Plain words of one's own as a view (layers 9 and up). -/
namespace Go.Proofs.Ytdkjfalhalepgaa
open Go.RowKit
theorem meth_pread (n : Nat) (v : Value) (w : World) : Sem.run Try.prog (method (n + 1) 27 v "Read") w = .ok (110, v) w := by kernel_rfl
theorem meth_pwrite (n : Nat) (v : Value) (w : World) : Sem.run Try.prog (method (n + 1) 27 v "Write") w = .ok (111, v) w := by kernel_rfl
theorem nil_pread (n : Nat) (v : Value) (w : World) : Sem.run Try.prog (nilAhead (n + 1) 27 v "Read") w = .ok (some false) w := by kernel_rfl
theorem nil_pwrite (n : Nat) (v : Value) (w : World) : Sem.run Try.prog (nilAhead (n + 1) 27 v "Write") w = .ok (some false) w := by kernel_rfl
theorem enterPR (args : Array Value) (w : World) : (callFunc 110 args).run Try.prog w = .ok (.enter 110 args) w := by kernel_rfl
theorem enterPW (args : Array Value) (w : World) : (callFunc 111 args).run Try.prog w = .ok (.enter 111 args) w := by kernel_rfl
/-- plain words of one's own, in block g -/
structure MemP (g nn : Nat) (t : TypeId) (w : World) (L : List Int) : Prop where
  len : L.length = nn
  row : RowU w g t L
  us : Us L
theorem viewP (g nn cap : Nat) (t : TypeId) :
    VOk machP 27 (.slice (some ⟨g, 0, none⟩) nn cap) 110 111 (MemP g nn t) Us [g] [g] where
  mR := fun n w => meth_pread n _ w
  mW := fun n w => meth_pwrite n _ w
  nR := fun n w => nil_pread n _ w
  nW := fun n w => nil_pwrite n _ w
  eR := enterPR
  eW := enterPW
  rd := fun w L i ⟨hl, hr, hu⟩ => by
    subst hl
    exact (pread_any cap w hr.wds i).mono fun e w' ⟨he, hw⟩ => by subst hw; exact ⟨he, ⟨rfl, hr, hu⟩, Only.refl _ _⟩
  wr := fun w L i x ⟨hl, hr, hu⟩ hx => by
    subst hl
    exact (pwrite_any cap w hr i x).mono fun e w' ⟨he, hw⟩ => by subst hw; exact ⟨he, ⟨setL_length L i x, hr.wr i x, hu.set i hx⟩, wrW_only _ _ _ _ _⟩
  ok := fun _ _ h => h.us
  rng := fun _ i h => h.atL i
  okR := fun _ _ h => h
  okW := fun _ i _ h hx => h.set i hx
  lt := fun w L k h hk => by
    obtain rfl : k = g := by simpa using hk
    exact h.row.lt
  keep := fun w w' L S' h ho hS => ⟨h.len, h.row.only ho (fun hm => hS g hm (by simp)), h.us⟩
  sub := fun k hk => hk
end Go.Proofs.Ytdkjfalhalepgaa
/- 738 zeros of one's own, a word of one's own words read and put (layers 9 and up). -/
namespace Go.Proofs.Ytdkjfalhalepgaa
open Go.RowKit
abbrev UT : TypeId := 76
def u64row (v : Int) : List Value := [.int .u64 v]
theorem infoU64 : (Try.prog.info? 76).map (fun i => (i.zero, i.size, i.bytes)) = some (some (.int .u64 0), 1, 8) := by kernel_rfl
theorem rowU_flat {w : World} {g : Nat} {t : TypeId} {L : List Int} (h : Blk w g t (flat u64row L)) : RowU w g t L := ⟨_, h, fun k x hk => by
  have := flat_at (f := u64row) (i := k) (n := 1) (j := 0) (L := L) (fun _ => rfl) hk rfl
  simpa using this⟩
/-- zeros -/
def zeros : List Int := List.replicate 738 0
theorem zeros_us : Us zeros := fun x hx => by
  obtain rfl := List.eq_of_mem_replicate hx
  exact ⟨by omega, by omega⟩
theorem zeros_at (i : Int) : atL zeros i = 0 := by
  rcases atL_cases zeros i with ⟨k, x, rfl, hx, hv, -⟩ | ⟨-, hv, -⟩
  · rw [hv]
    exact List.eq_of_mem_replicate (List.mem_of_getElem? hx)
  · exact hv
theorem zeros_len : zeros.length = 738 := List.length_replicate
theorem MemP.cell {g : Nat} {t : TypeId} {w : World} {L : List Int} {nn m : Nat} (h : MemP g nn t w L) (hm : m < nn) : w.cell? ⟨g, m, none⟩ = some (.int .u64 (atL L m)) := by
  have hx : L[m]? = some (L[m]'(by rw [h.len]; exact hm)) := List.getElem?_eq_getElem _
  obtain ⟨b, off, e0, -, hc⟩ := h.row.wds m _ hx
  injection e0 with e0
  injection e0 with e1 e2 _
  subst e1 e2
  rw [Nat.zero_add] at hc
  rw [hc, atL_in hx]
theorem MemP.put {g : Nat} {t : TypeId} {w : World} {L : List Int} {nn m : Nat} {x : Int} (h : MemP g nn t w L) (hm : m < nn) (hx : U64 x) : MemP g nn t (w.setCell ⟨g, m, none⟩ (.int .u64 x)) (setL L m x) :=
  ⟨by rw [setL_length]; exact h.len, h.row.set_ (by rw [h.len]; exact hm) x, h.us.set m hx⟩
theorem MemP.only {g : Nat} {t : TypeId} {w w' : World} {L : List Int} {nn : Nat} {F : List Nat} (h : MemP g nn t w L) (ho : Only F w w') (hg : g ∉ F) : MemP g nn t w' L := ⟨h.len, h.row.only ho hg, h.us⟩
end Go.Proofs.Ytdkjfalhalepgaa
/- Words of the document's state (layers 9 and 10: no object is anything): all words. -/
namespace Go.Proofs.Ytdkjfalhalepgaa
open Go.RowKit
/-- what words can tell -/
structure RSt.Fit (S : RSt) : Prop where
  cap : ∀ i, InS i → (S.cap i).Small
  par : ∀ i, InS i → -1 ≤ S.par i ∧ S.par i < 96
  kids : ∀ i, InS i → ∀ x, x ∈ S.kids i → InS x
  ns : U64 S.ns
  no : U64 S.no
theorem gd {l : List Int} {i : Nat} {x : Int} (h : l[i]? = some x) : l.getD i 0 = x := by rw [List.getD_eq_getElem?_getD, h]; rfl
theorem wordU64 {c : Cp} (h : c.Small) : U64 c.word := by
  have := Cp.word_lt h
  obtain ⟨h1, h2, h3, h4, h5, h6, h7, h8, h9, h10, h11, h12⟩ := h
  unfold Cp.word at this ⊢
  exact ⟨by omega, by omega⟩
section
variable {w : World} {p gs go : Nat} {S : RSt}
theorem RefAt.cSlot (h : RefM w p gs go S) {i : Nat} (hi : i < 96) : ∃ A cp, RowN w A ItT irow' 1 (S.kids i) ∧ ∀ (j : Nat) (v : Value), (slotRow (S.cap i) (S.par i) (.slice A (S.kids i).length cp))[j]? = some v → w.cell? ⟨gs, i * 8 + j, none⟩ = some v := by
  obtain ⟨-, ⟨cur, h2, h3⟩, -⟩ := h
  obtain ⟨kv, q1, A, cp, rfl, q2⟩ := h3 i hi
  exact ⟨A, cp, q2, fun j v hv => by rw [h2.cell]; exact q1 j v hv⟩
end
end Go.Proofs.Ytdkjfalhalepgaa
