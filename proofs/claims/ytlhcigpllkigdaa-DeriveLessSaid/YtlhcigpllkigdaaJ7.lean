/- Link, Unlink, Leaf, Replace of the document's state (layer 10), as mathematics. -/
import Derived.Test.YtlhcigpllkigdaaRefRow
import Derived.Test.YtlhcigpllkigdaaRows
import Derived.Test.YtlhcigpllkigdaaPackM
import Derived.Test.YtlhcigpllkigdaaMem
import Derived.WalkKit
import Derived.WalkSpells
import Derived.WalkLawsBesides
import Derived.Handy
import Derived.BigQuiet
import Derived.Deep.QuietTactic
import Derived.RegionTactic
import Derived.Lib.Hide
import Derived.Deep.Light
import Derived.Test.YtlhcigpllkigdaaRefStM
import Derived.Test.YtlhcigpllkigdaaViewM
import Derived.Test.YtlhcigpllkigdaaJ2
namespace Go.Proofs.Ytlhcigpllkigdaa
open Go.RowKit
def linkN (S : RSt) (k p : Int) : Int := if slotOk k = false ∨ slotOk p = false then 2 else if k = p ∨ 0 ≤ S.par k then 10 else 0
def linkS (S : RSt) (k p : Int) : RSt := if linkN S k p = 0 then { S with par := setF S.par k p, kids := setF S.kids p (k :: S.kids p) } else S
def unlinkN (k : Int) : Int := if slotOk k = false then 2 else 0
def unlinkS (S : RSt) (k : Int) : RSt := if slotOk k = true ∧ 0 ≤ S.par k then { S with kids := setF S.kids (S.par k) ((S.kids (S.par k)).erase k), par := setF S.par k (-1) } else S
/-- parents are slots, or none -/
def RSt.Pars (S : RSt) : Prop := ∀ i : Int, S.par i < 96
/-- each time the first kid, so often at most -/
def leafR (K : Int → List Int) : Nat → Int → Int
  | 0, i => i
  | n + 1, i => match K i with
    | [] => i
    | x :: _ => leafR K n x
def leafS (S : RSt) (i : Int) : Int := if slotOk i = true then leafR S.kids 96 i else -1
theorem leafR_nil {K : Int → List Int} {n : Nat} {i : Int} (h : K i = []) : leafR K n i = i := by
  cases n with
  | zero => rfl
  | succ n => simp [leafR, h]
theorem leafR_cons {K : Int → List Int} {n : Nat} {i x : Int} {l : List Int} (h : K i = x :: l) : leafR K (n + 1) i = leafR K n x := by simp [leafR, h]
/-- kids are slots -/
def RSt.KidsIn (S : RSt) : Prop := ∀ i : Int, InS i → ∀ x, x ∈ S.kids i → InS x
def parsTo (P : Int → Int) (l : List Int) (b : Int) : Int → Int := l.foldl (fun P x => setF P x b) P
theorem parsTo_snoc (P : Int → Int) (l : List Int) (x b : Int) : parsTo P (l ++ [x]) b = setF (parsTo P l b) x b := by simp [parsTo]
def kids1 (S : RSt) (a b : Int) : Int → List Int := if 0 ≤ S.par a then setF S.kids (S.par a) ((S.kids (S.par a)).map (swapK a b)) else S.kids
def replaceN (S : RSt) (a b : Int) : Int := if slotOk a = false ∨ slotOk b = false then 2 else if a = b ∨ 0 ≤ S.par b ∨ S.kids b ≠ [] then 10 else 0
def replaceOk (S : RSt) (a b : Int) : RSt :=
  { S with par := parsTo (setF (setF S.par b (S.par a)) a (-1)) (kids1 S a b a) b, kids := setF (setF (kids1 S a b) b (kids1 S a b a)) a [] }
def replaceS (S : RSt) (a b : Int) : RSt := if replaceN S a b = 0 then replaceOk S a b else S
end Go.Proofs.Ytlhcigpllkigdaa
/- What the document's own answer for layer 2 answers: Word alone. -/
namespace Go.Proofs.Ytlhcigpllkigdaa
open Go.RowKit
theorem refWord_any (c : Cp) (w : World) (h : c.Small) : Calls Try.prog 15 #[c.v] w fun e w' => e = .returned (.int .u64 c.word) ∧ Only [] w w' := by
  have hw := Cp.word_lt h
  obtain ⟨h1, h2, h3, h4, h5, h6, h7, h8, h9, h10, h11, h12⟩ := h
  unfold Cp.word at hw
  go_enter Try.func15, Try.ntmps15
  go_wp2
  go_ret
  exact ⟨by unfold Cp.word; rfl, (Only.refl _ _).alloc _⟩
end Go.Proofs.Ytlhcigpllkigdaa
/- The words of the document's state, as mathematics: which are put, one behind the other (layers 9 to 21). No dump is read here. -/
namespace Go.Proofs.Ytlhcigpllkigdaa
open Go.RowKit
/-- what kid number k of slot i puts -/
def kidW (i : Nat) (l : List Int) (k : Nat) : List (Int × Int) :=
  (if k = 0 then [(5 * (i : Int) + 2, l.getD k 0 + 1)] else [(5 * l.getD k 0 + 4, l.getD (k - 1) 0 + 1)]) ++ (if k + 1 < l.length then [(5 * l.getD k 0 + 3, l.getD (k + 1) 0 + 1)] else [])
/-- what slot i puts -/
def slotW (S : RSt) (i : Nat) : List (Int × Int) := [(5 * (i : Int), (S.cap i).word), (5 * (i : Int) + 1, S.par i + 1)] ++ (List.range (S.kids i).length).flatMap (kidW i (S.kids i))
theorem range_flat_succ {α : Type} (f : Nat → List α) (n : Nat) : (List.range (n + 1)).flatMap f = (List.range n).flatMap f ++ f n := by
  rw [List.range_succ, List.flatMap_append]
  simp
theorem applyW_step (f : Nat → List (Int × Int)) (n : Nat) (L : List Int) : applyW ((List.range (n + 1)).flatMap f) L = applyW (f n) (applyW ((List.range n).flatMap f) L) := by rw [range_flat_succ, applyW_append]
theorem applyW_slot (S : RSt) (i : Nat) (L : List Int) : applyW (slotW S i) L = applyW ((List.range (S.kids i).length).flatMap (kidW i (S.kids i))) (setL (setL L (5 * (i : Int)) (S.cap i).word) (5 * (i : Int) + 1) (S.par i + 1)) := rfl
end Go.Proofs.Ytlhcigpllkigdaa
/- What a plain view's calls answer (layer 5's, for layer 6's laws): has, Read, Write. -/
namespace Go.Proofs.Ytlhcigpllkigdaa
open Go.RowKit
section
variable {A : Option Addr} {L : List Int} (cp : Nat) (w : World)
theorem phas_any (n : Nat) (A : Option Addr) (i : Int) : Calls Try.prog 76 #[.slice A n cp, .int .i64 i] w fun e w' => e = .returned (.bool (hasB n i)) ∧ w' = w := by
  go_enter Try.func76, Try.ntmps76
  go_wp2
  all_goals go_ret
  all_goals exact ⟨by simp [hasB, *] <;> omega, rfl⟩
theorem phas_is {n : Nat} {i : Int} {q : Bool} (A : Option Addr) (h : hasB n i = q) : Calls Try.prog 76 #[.slice A n cp, .int .i64 i] w fun e w' => e = .returned (.bool q) ∧ w' = w := h ▸ phas_any cp w n A i
theorem pread_any (h : Wds w A L) (i : Int) : Calls Try.prog 74 #[.slice A L.length cp, .int .i64 i] w fun e w' => e = .returned (.int .u64 (atL L i)) ∧ w' = w := by
  rcases atL_cases L i with ⟨k, x, rfl, hx, hv, hb⟩ | ⟨ho, hv, hb⟩
  · have hk := (List.getElem?_eq_some_iff.1 hx).1
    obtain ⟨b, off, rfl, hlt, hc⟩ := h k x hx
    have B := Lib.hid hb
    clear hb h hx
    rw [hv]
    clear hv
    go_enter Try.func74, Try.ntmps74
    go_wp2_with (go_at_call 76; refine (phas_is _ _ _ B.out).mono ?_; rintro e w' ⟨rfl, rfl⟩)
    go_ret
    exact ⟨rfl, rfl⟩
  · have B := Lib.hid hb
    clear hb h ho
    rw [hv]
    clear hv
    go_enter Try.func74, Try.ntmps74
    go_wp2_with (go_at_call 76; refine (phas_is _ _ _ B.out).mono ?_; rintro e w' ⟨rfl, rfl⟩)
    go_ret
    exact ⟨rfl, rfl⟩
theorem pread_is (h : Wds w A L) {i x : Int} (hx : atL L i = x) : Calls Try.prog 74 #[.slice A L.length cp, .int .i64 i] w fun e w' => e = .returned (.int .u64 x) ∧ w' = w := hx ▸ pread_any cp w h i
theorem pwrite_any {g : Nat} {t : TypeId} (h : RowU w g t L) (i v : Int) : Calls Try.prog 75 #[.slice (some ⟨g, 0, none⟩) L.length cp, .int .i64 i, .int .u64 v] w fun e w' => e = .returned (.tuple #[]) ∧ w' = wrW w g L.length i v := by
  rcases atL_cases L i with ⟨k, x, rfl, hx, -, hb⟩ | ⟨ho, -, hb⟩
  · have hk := (List.getElem?_eq_some_iff.1 hx).1
    obtain ⟨b, off, e0, hlt, hc⟩ := h.wds k x hx
    injection e0 with e0
    injection e0 with e1 e2 _
    subst e1 e2
    rw [Nat.zero_add] at hc
    have hf := h.frozen k
    have hW : wrW w g L.length k v = w.setCell ⟨g, k, none⟩ (.int .u64 v) := by simp [wrW, hb]
    have B := Lib.hid hb
    clear hb h hx
    rw [hW]
    clear hW
    go_enter Try.func75, Try.ntmps75
    go_wp2_with (go_at_call 76; refine (phas_is _ _ _ B.out).mono ?_; rintro e w' ⟨rfl, rfl⟩)
    go_end0
    exact ⟨rfl, rfl⟩
  · have hW : wrW w g L.length i v = w := by simp [wrW, hb]
    have B := Lib.hid hb
    clear hb h ho
    rw [hW]
    clear hW
    go_enter Try.func75, Try.ntmps75
    go_wp2_with (go_at_call 76; refine (phas_is _ _ _ B.out).mono ?_; rintro e w' ⟨rfl, rfl⟩)
    go_end0
    exact ⟨rfl, rfl⟩
end
end Go.Proofs.Ytlhcigpllkigdaa
/- Plain words of one's own as a view (layers 9 and up). -/
namespace Go.Proofs.Ytlhcigpllkigdaa
open Go.RowKit
theorem meth_pread (n : Nat) (v : Value) (w : World) : Sem.run Try.prog (method (n + 1) 25 v "Read") w = .ok (74, v) w := by kernel_rfl
theorem meth_pwrite (n : Nat) (v : Value) (w : World) : Sem.run Try.prog (method (n + 1) 25 v "Write") w = .ok (75, v) w := by kernel_rfl
theorem nil_pread (n : Nat) (v : Value) (w : World) : Sem.run Try.prog (nilAhead (n + 1) 25 v "Read") w = .ok (some false) w := by kernel_rfl
theorem nil_pwrite (n : Nat) (v : Value) (w : World) : Sem.run Try.prog (nilAhead (n + 1) 25 v "Write") w = .ok (some false) w := by kernel_rfl
theorem enterPR (args : Array Value) (w : World) : (callFunc 74 args).run Try.prog w = .ok (.enter 74 args) w := by kernel_rfl
theorem enterPW (args : Array Value) (w : World) : (callFunc 75 args).run Try.prog w = .ok (.enter 75 args) w := by kernel_rfl
/-- plain words of one's own, in block g -/
structure MemP (g nn : Nat) (t : TypeId) (w : World) (L : List Int) : Prop where
  len : L.length = nn
  row : RowU w g t L
  us : Us L
theorem viewP (g nn cap : Nat) (t : TypeId) :
    VOk machP 25 (.slice (some ⟨g, 0, none⟩) nn cap) 74 75 (MemP g nn t) Us [g] [g] where
  mR := fun n w => meth_pread n _ w
  mW := fun n w => meth_pwrite n _ w
  nR := fun n w => nil_pread n _ w
  nW := fun n w => nil_pwrite n _ w
  eR := enterPR
  eW := enterPW
  rd := fun w L i ⟨hl, hr, hu⟩ => by
    subst hl
    exact (pread_any cap w hr.wds i).mono fun e w' ⟨he, hw⟩ => by subst hw; exact ⟨he, ⟨rfl, hr, hu⟩, Only.refl _ _⟩
  wr := fun w L i x ⟨hl, hr, hu⟩ hx => by
    subst hl
    exact (pwrite_any cap w hr i x).mono fun e w' ⟨he, hw⟩ => by subst hw; exact ⟨he, ⟨setL_length L i x, hr.wr i x, hu.set i hx⟩, wrW_only _ _ _ _ _⟩
  ok := fun _ _ h => h.us
  rng := fun _ i h => h.atL i
  okR := fun _ _ h => h
  okW := fun _ i _ h hx => h.set i hx
  lt := fun w L k h hk => by
    obtain rfl : k = g := by simpa using hk
    exact h.row.lt
  keep := fun w w' L S' h ho hS => ⟨h.len, h.row.only ho (fun hm => hS g hm (by simp)), h.us⟩
  sub := fun k hk => hk
end Go.Proofs.Ytlhcigpllkigdaa
/- 738 zeros of one's own, a word of one's own words read and put (layers 9 and up). -/
namespace Go.Proofs.Ytlhcigpllkigdaa
open Go.RowKit
abbrev UT : TypeId := 58
def u64row (v : Int) : List Value := [.int .u64 v]
theorem infoU64 : (Try.prog.info? 58).map (fun i => (i.zero, i.size, i.bytes)) = some (some (.int .u64 0), 1, 8) := by kernel_rfl
theorem rowU_flat {w : World} {g : Nat} {t : TypeId} {L : List Int} (h : Blk w g t (flat u64row L)) : RowU w g t L := ⟨_, h, fun k x hk => by
  have := flat_at (f := u64row) (i := k) (n := 1) (j := 0) (L := L) (fun _ => rfl) hk rfl
  simpa using this⟩
/-- zeros -/
def zeros : List Int := List.replicate 738 0
theorem zeros_us : Us zeros := fun x hx => by
  obtain rfl := List.eq_of_mem_replicate hx
  exact ⟨by omega, by omega⟩
theorem zeros_at (i : Int) : atL zeros i = 0 := by
  rcases atL_cases zeros i with ⟨k, x, rfl, hx, hv, -⟩ | ⟨-, hv, -⟩
  · rw [hv]
    exact List.eq_of_mem_replicate (List.mem_of_getElem? hx)
  · exact hv
theorem zeros_get {m : Nat} (h : m < 738) : zeros[m]? = some 0 := by unfold zeros; rw [List.getElem?_replicate, if_pos h]
theorem zeros_len : zeros.length = 738 := List.length_replicate
theorem MemP.cell {g : Nat} {t : TypeId} {w : World} {L : List Int} {nn m : Nat} (h : MemP g nn t w L) (hm : m < nn) : w.cell? ⟨g, m, none⟩ = some (.int .u64 (atL L m)) := by
  have hx : L[m]? = some (L[m]'(by rw [h.len]; exact hm)) := List.getElem?_eq_getElem _
  obtain ⟨b, off, e0, -, hc⟩ := h.row.wds m _ hx
  injection e0 with e0
  injection e0 with e1 e2 _
  subst e1 e2
  rw [Nat.zero_add] at hc
  rw [hc, atL_in hx]
theorem MemP.put {g : Nat} {t : TypeId} {w : World} {L : List Int} {nn m : Nat} {x : Int} (h : MemP g nn t w L) (hm : m < nn) (hx : U64 x) : MemP g nn t (w.setCell ⟨g, m, none⟩ (.int .u64 x)) (setL L m x) :=
  ⟨by rw [setL_length]; exact h.len, h.row.set_ (by rw [h.len]; exact hm) x, h.us.set m hx⟩
theorem MemP.only {g : Nat} {t : TypeId} {w w' : World} {L : List Int} {nn : Nat} {F : List Nat} (h : MemP g nn t w L) (ho : Only F w w') (hg : g ∉ F) : MemP g nn t w' L := ⟨h.len, h.row.only ho hg, h.us⟩
end Go.Proofs.Ytlhcigpllkigdaa
