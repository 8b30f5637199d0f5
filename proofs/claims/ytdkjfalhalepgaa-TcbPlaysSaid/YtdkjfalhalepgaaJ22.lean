/- Plain words and a sound state of the document side by side in memory (layers 12 to 21): the words are the state's. -/
import Derived.Test.YtdkjfalhalepgaaJ7
import Derived.Test.YtdkjfalhalepgaaRefSame
import Derived.Test.YtdkjfalhalepgaaJ15
import Derived.Test.YtdkjfalhalepgaaRows
import Derived.WalkKit
import Derived.WalkSpells
import Derived.WalkLawsBesides
import Derived.Handy
import Derived.BigQuiet
import Derived.Deep.QuietTactic
import Derived.RegionTactic
import Derived.Lib.IfaceEq
import Derived.Lib.IfaceNeq
import Derived.Lib.Hide
import Derived.Deep.Light
import Derived.Test.YtdkjfalhalepgaaJ13
import Derived.Laws.StructEq
import Derived.KernelRfl
namespace Go.Proofs.Ytdkjfalhalepgaa
open Go.RowKit
section
variable {w w' w0 : World} {g p gs go n : Nat} {L : List Int} {S S' : RSt}
theorem RefAt.blkG (h : RefM w p gs go S) : (∃ cur, Blk w gs SlT cur) ∧ ∃ cur, Blk w go ObT cur := by obtain ⟨-, ⟨cur, h2, -⟩, ⟨cur', h3, -⟩⟩ := h; exact ⟨⟨cur, h2⟩, cur', h3⟩
theorem apartG (h : RefM w p gs go S) (hm : MemP g n UT w L) (ho : Only [g] w w') : RefM w' p gs go S := by
  obtain ⟨cur, hb⟩ := hm.blkG
  obtain ⟨⟨cs, co, h1⟩, ⟨cs', h2, -⟩, ⟨co', h3, -⟩⟩ := id h
  refine h.only ho ?_ ?_ ?_ ?_
  · intro e; simp at e; subst e; exact absurd (hb.uniq h1).1 (by decide)
  · intro e; simp at e; subst e; exact absurd (hb.uniq h2).1 (by decide)
  · intro e; simp at e; subst e; exact absurd (hb.uniq h3).1 (by decide)
  · intro k cur' hk e; simp at e; subst e; exact absurd (hb.uniq hk).1 (by decide)
/-- what a law has made: words, a state that is sound, the words the state's -/
structure Duet (w0 w : World) (p gs go g : Nat) (S : RSt) : Prop where
  mem : MemP g 738 UT w (wordsG S)
  ref : RefM w p gs go S
  sok : Sok S
  only : Only [] w0 w
  ng : w0.heap.size ≤ g
  np : w0.heap.size ≤ p
  ns : w0.heap.size ≤ gs
  no : w0.heap.size ≤ go
theorem Duet.only0 (h : Duet w0 w p gs go g S) (ho : Only [] w w') : Duet w0 w' p gs go g S := ⟨h.mem.only ho (by simp), h.ref.only0 ho, h.sok, h.only.trans ho, h.ng, h.np, h.ns, h.no⟩
theorem Duet.read (h : Duet w0 w p gs go g S) (hm : MemP g 738 UT w' (wordsG S)) (ho : Only [g] w w') : Duet w0 w' p gs go g S :=
  ⟨hm, apartG h.ref h.mem ho, h.sok, h.only.then ho (fun x hx => .inr (by have := h.ng; simp at hx; omega)), h.ng, h.np, h.ns, h.no⟩
/-- the words are apart from the state -/
theorem Duet.away (h : Duet w0 w p gs go g S) : g ∉ [p, gs, go] := by
  obtain ⟨cur, hb⟩ := h.mem.blkG
  obtain ⟨⟨cs, co, h1⟩, ⟨cs', h2, -⟩, ⟨co', h3, -⟩⟩ := id h.ref
  have e1 := hb.ne_ h1 (by decide)
  have e2 := hb.ne_ h2 (by decide)
  have e3 := hb.ne_ h3 (by decide)
  simp
  exact ⟨e1, e2, e3⟩
/-- a call on the words, then its like on the state -/
theorem Duet.both {w1 w2 : World} {F : List Nat} (h : Duet w0 w p gs go g S) (hm : MemP g 738 UT w1 (wordsG S')) (ho : Only [g] w w1) (hr : RefM w2 p gs go S') (ho2 : Only F w1 w2) (hF : ∀ x, x ∈ F → x ∈ [p, gs, go]) (hs : Sok S') : Duet w0 w2 p gs go g S' :=
  ⟨hm.only ho2 (fun e => h.away (hF g e)), hr, hs, (h.only.then ho (fun x hx => .inr (by have := h.ng; simp at hx; omega))).then ho2 (fun x hx => .inr (by
    have e := hF x hx
    have h1 := h.np
    have h2 := h.ns
    have h3 := h.no
    simp at e
    omega)), h.ng, h.np, h.ns, h.no⟩
/-- a row of one's own that is neither the words nor the state's slots -/
theorem Duet.keep {t : TypeId} {k : Nat} {cs : Array Value} (h : Duet w0 w p gs go g S) (ht : t ≠ UT) (hb : Blk w k t cs) (ho : Only [g] w w') : Blk w' k t cs := by
  obtain ⟨cur, hg⟩ := h.mem.blkG
  exact ho.blk hb (fun e => by simp at e; exact hb.ne_ hg ht e)
/-- Same of like words -/
theorem sameG_yes {A B : Option Addr} (cp cq : Nat) (hl : L.length = 738) (hA : Wds w A L) (hB : Wds w B L) :
    Calls Try.prog 27 #[.slice A 738 cp, .slice B 738 cq] w fun e w' => e = .returned (.bool true) ∧ Only [] w w' := by
  have h := same_any cp cq hA hB (by omega)
  rw [hl, decide_eq_true rfl] at h
  exact h
end
end Go.Proofs.Ytdkjfalhalepgaa
/- The number of an error, as the statements read it. -/
namespace Go.Proofs.Ytdkjfalhalepgaa
open Go.RowKit
/-- the number of an error, as the statements read it -/
theorem code_nil (w : World) : Calls Try.prog 26 #[.nilIface] w fun e w' => e = .returned (.int .i64 0) ∧ w = w' := by
  go_enter Try.func26, Try.ntmps26
  go_wp2
  go_ret
  exact ⟨rfl, rfl⟩
theorem code_some (c : Int) (w : World) (h1 : 1 ≤ c) (h2 : c ≤ 14) : Calls Try.prog 26 #[.iface 70 (.int .i64 c)] w fun e w' => e = .returned (.int .i64 c) ∧ w = w' := by
  have hq := fun (a : Int) (W : World) => Lib.run_eql_iface_int (P := Try.prog) W (t := 35) (tx := 70) (k := .i64) c a Try.underlying35 (by kernel_rfl) Try.underlying70
  go_enter Try.func26, Try.ntmps26
  go_wp2
  go_loop [3] (fun i => ∃ k : Nat, 1 ≤ k ∧ (k : Int) ≤ c ∧ i = .int .i64 k) (fun i => (15 - intOf i).toNat)
  case atStart => exact ⟨1, by omega, by omega, rfl⟩
  case round =>
    obtain ⟨k, hk1, hk2, rfl⟩ := hrel
    by_cases hlt : (k : Int) = c
    · have hd : (c == (k : Int)) = true := by simp [hlt]
      have H := Lib.hid hlt
      clear hlt
      go_wp2
      go_ret
      exact ⟨by rw [← H.out]; rfl, rfl⟩
    · have hd : (c == (k : Int)) = false := by simp; omega
      have hlt' : (k : Int) < c := by omega
      clear hlt
      go_wp2
      go_round
      case rel => exact ⟨k + 1, by omega, by omega, by go_num⟩
      case measure => simp [intOf]; omega
end Go.Proofs.Ytdkjfalhalepgaa
/- An error by its number, and the number that the statements read of it. -/
namespace Go.Proofs.Ytdkjfalhalepgaa
open Go.RowKit
theorem code_any {n : Int} (h : n = 0 ∨ (1 ≤ n ∧ n ≤ 14)) (w : World) : Calls Try.prog 26 #[errV n] w fun e w' => e = .returned (.int .i64 n) ∧ w = w' := by
  rcases h with rfl | ⟨h1, h2⟩
  · exact code_nil w
  · unfold errV
    rw [if_neg (by omega)]
    exact code_some n w h1 h2
end Go.Proofs.Ytdkjfalhalepgaa
/- Two capabilities that are one and the same, compared. -/
namespace Go.Proofs.Ytdkjfalhalepgaa
open Go.RowKit
theorem cap_eql (a b c d e f : Int) (w : World) : (binOp .eql 30 (.agg #[.int .i64 a, .int .i64 b, .int .i64 c, .int .i64 d, .int .i64 e, .int .i64 f]) (.agg #[.int .i64 a, .int .i64 b, .int .i64 c, .int .i64 d, .int .i64 e, .int .i64 f])).run Try.prog w = .ok (.bool true) w := by
  have u3 := Try.underlying3
  have a3 := Try.isAgg3
  have z3 := Try.sizeOf3
  have u4 := Try.underlying116
  have a4 := Try.isAgg116
  have z4 := Try.sizeOf116
  have u5 := Try.underlying76
  have a5 := Try.isAgg76
  have z5 := Try.sizeOf76
  have hS : Try.prog.underlying 30 = some (.struct (Try.prog.fieldsOf 30)) := by kernel_rfl
  have hp : Try.prog.stoodInHeld 30 = false := by kernel_rfl
  rw [run_eql_struct, show (10000 : Nat) = 9999 + 1 from rfl, run_equalIn_agg w 9999 30 _ _ hS hp]
  simp only [Program.fieldsOf, Try.underlying30]
  go_simp
theorem cap_neq (a b c d e f : Int) (w : World) : (binOp .neq 30 (.agg #[.int .i64 a, .int .i64 b, .int .i64 c, .int .i64 d, .int .i64 e, .int .i64 f]) (.agg #[.int .i64 a, .int .i64 b, .int .i64 c, .int .i64 d, .int .i64 e, .int .i64 f])).run Try.prog w = .ok (.bool false) w := by
  have h := cap_eql a b c d e f w
  rw [run_eql_struct] at h
  rw [run_neq_struct]
  cases hx : (Op.equalIn 10000 30 (.agg #[.int .i64 a, .int .i64 b, .int .i64 c, .int .i64 d, .int .i64 e, .int .i64 f]) (.agg #[.int .i64 a, .int .i64 b, .int .i64 c, .int .i64 d, .int .i64 e, .int .i64 f])).run Try.prog w <;> rw [hx] at h <;> simp_all [Result.andThen]
end Go.Proofs.Ytdkjfalhalepgaa
