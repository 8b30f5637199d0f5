/- copy of words into 738 zeros of one's own, append of 738 words onto none (layer 10). -/
import Derived.Test.YtlcefgfcihgocaaMade
import Derived.Laws.CopyOwn
import Derived.Deep.AppendSrc
import Derived.WalkKit
namespace Go.Proofs.Ytlcefgfcihgocaa
open Go.RowKit
theorem flat_u64 (L : List Int) : L.flatMap u64row = L.map (Value.int .u64) := by
  induction L with
  | nil => rfl
  | cons x L ih => rw [List.flatMap_cons, List.map_cons, ih]; rfl
theorem addr_at {b off j : Nat} : (⟨b, off, none⟩ : Addr).add j = ⟨b, off + j, none⟩ := by
  unfold Addr.add
  split
  · simp
  · rfl
theorem only_setRow (w : World) (g : Nat) (cs : Array Value) : Only [g] w (w.setRow g cs) := ⟨rfl, rfl, rfl, by simp [World.setRow], fun k _ hn => setRow_other w g k cs (fun e => hn (by simp [e]))⟩
/-- words laid over zeros -/
def overZ (L : List Int) : List Int := L ++ zeros.drop L.length
theorem overZ_len {L : List Int} (h : L.length ≤ 738) : (overZ L).length = 738 := by
  unfold overZ
  rw [List.length_append, List.length_drop, zeros_len]
  omega
theorem overZ_us {L : List Int} (h : Us L) : Us (overZ L) := fun x hx => by
  rcases List.mem_append.1 hx with hx | hx
  · exact h x hx
  · exact zeros_us x (List.mem_of_mem_drop hx)
section
variable {w : World} {ops : Array Oper} {rest : List Oper} {o : Oper} {a : Act} {Q : Exit → Act → World → Prop}
theorem wpList_copy_words {P : Program} (hgd : o.guard = none) (d s : Operand) (dT sT elem : TypeId)
    (ho : o.op = .call { callee := .builtin .copy, args := #[d, s], argTypes := #[dT, sT] }) (hu : P.underlying dT = some (.slice elem)) (hsz : (P.info? elem).map (·.size) = some 1)
    (g : Nat) (A : Option Addr) (L : List Int) (cp : Nat) (hd : a.eval d = .slice (some ⟨g, 0, none⟩) 738 738) (hs : a.eval s = .slice A L.length cp) (hg : Blk w g UT zerosA) (hL : Wds w A L) (hU : Us L) (hl : L.length ≤ 738)
    (h : ∀ w', MemP g 738 UT w' (overZ L) → Only [g] w w' → wpList P ops Q rest (a.put o.dst (goInt L.length)) w') : wpList P ops Q (o :: rest) a w := by
  cases L with
  | nil =>
    refine wpList_copy_nothing hgd d s dT sT ho elem hu hsz _ _ 738 738 0 cp hd hs (by simp) ?_
    exact h w ⟨zeros_len, rowU_flat hg, zeros_us⟩ (Only.refl _ _)
  | cons x L =>
    obtain ⟨b, off, rfl, -, -⟩ := hL 0 x rfl
    generalize hLL : x :: L = LL at *
    have hlen : (LL.map (Value.int .u64)).length = Nat.min LL.length 738 := by rw [List.length_map]; exact (Nat.min_eq_left hl).symm
    have hz : zerosA.size = 738 := by
      unfold zerosA
      rw [flat_size (n := 1) (fun _ => rfl), List.length_replicate]
    refine wpList_copy_own hgd d s dT sT ho elem hu hsz g 0 738 738 ⟨b, off, none⟩ LL.length cp hd hs zerosA UT hg (LL.map (Value.int .u64)) hlen (fun j u hj => ?_) (by rw [List.length_map, hz]; omega) (fun u hu => ?_) ?_
    · rw [List.getElem?_map] at hj
      obtain ⟨y, hy, rfl⟩ := Option.map_eq_some_iff.1 hj
      obtain ⟨b', off', e1, -, hc⟩ := hL j y hy
      injection e1 with e1
      injection e1 with e1 e2 _
      subst e1 e2
      rw [addr_at]
      exact hc
    · obtain ⟨y, -, rfl⟩ := List.mem_map.1 hu
      rfl
    · rw [List.length_map]
      refine h _ ⟨overZ_len hl, ?_, overZ_us hU⟩ (only_setRow _ _ _)
      have e : (zerosA.toList.take 0 ++ (LL.map (Value.int .u64) ++ zerosA.toList.drop (0 + LL.length))).toArray = flat u64row (overZ LL) := by
        unfold zerosA flat overZ zeros
        rw [flat_u64, flat_u64, List.toList_toArray, List.take_zero, List.nil_append, Nat.zero_add, List.map_append, List.map_drop]
      rw [e]
      exact rowU_flat (setRow_heap w g zerosA _ UT _ hg)
end
end Go.Proofs.Ytlcefgfcihgocaa
