/- What StmSerial's loops come to, as mathematics (layer 8). -/
import Derived.Test.YtleomgmhkoglmaaStmGoes
namespace Go.Proofs.Ytleomgmhkoglmaa
open Go.RowKit Go.Maps
/-- a machine none of whose jobs is under way -/
structure DoneM (N : Nat) (Ls : List (List (List O))) (M : Ma) (Wt : List C) : Prop where
  good : MGood N (jobsOf Ls) M Wt
  idle : ∀ (k : Nat) (u : Wk), M.ws[k]? = some u → u.ph = .idle
/-- the values behind the log's first i jobs -/
def valsTo (Ls : List (List (List O))) (N : Nat) (log : List Lg) (i : Nat) : List Int := valsOf (jobsOf Ls) (List.replicate N 0) (log.take i)
/-- how many jobs of worker k the log's first i have -/
def doneTo (log : List Lg) (i k : Nat) : Nat := (toldOf (log.take i) k).length
section
variable {N : Nat} {Ls : List (List (List O))} {M : Ma} {Wt : List C} {i k : Nat} {x : Lg} {u : Wk}
theorem valsTo_zero : valsTo Ls N M.log 0 = List.replicate N 0 := rfl
theorem doneTo_zero : doneTo M.log 0 k = 0 := rfl
theorem valsTo_succ (h : M.log[i]? = some x) : valsTo Ls N M.log (i + 1) = playV (jobsOf Ls) (valsTo Ls N M.log i) x := by
  unfold valsTo
  rw [List.take_add_one, h]
  exact valsOf_push _ _ _ _
theorem doneTo_succ (h : M.log[i]? = some x) : doneTo M.log (i + 1) k = doneTo M.log i k + if x.wk = k then 1 else 0 := by
  unfold doneTo
  rw [List.take_add_one, h]
  simp only [Option.toList_some]
  rw [toldOf_push, List.length_append]
  split <;> rfl
theorem doneTo_all : doneTo M.log M.log.length k = (toldOf M.log k).length := by
  unfold doneTo
  rw [List.take_length]
theorem DoneM.told (h : DoneM N Ls M Wt) (hk : M.ws[k]? = some u) : toldOf M.log k = u.told := by
  rw [h.good.told k u hk]
  unfold tailOf
  rw [h.idle k u hk]
  simp
theorem DoneM.len (h : DoneM N Ls M Wt) : M.ws.length = Ls.length := by
  rw [← h.good.jl]
  simp [jobsOf]
theorem jobsOf_some {L : List (List O)} (h : Ls[k]? = some L) : (jobsOf Ls)[k]? = some (L.map Jb.ops) := by
  unfold jobsOf
  rw [List.getElem?_map, h]
  rfl
/-- an entry of the log is as one behind the other -/
theorem DoneM.entry (h : DoneM N Ls M Wt) (hi : M.log[i]? = some x) : ∃ (L : List (List O)) (o : List O) (u : Wk), Ls[x.wk]? = some L ∧ L[x.job]? = some o ∧ x.job = doneTo M.log i x.wk ∧ M.ws[x.wk]? = some u ∧ u.told[x.job]? = some x.told ∧
    ((x.spent = true ∧ x.told = -1 ∧ valsTo Ls N M.log (i + 1) = valsTo Ls N M.log i) ∨ (x.spent = false ∧ x.told = numOf (doL machP o 0 (valsTo Ls N M.log i)).1 ∧ valsTo Ls N M.log (i + 1) = (doL machP o 0 (valsTo Ls N M.log i)).2)) := by
  obtain ⟨hwk, hjob, j, hj, htold⟩ := h.good.play i x hi
  have hwk' : x.wk < Ls.length := by simpa [jobsOf] using hwk
  obtain ⟨L, hL⟩ : ∃ L, Ls[x.wk]? = some L := ⟨_, List.getElem?_eq_getElem hwk'⟩
  rw [List.getD_eq_getElem?_getD, jobsOf_some hL] at hj
  simp only [Option.getD_some] at hj
  rw [List.getElem?_map] at hj
  cases ho : L[x.job]? with
  | none => rw [ho] at hj; cases hj
  | some o =>
    rw [ho] at hj
    cases hj
    obtain ⟨u, hu⟩ : ∃ u, M.ws[x.wk]? = some u := ⟨_, List.getElem?_eq_getElem (by rw [h.len]; exact hwk')⟩
    refine ⟨L, o, u, hL, ho, hjob, hu, ?_, ?_⟩
    · rw [← h.told hu]
      have hlog : M.log = M.log.take i ++ x :: M.log.drop (i + 1) := by
        have hl := List.getElem?_eq_some_iff.1 hi
        have := List.take_append_drop i M.log
        rw [List.drop_eq_getElem_cons hl.1, hl.2] at this
        exact this.symm
      rw [hlog]
      have e : toldOf (M.log.take i ++ x :: M.log.drop (i + 1)) x.wk = toldOf (M.log.take i) x.wk ++ (x.told :: toldOf (M.log.drop (i + 1)) x.wk) := by
        unfold toldOf
        rw [List.filter_append, List.map_append]
        simp
      rw [e, List.getElem?_append_right (by rw [hjob]; exact Nat.le_refl _), hjob]
      simp
    · have hv := valsTo_succ (Ls := Ls) (N := N) hi
      cases hs : x.spent with
      | true =>
        rw [hs, if_pos rfl] at htold
        refine .inl ⟨rfl, htold, ?_⟩
        rw [hv]
        unfold playV
        rw [if_pos hs]
      | false =>
        rw [hs, if_neg (by simp)] at htold
        refine .inr ⟨rfl, htold, ?_⟩
        rw [hv]
        unfold playV
        rw [if_neg (by rw [hs]; simp), List.getD_eq_getElem?_getD, jobsOf_some hL]
        simp only [Option.getD_some, List.getElem?_map, ho, Option.map_some]
        rfl
/-- no cell bears a mark, and the values are those behind the log -/
theorem DoneM.cell (h : DoneM N Ls M Wt) {i : Nat} {c : C} (hc : M.s.L[i]? = some c) : c.mark = 0 ∧ (valsTo Ls N M.log M.log.length)[i]? = some c.v := by
  have hm : c.mark = 0 := by
    rcases Int.lt_trichotomy c.mark 0 with h0 | h0 | h0
    all_goals first
      | exact h0
      | (exfalso
         obtain ⟨k0, d0, j0, e0, g1, g2, g3, g4, g5⟩ := h.good.inv.marks i c hc (by omega)
         have hj0 := (List.getElem?_eq_some_iff.1 g3).1
         have ho : d0.over = false := by
           rcases g5 with ⟨g5, _⟩ | ⟨g5, g6⟩
           · simp [De.over, g5]
           · simp [De.over]; intro _; omega
         obtain ⟨k, u, n, h1, h2⟩ := h.good.cur k0 d0 g1 ho
         rw [h.idle k u h1] at h2
         cases h2)
  refine ⟨hm, ?_⟩
  have hw := h.good.inv.want i c hc
  rw [pend_free hm] at hw
  unfold valsTo
  rw [List.take_length, ← h.good.vals, List.getElem?_map, hw]
  rfl
theorem DoneM.wants (h : DoneM N Ls M Wt) {L : List (List O)} (hL : Ls[k]? = some L) : wantsAt (jobsOf Ls) M k = decide (doneTo M.log M.log.length k < L.length) := by
  have hk : k < M.ws.length := by rw [h.len]; exact (List.getElem?_eq_some_iff.1 hL).1
  obtain ⟨u, hu⟩ : ∃ u, M.ws[k]? = some u := ⟨_, List.getElem?_eq_getElem hk⟩
  unfold wantsAt jobOf
  simp only [hu]
  rw [List.getD_eq_getElem?_getD, jobsOf_some hL]
  simp only [Option.getD_some]
  have hb : u.busy = false := by unfold Wk.busy; rw [h.idle k u hu]
  rw [hb, Bool.false_or, doneTo_all, h.told hu]
  by_cases hl : u.told.length < L.length
  · rw [List.getElem?_eq_getElem (by simpa using hl)]
    simp [hl]
  · rw [List.getElem?_eq_none (by simpa using hl)]
    simp [hl]
/-- is one of the first k workers short of some of its jobs? -/
def leftTo (Ls : List (List (List O))) (log : List Lg) (k : Nat) : Bool := (List.range k).any fun j => decide (doneTo log log.length j < (Ls.getD j []).length)
theorem leftTo_succ {log : List Lg} {L : List (List O)} (hL : Ls[k]? = some L) : leftTo Ls log (k + 1) = (leftTo Ls log k || decide (doneTo log log.length k < L.length)) := by
  unfold leftTo
  rw [List.range_succ, List.any_append]
  simp [List.getD_eq_getElem?_getD, hL]
theorem DoneM.left (h : DoneM N Ls M Wt) : (List.range M.ws.length).any (wantsAt (jobsOf Ls) M) = leftTo Ls M.log Ls.length := by
  unfold leftTo
  rw [h.len]
  have key : ∀ (p q : Nat → Bool) (l : List Nat), (∀ x ∈ l, p x = q x) → l.any p = l.any q := fun p q l => by
    induction l with
    | nil => intro _; rfl
    | cons a l ih =>
      intro hh
      rw [List.any_cons, List.any_cons, hh a (by simp), ih fun x hx => hh x (by simp [hx])]
  refine key _ _ _ fun k hk => ?_
  have hk' := List.mem_range.1 hk
  rw [h.wants (List.getElem?_eq_getElem hk'), List.getD_eq_getElem?_getD, List.getElem?_eq_getElem hk']
  rfl
end
end Go.Proofs.Ytleomgmhkoglmaa
