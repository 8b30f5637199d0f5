/- A region that draws its order, whose last operation waits for all others: the others are walked first, in whatever order, with a fact held; the last one behind them. No dump is read here. -/
import Derived.OrdersHeld
import Derived.Deep.RegionHeld
import Derived.Test.YtdkjfalhalepgaaJ1
import Derived.ProofKit
import Derived.OpenShut
import Derived.Deep.Slices
import Derived.Deep.Fields
import Derived.Test.YtdkjfalhalepgaaRows
import Derived.WalkKit
import Derived.WalkSpells
import Derived.WalkLawsBesides
import Derived.Handy
import Derived.BigQuiet
import Derived.Deep.QuietTactic
import Derived.RegionTactic
import Derived.Lib.Hide
import Derived.Test.YtdkjfalhalepgaaJ15
import Derived.Test.YtdkjfalhalepgaaJ7
import Derived.Test.YtdkjfalhalepgaaJ3
import Derived.Test.YtdkjfalhalepgaaJ12
import Derived.Test.YtdkjfalhalepgaaJ5
import Derived.KernelRfl
namespace Go.Proofs.Ytdkjfalhalepgaa
open Go
section
variable {P : Program} {ops : Array Oper} {Q : Exit → Act → World → Prop} {md : Region.Mode} {S : World → Prop} {l : Nat}
/-- what is wanted behind all but the last one -/
def lastQ (P : Program) (ops : Array Oper) (l : Nat) (Q : Exit → Act → World → Prop) : Exit → Act → World → Prop
  | .normal, a, w => wpOp P ops Q l (fun a w => Q .normal a w) a w
  | .exit n, a, w => Q (.exit n) a w
  | .goto n, a, w => Q (.goto n) a w
  | .ret, a, w => Q .ret a w
  | .panic c, a, w => Q (.panic c) a w
  | .outgrown, a, w => Q .outgrown a w
theorem lastQ_intro {o : Oper} {a : Act} {w : World} (hi : ops[l]? = some o) (hg : o.guard = none) (h : o.wp P a w (fun a w => Q .normal a w) Q) : lastQ P ops l Q .normal a w := by
  show wpOp P ops Q l _ a w
  have hw : Region.wanted o (yielded ops a.tmps) = true := by simp [Region.wanted, hg]
  unfold wpOp
  simp only [hi, hw, if_true]
  exact .inl h
theorem opwp_last {o : Oper} {K : Act → World → Prop} {a : Act} {w : World} (h : o.wp P a w K (lastQ P ops l Q)) : o.wp P a w K Q := by
  unfold Oper.wp at *
  generalize (execOp a.eval o).run P w = r at *
  cases r with
  | ok n w' =>
    cases n <;> simp only [Oper.upon] at h ⊢ <;>
      first
        | exact h
        | exact Calls.mono h (fun e w'' he => by cases e <;> exact he)
  | halt x w' => cases x <;> simp only [Oper.upon] at h ⊢ <;> exact h
theorem wpOp_last {i : Nat} {K : Act → World → Prop} {a : Act} {w : World} (h : wpOp P ops (lastQ P ops l Q) i K a w) : wpOp P ops Q i K a w := by
  unfold wpOp at *
  split
  · next h0 => simpa [h0] using h
  · next o ho =>
    simp only [ho] at h
    split
    · next hw => simp only [hw, if_true] at h; exact h.imp opwp_last id
    · next hw => simp only [hw] at h; exact h
/-- each operation waits for elder ones alone; each but the last one is waited for -/
def orderedB (md : Region.Mode) (ops : Array Oper) : Bool :=
  (List.range ops.size).all fun j => match ops[j]? with
    | none => false
    | some o => o.after.all fun e => !Region.binds md e || decide (e.on < j)
def waitedB (md : Region.Mode) (ops : Array Oper) : Bool :=
  (List.range (ops.size - 1)).all fun j => (List.range ops.size).any fun k => decide (j < k) && match ops[k]? with
    | none => false
    | some o => o.after.any fun e => Region.binds md e && e.on == j
theorem ordered_of (h : orderedB md ops = true) {j : Nat} {o : Oper} (ho : ops[j]? = some o) : ∀ e ∈ o.after, Region.binds md e = true → e.on < j := by
  intro e he hb
  have h1 := List.all_eq_true.1 h j (List.mem_range.2 (Array.getElem?_eq_some_iff.1 ho).1)
  simp only [ho] at h1
  have h2 := Array.all_eq_true_iff_forall_mem.1 h1 e he
  simpa [hb] using h2
theorem waited_of (h : waitedB md ops = true) {j : Nat} (hj : j < ops.size - 1) : ∃ k o, j < k ∧ ops[k]? = some o ∧ ∃ e ∈ o.after, Region.binds md e = true ∧ e.on = j := by
  have h1 := List.all_eq_true.1 h j (List.mem_range.2 hj)
  obtain ⟨k, hk, h2⟩ := List.any_eq_true.1 h1
  have hks := List.mem_range.1 hk
  obtain ⟨h3, h4⟩ := Bool.and_eq_true_iff.1 h2
  have ho : ops[k]? = some ops[k] := Array.getElem?_eq_getElem hks
  rw [ho] at h4
  dsimp only at h4
  rw [← Array.any_toList] at h4
  obtain ⟨e, he, h5⟩ := List.any_eq_true.1 h4
  replace he : e ∈ ops[k].after := by simpa using he
  obtain ⟨h6, h7⟩ := Bool.and_eq_true_iff.1 h5
  exact ⟨k, ops[k], of_decide_eq_true h3, ho, e, he, h6, by simpa using h7⟩
/-- what has come up has all that it waits for -/
def DownC (md : Region.Mode) (ops : Array Oper) (listed : Array Bool) : Prop :=
  ∀ (j : Nat) (o : Oper), ops[j]? = some o → listed.getD j false = true → ∀ e ∈ o.after, Region.binds md e = true → listed.getD e.on false = true
theorem DownC.set {listed : Array Bool} {i : Nat} (h : DownC md ops listed) (hi : i ∈ Region.ready md ops listed) : DownC md ops (listed.setIfInBounds i true) := fun j o ho hj e he hb => by
  obtain ⟨-, oi, hoi, hall⟩ := mem_ready.1 hi
  by_cases hij : i = j
  · subst hij
    rw [hoi] at ho
    cases ho
    exact getD_set_true (hall e he hb)
  · rw [getD_set_ne false hij] at hj
    exact getD_set_true (h j o ho hj e he hb)
variable {listed : Array Bool}
theorem listed_true {n j : Nat} (hs : listed.size = n) (hj : j < n) (h : ¬ listed.getD j true = false) : listed.getD j false = true := by
  have hj' : j < listed.size := by omega
  simp [hj'] at h ⊢
  exact h
/-- nothing but the last one may come up: it may -/
theorem last_ready (hl : l + 1 = ops.size) (hs : listed.size = ops.size) (hord : orderedB md ops = true) (hnl : listed.getD l true = false) (h0 : Region.ready md ops (listed.setIfInBounds l true) = []) :
    l ∈ Region.ready md ops listed ∧ ∀ j, j < l → listed.getD j false = true := by
  have all : ∀ j, j < l → listed.getD j false = true := by
    intro j
    induction j using Nat.strongRecOn with
    | _ j ih =>
      intro hj
      refine Classical.byContradiction fun hn => ?_
      have hun : listed.getD j true = false := by
        refine Classical.byContradiction fun h => hn (listed_true hs (by omega) h)
      have hjo : ops[j]? = some (ops[j]'(by omega)) := Array.getElem?_eq_getElem (by omega)
      have : j ∈ Region.ready md ops (listed.setIfInBounds l true) := by
        rw [mem_ready]
        refine ⟨by rw [getD_set_ne true (by omega)]; exact hun, _, hjo, fun e he hb => ?_⟩
        have hlt := ordered_of hord hjo e he hb
        exact getD_set_true (ih e.on hlt (by omega))
      rw [h0] at this
      cases this
  have hlo : ops[l]? = some (ops[l]'(by omega)) := Array.getElem?_eq_getElem (by omega)
  exact ⟨mem_ready.2 ⟨hnl, _, hlo, fun e he hb => all e.on (ordered_of hord hlo e he hb)⟩, all⟩
/-- the last one may come up: all others have -/
theorem last_all (hl : l + 1 = ops.size) (hw : waitedB md ops = true) (hd : DownC md ops listed) (hr : l ∈ Region.ready md ops listed) : ∀ j, j < l → listed.getD j false = true := by
  obtain ⟨-, ol, hol, hall⟩ := mem_ready.1 hr
  have q : ∀ n j, l - j ≤ n → j < l → listed.getD j false = true := by
    intro n
    induction n with
    | zero => intro j h1 h2; omega
    | succ n ih =>
      intro j h1 h2
      obtain ⟨k, o, hjk, hk, e, he, hb, hej⟩ := waited_of hw (j := j) (by omega)
      have hks := (Array.getElem?_eq_some_iff.1 hk).1
      by_cases e' : k = l
      · subst e'
        rw [hk] at hol
        cases hol
        have := hall e he hb
        rwa [hej] at this
      · have := hd k o hk (ih k (by omega) (by omega)) e he hb
        rwa [hej] at this
  exact fun j hj => q (l - j) j (Nat.le_refl _) hj
theorem ready_less {i : Nat} (hl : l + 1 = ops.size) (hord : orderedB md ops = true) (hnl : listed.getD l true = false) (hi : i ∈ Region.ready md ops (listed.setIfInBounds l true)) : i ∈ Region.ready md ops listed ∧ i ≠ l := by
  obtain ⟨h1, o, ho, hall⟩ := mem_ready.1 hi
  have his := (Array.getElem?_eq_some_iff.1 ho).1
  have hne : i ≠ l := fun e => by
    subst e
    rcases Nat.lt_or_ge i listed.size with h' | h'
    · simp [h'] at h1
    · simp [Array.getElem?_eq_none h'] at hnl
  rw [getD_set_ne true (Ne.symm hne)] at h1
  refine ⟨mem_ready.2 ⟨h1, o, ho, fun e he hb => ?_⟩, hne⟩
  have hlt := ordered_of hord ho e he hb
  have := hall e he hb
  rwa [getD_set_ne false (by omega)] at this
theorem wpAny_last (hl : l + 1 = ops.size) (hord : orderedB md ops = true) (hw : waitedB md ops = true) : ∀ (fuel : Nat) (listed : Array Bool) (a : Act) (w : World), DownC md ops listed → listed.size = ops.size → listed.getD l true = false →
    wpAny P md ops (lastQ P ops l Q) fuel (listed.setIfInBounds l true) a w → wpAny P md ops Q (fuel + 1) listed a w := by
  intro fuel
  induction fuel with
  | zero =>
    intro listed a w hd hs hnl H
    obtain ⟨h0, hQ⟩ := H
    obtain ⟨hlr, -⟩ := last_ready hl hs hord hnl h0
    refine ⟨fun h => (by rw [h] at hlr; cases hlr), fun i hi => ?_⟩
    by_cases hil : i = l
    · subst hil
      exact wpOp_mono (fun a' w' h => ⟨h0, h⟩) hQ
    · have := ready_mono hi hil
      rw [h0] at this
      cases this
  | succ fuel ih =>
    intro listed a w hd hs hnl H
    refine ⟨fun h => ?_, fun i hi => ?_⟩
    · have h0 : Region.ready md ops (listed.setIfInBounds l true) = [] := by
        refine List.eq_nil_iff_forall_not_mem.2 fun i hi => ?_
        have := (ready_less hl hord hnl hi).1
        rw [h] at this
        cases this
      have := (last_ready hl hs hord hnl h0).1
      rw [h] at this
      cases this
    · by_cases hil : i = l
      · subst hil
        have hall := last_all hl hw hd hi
        have h0 : Region.ready md ops (listed.setIfInBounds i true) = [] := by
          refine List.eq_nil_iff_forall_not_mem.2 fun j hj => ?_
          obtain ⟨hjr, hne⟩ := ready_less hl hord hnl hj
          obtain ⟨h1, o, ho, -⟩ := mem_ready.1 hjr
          have hjs := (Array.getElem?_eq_some_iff.1 ho).1
          have h2 := hall j (by omega)
          have hj' : j < listed.size := by omega
          simp [hj'] at h1 h2
          rw [h1] at h2
          cases h2
        exact wpOp_mono (fun a' w' h => ⟨fun _ => h, fun j hj => by rw [h0] at hj; cases hj⟩) (H.1 h0)
      · have h2 := wpOp_last (H.2 i (ready_mono hi hil))
        refine wpOp_mono (fun a' w' h => ih (listed.setIfInBounds i true) a' w' (hd.set hi) (by simpa using hs) (by rw [getD_set_ne true hil]; exact hnl) ?_) h2
        rw [Array.setIfInBounds_comm _ _ hil]
        exact h
theorem wp_region_last {id : Nat} {a : Act} {w : World} (l : Nat) (hm : P.follows .mixedOrders = true) (hl : l + 1 = ops.size) (hord : orderedB .any ops = true) (hw : waitedB .any ops = true) (hS : S w.drew)
    (h : S w.drew → wpAnyH P .any ops (lastQ P ops l Q) S l ((Array.replicate ops.size false).setIfInBounds l true) a w.drew) : (Code.region id ops true).wp P Q a w := by
  refine wp_region_any hm ?_
  have hll : l < ops.size := by omega
  have q := wpAny_last (P := P) (Q := Q) hl hord hw l (Array.replicate ops.size false) a w.drew (fun j o _ hj => by
    by_cases hlt : j < ops.size
    · simp [hlt] at hj
    · simp [hlt] at hj) (by simp) (by simp [hll]) (wpAny_of_held _ _ _ _ (h hS))
  rw [← hl]
  rw [← hl] at q
  exact q
end
end Go.Proofs.Ytdkjfalhalepgaa
/- From a law's walk to its statement: what every law shares. -/
namespace Go.Proofs.Ytdkjfalhalepgaa
open Go.ChangeShapes Go.WideShapes Go.ChangeAt Go.RowKit Go.Deep
section
variable {H : Type} {enc : TypeId × Value → H} {P : Program}
/-- all arguments read as they did, if nothing old has turned -/
theorem trodAll_below (hl : laidOutB P = true) {W W' : World} (hb : Below W.heap.size W W') :
    ∀ {ts : List TypeId} {vs : List Value} {ds : List (DataW H)} {ps : List MemPlace}, (∀ t ∈ ts, P.readableRec t = true ∧ t < P.types.size) → DataW.TrodAll enc P W 0 (fun _ => true) true ts vs ds ps → (∀ x ∈ ps, x.block < W.heap.size) →
    DataW.TrodAll enc P W' 0 (fun b => decide (b < W.heap.size)) true ts vs ds ps
  | [], _, _, _, _, h, _ => by
    obtain ⟨rfl, rfl, rfl⟩ := trodAll_nil h
    exact trodAll_mk0
  | t :: ts, _, _, _, ht, h, hlt => by
    obtain ⟨v, vs, d, ds, p, q, rfl, rfl, rfl, h0, hr⟩ := trodAll_cons h
    have h1 := ht t (by simp)
    exact trodAll_cons_mk (Below.trod hl h1.1 h1.2 h0 hb (fun x hx => hlt x (by simp [hx]))) (trodAll_below hl hb (fun t' ht' => ht t' (by simp [ht'])) hr (fun x hx => hlt x (by simp [hx])))
/-- a law that answered true, and turned nothing that was there, keeps its row -/
theorem law_post {f : Func} {s : ChangeSpec} {W W' : World} {args : Array Value} {ds gs : List (DataW H)} {before : List MemPlace} {tb : TypeId} (hres : f.resultTypes = #[tb]) (htb : P.underlying tb = some .bool) (hvars : s.vars = [])
    (hfn : s.fn H ds = { results := [.lit (.bool true)], args := ds }) (hl : laidOutB P = true) (ht : ∀ t ∈ f.params.toList, P.readableRec t = true ∧ t < P.types.size)
    (hW : DataW.Whole enc P f.params.toList s.vars false W args.toList ds gs before) (hb : Below W.heap.size W W') : s.post enc P f false true false false W args (.bool true) W' := by
  have hlt := hW.lt
  have hW' := hW
  obtain ⟨p, q, hA, hV, rfl, hfz, _⟩ := hW
  rw [hvars] at hV
  obtain ⟨rfl, rfl⟩ := trodVars_none hV
  have hr : DataW.TrodAll enc P W' W.heap.size (fun _ => false) false f.resultTypes.toList ((Value.bool true).resultList f.resultTypes.size) (s.fn H (ds ++ [])).results [] := by
    rw [hres, List.append_nil, hfn]
    exact trodAll_mk1 (shut_bool htb true)
  have ha : DataW.TrodAll enc P W' 0 (fun b => decide (b < W.heap.size)) true f.params.toList args.toList (s.fn H (ds ++ [])).args p := by
    rw [List.append_nil, hfn]
    exact trodAll_below hl hb ht hA (fun x hx => hlt x (by simp [hx]))
  refine ⟨ds, [], p ++ [], [], p, [], hW', hr, ha, ?_, hb.frame _, fun h => by cases h⟩
  rw [hvars, List.append_nil, hfn]
  rfl
end
theorem list_of {α : Type} {n : Nat} {Q : Nat → α → Prop} (h : ∀ i, i < n → ∃ a, Q i a) : ∃ L : List α, L.length = n ∧ ∀ (i : Nat) (a : α), L[i]? = some a → Q i a := by
  induction n with
  | zero => exact ⟨[], rfl, fun i a hi => by simp at hi⟩
  | succ n ih =>
    obtain ⟨L, hL, hq⟩ := ih (fun i hi => h i (by omega))
    obtain ⟨a, ha⟩ := h n (by omega)
    refine ⟨L ++ [a], by simp [hL], fun i b hi => ?_⟩
    by_cases hlt : i < n
    · rw [List.getElem?_append_left (by omega)] at hi
      exact hq i b hi
    · have hin : i = n := by
        have := (List.getElem?_eq_some_iff.1 hi).1
        simp only [List.length_append, List.length_cons, List.length_nil, hL] at this
        omega
      subst hin
      rw [List.getElem?_append_right (by omega), hL] at hi
      simp at hi
      subst hi
      exact ha
theorem cell_spot {w : World} {a : Addr} {v : Value} (h : w.cell? a = some v) : a.spot = none ∧ a.block < w.heap.size := by
  obtain ⟨b, o, s⟩ := a
  constructor
  · cases s with
    | none => rfl
    | some s =>
      unfold World.cell? at h
      simp only [Option.isSome_some, if_true] at h
      split at h <;> cases h
  · rcases Nat.lt_or_ge b w.heap.size with hlt | hge
    · exact hlt
    · unfold World.cell? at h
      simp only [Array.getElem?_eq_none hge] at h
      cases h
end Go.Proofs.Ytdkjfalhalepgaa
/- Pick of layers 10 to 19's statements: a number modulo another one. -/
namespace Go.Proofs.Ytdkjfalhalepgaa
open Go.RowKit
def pickN (c n : Int) : Int := if c < 0 then (-(c + 1)) % n else c % n
theorem pickN_rng (c : Int) {n : Int} (h : 1 ≤ n) : 0 ≤ pickN c n ∧ pickN c n < n := by
  unfold pickN
  split
  · exact ⟨Int.emod_nonneg _ (by omega), Int.emod_lt_of_pos _ (by omega)⟩
  · exact ⟨Int.emod_nonneg _ (by omega), Int.emod_lt_of_pos _ (by omega)⟩
theorem pickN_any (c n : Int) (hc : -9223372036854775808 ≤ c ∧ c ≤ 9223372036854775807) (hn : 1 ≤ n) (hn2 : n ≤ 1000000) (w : World) : Calls Try.prog 8 #[.int .i64 c, .int .i64 n] w fun e w' => e = .returned (.int .i64 (pickN c n)) ∧ w = w' := by
  obtain ⟨h0, h1⟩ := hc
  have hz : ¬ n = 0 := by omega
  by_cases h : c < 0
  · have e1 : pickN c n = -((c + 1).tmod n) := by unfold pickN; rw [if_pos h, ← Int.neg_tmod, Int.tmod_eq_emod_of_nonneg (by omega)]
    have q := (pickN_rng c hn)
    rw [e1] at q ⊢
    have hw1 : IntKind.i64.wrap (c + 1) = c + 1 := IntWalk.i64_in _ (by omega)
    have hw2 : IntKind.i64.wrap ((c + 1).tmod n) = (c + 1).tmod n := IntWalk.i64_in _ (by omega)
    have hw3 : IntKind.i64.wrap (-((c + 1).tmod n)) = -((c + 1).tmod n) := IntWalk.i64_in _ (by omega)
    clear e1
    go_enter Try.func8, Try.ntmps8
    go_wp2
    go_ret
    exact ⟨rfl, rfl⟩
  · have e1 : pickN c n = c % n := by unfold pickN; rw [if_neg h]
    have q := (pickN_rng c hn)
    rw [e1] at q ⊢
    have hw2 : IntKind.i64.wrap (c % n) = c % n := IntWalk.i64_in _ (by omega)
    clear e1
    go_enter Try.func8, Try.ntmps8
    go_wp2
    go_ret
    exact ⟨rfl, rfl⟩
end Go.Proofs.Ytdkjfalhalepgaa
/- What lies in QueuePlays' walk: the words, the lists beside them (layer 14). -/
namespace Go.Proofs.Ytdkjfalhalepgaa
open Go.RowKit
theorem rowN_snoc {w : World} {base n cap : Nat} {A : Option Addr} {l : List Int} {x : Int} (h : w.ownsRow base ItT 1 (.slice A n cap) (l.length + 1) (l.flatMap irow' ++ [.int .i64 x])) : RowN w A ItT irow' 1 (l ++ [x]) := by
  have e1 : (l ++ [x]).length = l.length + 1 := by simp
  have e2 : (l ++ [x]).flatMap irow' = l.flatMap irow' ++ [.int .i64 x] := by simp [irow']
  rw [← e1, ← e2] at h
  obtain ⟨A', cp', e, hR⟩ := RowN.of_owns irow'_len h
  injection e with e1 e2 e3
  subst e1
  exact hR
theorem own_cap {w : World} {base n cap size : Nat} {e : TypeId} {A : Option Addr} {xs : List Value} (h : w.ownsRow base e size (.slice A n cap) n xs) : n ≤ cap ∧ cap ≤ maxLen := by
  rcases h.2 with ⟨h1, h2⟩ | ⟨g, cap', cur, h1, -, -, h4, h5, -⟩
  · injection h1 with e1 e2 e3
    subst e2 e3
    exact ⟨Nat.le_refl _, Nat.zero_le _⟩
  · injection h1 with e1 e2 e3
    subst e3
    exact ⟨h4, h5⟩
end Go.Proofs.Ytdkjfalhalepgaa
