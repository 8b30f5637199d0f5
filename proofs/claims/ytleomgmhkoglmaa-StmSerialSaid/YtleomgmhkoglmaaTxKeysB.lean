/- A map of cells that a record has: its keys, sorted (layer 6). -/
import Derived.Test.YtleomgmhkoglmaaIter
import Derived.Test.YtleomgmhkoglmaaTxCB
import Derived.OwnWalkIn
namespace Go.Proofs.Ytleomgmhkoglmaa
open Go.RowKit Go.Maps Go.Sort Go.Shelf
/-- the keys in rising order -/
structure KeysF {α : Type} (F : Int → Option α) (sz : Nat) (ks : List Int) : Prop where
  len : ks.length = sz
  has : ∀ x, x ∈ ks → (F x).isSome = true
  wf : ∀ x, x ∈ ks → (Lit.int .i64 x).wf = true
  rises : ks.Pairwise (· < ·)
  all : ∀ x, (F x).isSome = true → x ∈ ks
theorem keysF_sorted {α : Type} {F : Int → Option α} {P : Program} {k : TypeId} {R : Value → Option (DataW Unit × List MemPlace)} {w : World} {b n : Nat} {D : DataW Unit} (hown : w.ownsMap P k R b n D) (K : Keyed P k) (hk : P.underlying k = some (.int .i64))
    (hF : ∀ x, Maps.has D (.int .i64 x) = (F x).isSome) {ss : List Int} (hs : ss.Perm (intKeys D)) :
    KeysF F (Maps.size D) (ss.mergeSort fun x y => decide (x ≤ y)) := by
  have hwf := intKeys_wf hown hk
  obtain ⟨es, hD, hpw, _⟩ := hown.entries K
  obtain ⟨es', hD', hko⟩ := hown.keysOf
  obtain rfl : es = es' := by rw [hD] at hD'; simpa using hD'
  subst hD
  have hint : ∀ p, p ∈ es → ∃ x, p.1 = .int .i64 x := fun p hp => by
    obtain ⟨v, hv⟩ := hko p hp
    obtain ⟨x, _, hx, _⟩ := Maps.keyOf_i64 hk hv
    exact ⟨x, hx⟩
  have hp : (ss.mergeSort fun x y => decide (x ≤ y)).Perm (intKeys (.map es)) := (List.mergeSort_perm ss _).trans hs
  have hnd : (intKeys (.map es : DataW Unit)).Nodup := by
    show (es.map fun p => Go.intOf p.1).Nodup
    refine List.pairwise_map.2 (hpw.imp_of_mem fun {p q} hp' hq' hne e => hne ?_)
    obtain ⟨a, ha⟩ := hint p hp'
    obtain ⟨b, hb⟩ := hint q hq'
    rw [ha, hb] at e ⊢
    exact congrArg _ e
  refine ⟨?_, fun x hx => ?_, fun x hx => hwf x (hp.mem_iff.1 hx), ?_, fun x hx => ?_⟩
  · rw [hp.length_eq]
    simp [intKeys, Maps.size]
  · obtain ⟨p, hpm, hpx⟩ := List.mem_map.1 (show x ∈ es.map fun p => Go.intOf p.1 from hp.mem_iff.1 hx)
    obtain ⟨a, ha⟩ := hint p hpm
    rw [← hF, Maps.has_eq, List.any_eq_true]
    refine ⟨p, hpm, ?_⟩
    rw [ha] at hpx ⊢
    simp [Go.intOf] at hpx
    simp [Lit.sameKey, hpx]
  · have tr : ∀ a b c : Int, decide (a ≤ b) = true → decide (b ≤ c) = true → decide (a ≤ c) = true := fun a b c h1 h2 => by simp only [decide_eq_true_eq] at *; omega
    have to : ∀ a b : Int, (decide (a ≤ b) || decide (b ≤ a)) = true := fun a b => by simp only [Bool.or_eq_true, decide_eq_true_eq]; omega
    have h1 := List.pairwise_mergeSort tr to ss
    have h2 : (ss.mergeSort fun x y => decide (x ≤ y)).Nodup := hp.nodup_iff.2 hnd
    refine (h1.and h2).imp fun {a b} h => ?_
    have h3 : a ≤ b := by simpa using h.1
    have h4 : a ≠ b := h.2
    omega
  · rw [← hF, Maps.has_eq, List.any_eq_true] at hx
    obtain ⟨p, hpm, hpx⟩ := hx
    refine hp.mem_iff.2 (List.mem_map.2 ⟨p, hpm, ?_⟩)
    rw [WideAt.sameKey_eq hpx]
    rfl
/-- slices.Sort's two contracts in this translation -/
theorem sortsA (m : Nat) : AnyZI.SortsIn Try.prog sortedA_ren Fence.wide m :=
  ⟨fun blk off cap ss W hH hblk hsz => callsIn_wide.2 (AnyM.slices_Sort_int sortA blk off cap ss W hH hblk hsz),
   fun p cap W => callsIn_wide.2 (AnyM.slices_Sort_int_none sortA p cap W)⟩
theorem keys_any (mb : Option Nat) (W : World) : Calls Try.prog 62 #[.map mb] W fun e w' => e = .returned (.func (.func 68) #[] #[.pointer (some ⟨W.heap.size, 0, none⟩)]) ∧ w' = W.alloc (.cells #[.map mb] 103) :=
  (callsIn_wide (n := 5)).1 (AnyZI.keys_in keysA Fence.wide 5 trivial rfl mb W)
set_option maxHeartbeats 1000000 in
theorem sorted_any {F : Int → Option Cl} {sz : Nat} (b nn : Nat) (w : World) (hown : MapIn cellE Try.prog 3 w b nn F sz) (hmax : sz ≤ 1000) :
    Calls Try.prog 61 #[.func (.func 68) #[] #[.pointer (some ⟨w.heap.size, 0, none⟩)]] (w.alloc (.cells #[.map (some b)] 103)) fun e w' => ∃ (v : Value) (ks : List Int), e = .returned v ∧ KeysF F sz ks ∧
      w'.ownsRow (w.heap.size + 1) 3 1 v ks.length (ks.map encZ) ∧ Below (w.heap.size + 1) (w.alloc (.cells #[.map (some b)] 103)) w' := by
  obtain ⟨D0, hown, rfl, hF⟩ := hown
  have hbl := hown.lt
  have hseq : SeqGives Fence.wide 2 Try.prog 68 #[.pointer (some ⟨w.heap.size, 0, none⟩)] encZ (fun ss => ss.Perm (intKeys D0)) (Maps.size D0) (w.alloc (.cells #[.map (some b)] 103)) :=
    AnyZI.keys_gives (ρ := keysA_ren) { keysA with } Fence.wide _ trivial rfl (by omega) w.heap.size b nn D0 _ (by simp) (by simp) (by
      obtain ⟨es, clock, hb, Ft, hs, hD⟩ := hown
      exact ⟨es, clock, (Below.heap_alloc _ _ b hbl).trans hb, Ft, hs, hD⟩)
  have cS := AnyZI.sorted_in sortedA Fence.wide 5 trivial trivial trivial trivial rfl (by omega) (sortsA _) (enters_of Try.func67 (by kernel_rfl) rfl) 68 #[.pointer (some ⟨w.heap.size, 0, none⟩)] trivial (enters_of Try.func68 (by kernel_rfl) rfl) _ _ (by unfold maxLen; omega) (by omega) _ hseq
  change CallsIn _ _ Try.prog 61 _ _ _ at cS
  refine (callsIn_wide.1 cS).mono ?_
  rintro e w' ⟨v, ss, rfl, hS, hrow, _, hb⟩
  rw [World.size_alloc] at hrow hb
  refine ⟨v, _, rfl, keysF_sorted hown keyedI Try.underlying3 (fun x => (hF x).1) hS, ?_, hb⟩
  rw [List.length_mergeSort]
  exact hrow
end Go.Proofs.Ytleomgmhkoglmaa
