/- What Run of package tx does with a function (layer 6): its deferred call, its draft, what it hands back. -/
import Derived.Test.YtleomgmhkoglmaaTxCB
import Derived.Defers
import Derived.Recover
namespace Go.Proofs.Ytleomgmhkoglmaa
open Go.RowKit Go.Maps
theorem run_over (p : Nat) (bd : Nat) (w : World) (hp : w.cell? ⟨p, 0, none⟩ = some (.pointer (some ⟨bd, 0, none⟩))) (hc : w.cell? ⟨bd, 4, none⟩ = some (.bool false)) (hf : w.frozen? ⟨bd, 4, none⟩ = false) :
    CallsD Try.prog 60 #[.pointer (some ⟨p, 0, none⟩)] .returning w fun e u' w' => e = .returned (.tuple #[]) ∧ u' = .returning ∧ w' = w.setCell ⟨bd, 4, none⟩ (.bool true) := by
  refine callsD_of_wpS Try.func60 rfl fun c₀ cs hu => ?_
  apply wpS_seq
  apply wpS_region
  simp [wpOpsS, go_sem, hp, hc, hf, Try.ntmps60, Exit.thenS]
  apply wpS_region
  simp [wpOpsS, go_sem, recoverD, hu, Exit.thenS]
  cases c₀
  simp_all [bodyPostS, results, Try.results60]
theorem nilcmp (G : FuncId) (caps : Array Value) (w : World) : (binOp .neq 94 (.func (.func G) #[] caps) .nilFunc).run Try.prog w = .ok (.bool true) w := by kernel_rfl
theorem run_any (bd G : Nat) (caps : Array Value) (w : World) (Q : World → Prop) (hQ : ∀ w1, Q w1 → w1.cell? ⟨w.heap.size, 0, none⟩ = some (.pointer (some ⟨bd, 0, none⟩)) ∧ w1.cell? ⟨bd, 4, none⟩ = some (.bool false) ∧ w1.frozen? ⟨bd, 4, none⟩ = false)
    (hE : ∀ (args : Array Value) (w : World), (callFunc G args).run Try.prog w = .ok (.enter G args) w)
    (hG : Calls Try.prog G (#[.iface 104 (.pointer (some ⟨bd, 0, none⟩))] ++ caps) (w.alloc (.cells #[.pointer (some ⟨bd, 0, none⟩)] 104)) fun e w' => e = .returned (.tuple #[]) ∧ Q w') :
    Calls Try.prog 54 #[.pointer (some ⟨bd, 0, none⟩), .func (.func G) #[] caps] w fun e w' => e = .returned (.tuple #[]) ∧ ∃ w1, Q w1 ∧ w' = w1.setCell ⟨bd, 4, none⟩ (.bool true) := by
  have hmf : ∀ (fn : Fn) (first cap : Array Value) (w : World), (Instr.makeFunc fn first cap).run Try.prog w = .ok (.func fn first cap) w := fun _ _ _ _ => rfl
  have hnc := nilcmp G caps
  have HQ := Lib.hid hQ
  clear hQ
  go_enter_defers Try.func54, Try.ntmps54
  go_wp2_with fail
  refine hG.mono ?_
  rintro e w1 ⟨rfl, hq⟩
  obtain ⟨q1, q2, q3⟩ := HQ.out w1 hq
  go_wp2
  refine leaves_cons (f := 60) (args := #[.pointer (some ⟨w.heap.size, 0, none⟩)]) (by simp) (by simp [go_sem]) ?_
  refine (run_over w.heap.size bd w1 q1 q2 q3).mono ?_
  rintro e u' w'' ⟨rfl, rfl, rfl⟩
  exact ⟨_, results_none rfl _ _ _, rfl, _, hq, rfl⟩
/-- what Run leaves -/
def RunPost (w : World) (bt bm n : Nat) (cells : Int) (R : Int → Option Cl) (sz : Nat) (T : List Nat) (Z : Dt → World → Prop) (e : Ending) (w' : World) : Prop :=
  ∃ (bd bw m : Nat) (s : Dt), e = .returned (.tuple #[.int .i64 (s.lk.getD 0), .bool (!s.lk.isSome)]) ∧ w.heap.size ≤ bd ∧ w.heap.size ≤ bw ∧
    RecAt w' bt bm n cells (.pointer (some ⟨bd, 0, none⟩)) R sz ∧ DraftAt w' bd bw bt m s true ∧ Only (bt :: T) w w' ∧ Z s w'
set_option maxRecDepth 100000 in
set_option maxHeartbeats 800000 in
theorem Run_any {w : World} {bt bm n sz : Nat} {cells : Int} {last : Value} {R : Int → Option Cl} (hr : RecAt w bt bm n cells last R sz) (G : Nat) (caps : Array Value) (K T : List Nat) (Z : Dt → World → Prop)
    (hZ : ∀ s a b, Z s a → (∀ k, k ∈ K → b.heap[k]? = a.heap[k]?) → Z s b) (hK : ∀ k, k ∈ K → k < w.heap.size ∧ k ≠ bt) (hT : ∀ k, k ∈ T → k < w.heap.size ∧ k ≠ bt ∧ k ≠ bm)
    (hE : ∀ (args : Array Value) (w : World), (callFunc G args).run Try.prog w = .ok (.enter G args) w)
    (hG : ∀ (bd bw : Nat) (wa : World), w.heap.size ≤ bd → w.heap.size ≤ bw → RecAt wa bt bm n cells last R sz → DraftAt wa bd bw bt 0 Dt.new false → Only [] w wa →
      Calls Try.prog G (#[.iface 104 (.pointer (some ⟨bd, 0, none⟩))] ++ caps) wa fun e w' => e = .returned (.tuple #[]) ∧ ∃ m s, DraftAt w' bd bw bt m s false ∧ Only (bd :: bw :: T) wa w' ∧ Z s w') :
    Calls Try.prog 41 #[.pointer (some ⟨bt, 0, none⟩), .func (.func G) #[] caps] w (RunPost w bt bm n cells R sz T Z) := by
  have hmm := @run_makeMap Try.prog
  have hbt := hr.blk.lt
  have hbm := hr.own.lt
  have hne := hr.own.ne_blk hr.blk
  go_enter Try.func41, Try.ntmps41
  go_wp2_with fail
  have hm := MapIn.made wordE Try.prog 3 w
  have hB := Blk.new (w.alloc (.map #[] 0)) 109 #[.pointer (some ⟨bt, 0, none⟩), .map (some w.heap.size), .bool false, .int .i64 0, .bool false]
  have h1 : Only [] (w.alloc (.map #[] 0)) ((w.alloc (.map #[] 0)).alloc (.cells #[.pointer (some ⟨bt, 0, none⟩), .map (some w.heap.size), .bool false, .int .i64 0, .bool false] 109)) := (Only.refl _ _).alloc _
  have hm1 := hm.only h1 (by simp)
  have h2 := ((Only.refl [] w).alloc (.map #[] 0)).trans h1
  have hz1 : ((w.alloc (.map #[] 0)).alloc (.cells #[.pointer (some ⟨bt, 0, none⟩), .map (some w.heap.size), .bool false, .int .i64 0, .bool false] 109)).heap.size = w.heap.size + 2 := by simp
  have hsz : (w.alloc (.map #[] 0)).heap.size = w.heap.size + 1 := by simp
  rw [hsz] at hB
  generalize (w.alloc (.map #[] 0)).alloc (.cells #[.pointer (some ⟨bt, 0, none⟩), .map (some w.heap.size), .bool false, .int .i64 0, .bool false] 109) = wa at hB hm1 h2 hz1 ⊢
  clear hm h1 hsz hmm
  have hd : DraftAt wa (w.heap.size + 1) w.heap.size bt 0 Dt.new false := ⟨hB, _, hm1⟩
  have hra := hr.only h2 (by simp) (by simp)
  have hbx := Blk.new wa 104 #[.pointer (some ⟨w.heap.size + 1, 0, none⟩)]
  have hob : Only [] wa (wa.alloc (.cells #[.pointer (some ⟨w.heap.size + 1, 0, none⟩)] 104)) := (Only.refl _ _).alloc _
  have hG' := hG (w.heap.size + 1) w.heap.size (wa.alloc (.cells #[.pointer (some ⟨w.heap.size + 1, 0, none⟩)] 104)) (by omega) (by omega) (hra.only hob (by simp) (by simp)) (hd.only hob (by simp) (by simp)) (h2.trans hob)
  rw [hz1] at hbx
  have cR := run_any (w.heap.size + 1) G caps wa (fun w1 => ∃ m s, DraftAt w1 (w.heap.size + 1) w.heap.size bt m s false ∧ Only ((w.heap.size + 1) :: w.heap.size :: T) (wa.alloc (.cells #[.pointer (some ⟨w.heap.size + 1, 0, none⟩)] 104)) w1 ∧ Z s w1)
    (fun w1 ⟨m, s, h, ho, _⟩ => ⟨(ho.blk hbx (by
      simp only [List.mem_cons, not_or]
      exact ⟨by omega, by omega, fun h => by have := hT _ h; omega⟩)).cell 0 |> fun h => by rw [hz1]; exact h, h.c4, h.blk.frozen _⟩) hE hG'
  refine cR.mono ?_
  clear cR hG' hbx hG hE
  rintro e w' ⟨rfl, w1, ⟨m, s, hd1, ho1, hz⟩, rfl⟩
  have ho2 : Only ((w.heap.size + 1) :: w.heap.size :: T) w w1 := (h2.trans hob |>.more (by simp)).trans ho1
  have hr2 := hr.only ho2 (by simp only [List.mem_cons, not_or]; exact ⟨by omega, by omega, fun h => by have := hT _ h; omega⟩) (by simp only [List.mem_cons, not_or]; exact ⟨by omega, by omega, fun h => by have := hT _ h; omega⟩)
  have hne2 := hr2.ne hd1
  have h3 : Only [w.heap.size + 1] w1 (w1.setCell ⟨w.heap.size + 1, 4, none⟩ (.bool true)) := (Only.refl _ _).setCell (p := ⟨w.heap.size + 1, 4, none⟩) (.inl (by simp)) _
  have hd3 : DraftAt (w1.setCell ⟨w.heap.size + 1, 4, none⟩ (.bool true)) (w.heap.size + 1) w.heap.size bt m s true := ⟨by simpa using hd1.blk.set_ 4 (.bool true), hd1.own.imp fun _ h => h.only h3 (by simp)⟩
  have hr3 := hr2.only h3 (by simp; omega) (by simp; omega)
  have ho3 := ho2.trans (h3.more (S' := (w.heap.size + 1) :: w.heap.size :: T) (by simp +contextual))
  have hz3 : Z s (w1.setCell ⟨w.heap.size + 1, 4, none⟩ (.bool true)) := hZ s _ _ hz fun k hk => Below.heap_setCell w1 _ _ k (by have := (hK k hk).1; simp; omega)
  generalize w1.setCell ⟨w.heap.size + 1, 4, none⟩ (.bool true) = w2 at hd3 hr3 ho3 hz3 ⊢
  clear ho1 hob h2 hra hd hm1 hB hz1 h3 hz hr2 ho2 hd1 w1
  have r2 := hr3.c2
  have f2 : w2.frozen? ⟨bt, 2, none⟩ = false := hr3.blk.frozen _
  have d2 := hd3.c2
  have d3 := hd3.c3
  have hbd : w.heap.size + 1 ≠ bt := by omega
  obtain ⟨lk, hlk⟩ : ∃ b, Hid (s.lk.isSome = b) := ⟨_, Lib.hid rfl⟩
  obtain ⟨lv, hlv⟩ : ∃ b, Hid (s.lk.getD 0 = b) := ⟨_, Lib.hid rfl⟩
  rw [hlk.out] at d2
  rw [hlv.out] at d3
  go_wp2_with fail
  have h4 : Only [bt] w2 (w2.setCell ⟨bt, 2, none⟩ (.pointer (some ⟨w.heap.size + 1, 0, none⟩))) := (Only.refl _ _).setCell (p := ⟨bt, 2, none⟩) (.inl (by simp)) _
  have hr4 : RecAt (w2.setCell ⟨bt, 2, none⟩ (.pointer (some ⟨w.heap.size + 1, 0, none⟩))) bt bm n cells (.pointer (some ⟨w.heap.size + 1, 0, none⟩)) R sz := ⟨by simpa using hr3.blk.set_ 2 (.pointer (some ⟨w.heap.size + 1, 0, none⟩)), hr3.own.only h4 (by simpa using hne.symm), hr3.lim⟩
  have hd4 := hd3.only h4 (by simpa using hbd) (by simp; omega)
  have hz4 : Z s (w2.setCell ⟨bt, 2, none⟩ (.pointer (some ⟨w.heap.size + 1, 0, none⟩))) := hZ s _ _ hz3 fun k hk => Below.heap_setCell w2 _ _ k (hK k hk).2
  have ho4 : Only (bt :: T) w (w2.setCell ⟨bt, 2, none⟩ (.pointer (some ⟨w.heap.size + 1, 0, none⟩))) :=
    (((Only.refl (bt :: T) w).then ho3 (fun x hx => by
      simp only [List.mem_cons] at hx
      rcases hx with rfl | rfl | hx
      · exact .inr (by omega)
      · exact .inr (by omega)
      · exact .inl (by simp [hx]))).trans (h4.more (by simp +contextual)))
  generalize w2.setCell ⟨bt, 2, none⟩ (.pointer (some ⟨w.heap.size + 1, 0, none⟩)) = w3 at h4 hr4 hd4 hz4 ho4 ⊢
  clear hr3 hd3 hz3 ho3 h4 r2 f2 d2 d3
  have d2 := hd4.c2
  have d3 := hd4.c3
  rw [hlk.out] at d2
  rw [hlv.out] at d3
  go_quiet (fail)
  go_wp2
  go_ret2
  refine ⟨w.heap.size + 1, w.heap.size, m, s, by rw [hlk.out, hlv.out]; rfl, by omega, by omega, hr4.drewN _, hd4.drewN _, ho4.drewN _, hZ s _ _ hz4 fun k hk => rfl⟩
end Go.Proofs.Ytleomgmhkoglmaa
