/- The document's example of layer 14. -/
import Derived.Test.YtlcefgfcihgocaaQuePlain
import Derived.Lib.IfaceEq
namespace Go.Proofs.Ytlcefgfcihgocaa
open Go.RowKit
theorem qw_zero {Z Y : Int → Prop} (hZ : ∀ o, Z o → 0 ≤ o ∧ o < 32) : QW zeros (fun _ => []) Z Y where
  len := zeros_len
  zr := hZ
  own := fun o h => absurd rfl h
  rng := fun o t h => by simp at h
  nd := fun o => List.nodup_nil
  one := fun o p t h => by simp at h
  top := fun o p _ h => by simp at h
  ch := fun o _ => zeros_at _
  ls := fun o _ => zeros_at _
  free := fun t _ _ _ => zeros_at _
set_option maxRecDepth 100000 in
set_option maxHeartbeats 1000000 in
theorem up_any (w : World) : Calls Try.prog 5 #[] w fun e w' => e = .returned (.bool true) ∧ Only [] w w' := by
  have q0 : QW zeros (fun _ => []) (fun o => o = 1) (fun _ => False) := qw_zero (fun o e => by omega)
  have hm0 := memP_new w
  have c1 := qpush_is hm0 q0 (o := 1) (t := 3) rfl (by decide) (by decide) (fun p hp => by simp at hp)
  rw [errV_nil] at c1
  have hg := Lib.hid (Nat.le_refl w.heap.size)
  obtain ⟨g, hgg⟩ : ∃ g, Hid (w.heap.size = g) := ⟨_, Lib.hid rfl⟩
  have HO := Lib.hid ((Only.refl [] w).alloc (.cells zerosA UT))
  have HK := Lib.hid fun (W W' : World) (o : Only [] w W) (o' : Only [w.heap.size] W W') => o.then o' (fun y hy => .inr (by simp at hy; rw [hy]; exact Nat.le_refl _))
  have hmk := made_words w
  clear hm0 q0 hg hgg
  go_enter Try.func5, Try.ntmps5
  go_wp2_with fail
  (with_reducible refine c1.mono ?_)
  clear c1 hmk
  rintro e w1 ⟨L1, rfl, hm1, q1, ho1⟩
  have H1 := Lib.hid (And.intro q1 (HK.out _ _ HO.out ho1))
  have c2 := qpush_is hm1 q1 (o := 1) (t := 5) rfl (by decide) (by decide) (fun p hp => by
    unfold putQ at hp
    split at hp <;> simp at hp)
  rw [errV_nil] at c2
  clear hm1 q1 ho1
  go_wp2_with fail
  (with_reducible refine c2.mono ?_)
  clear c2
  rintro e w2 ⟨L2, rfl, hm2, q2, ho2⟩
  have H2 := Lib.hid (And.intro q2 (HK.out _ _ H1.out.2 ho2))
  have c3 := qpop_is (t := 3) (b := [5]) hm2 q2 (o := 1) rfl rfl
  clear hm2 q2 ho2
  go_wp2_with fail
  (with_reducible refine c3.mono ?_)
  clear c3
  rintro e w3 ⟨L3, rfl, hm3, q3, ho3⟩
  have H3 := Lib.hid (HK.out _ _ H2.out.2 ho3)
  have c4 : Calls Try.prog 12 #[.iface PwT (.slice (some ⟨w.heap.size, 0, none⟩) 738 738), .int .i64 1] w3 fun e w' => ∃ u, e = .returned u ∧ MadeW w' w3.heap.size u [5] ∧ MemP w.heap.size 738 UT w' L3 ∧ Only [w.heap.size] w3 w' := qlist_is hm3 q3 (o := 1) rfl
  clear hm3 q3 ho3
  go_wp2_with fail
  (with_reducible refine c4.mono ?_)
  clear c4
  rintro e w4 ⟨u, rfl, ⟨A, cp, rfl, hR⟩, hm4, ho4⟩
  have H4 := Lib.hid (HK.out _ _ H3.out ho4)
  obtain ⟨B, oB, rfl, -, hB, k0⟩ := hR 0 5 rfl
  rw [Nat.add_zero] at k0
  have c5 := qpush_bad hm4 32 0 (.inl (by decide))
  rw [show errV 2 = .iface 43 (.int .i64 2) from rfl] at c5
  clear hm4 ho4 hR
  have hq := fun (a : Int) (W : World) => Lib.run_eql_iface_int (P := Try.prog) W (t := 33) (tx := 43) (k := .i64) 2 a Try.underlying33 (by kernel_rfl) Try.underlying43
  go_wp2_with ((with_reducible refine c5.mono ?_); clear c5; rintro e w5 ⟨rfl, hm5, ho5⟩)
  go_ret
  exact ⟨rfl, HK.out _ _ H4.out ho5⟩
end Go.Proofs.Ytlcefgfcihgocaa
