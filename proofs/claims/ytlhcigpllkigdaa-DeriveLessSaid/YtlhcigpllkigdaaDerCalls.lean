/- What Copy, Mint, Move, Mutate of package derive do (layer 12), to any view. -/
import Derived.Test.YtlhcigpllkigdaaDerUnder
import Derived.Test.YtlhcigpllkigdaaMint
import Derived.Test.YtlhcigpllkigdaaMutate
namespace Go.Proofs.Ytlhcigpllkigdaa
open Go.RowKit
section
variable {σ : Type} {M : Mach σ} {T : TypeId} {v : Value} {fR fW : FuncId} {Mem : World → σ → Prop} {Ok : σ → Prop} {S R : List Nat} {w : World} {s : σ}
theorem run_makeFunc (fn : Fn) (first cap : Array Value) (w : World) : (Instr.makeFunc fn first cap).run Try.prog w = .ok (.func fn first cap) w := rfl
set_option maxHeartbeats 1000000 in
theorem copy1_any {b0 : Nat} {m : Int} (h0 : Blk w b0 3 #[.int .i64 m]) (c : Cp) : Calls Try.prog 27 (#[c.v] ++ #[.pointer (some ⟨b0, 0, none⟩)]) w fun e w' => e = .returned (.tuple #[(c.derive m).1.v, errV (c.derive m).2]) ∧ Only [] w w' := by
  obtain ⟨x, n, hx⟩ : ∃ x n, c.derive m = (x, n) := ⟨_, _, rfl⟩
  rw [hx]
  have cD := Lib.hid (fun W => derive_is hx W)
  have q0 := h0.cell 0
  have z0 := h0.lt
  clear hx
  go_enter Try.func27, Try.ntmps27
  go_wp2_with fail
  (with_reducible refine (cD.out _).mono ?_)
  rintro e w1 ⟨rfl, ho1⟩
  obtain ⟨hb0, hb1⟩ := two_blks (c := c) (x := ⟨0, 0, 0, 0, 0, 0⟩) ho1
  obtain ⟨l0, l1, l2, l3, l4, l5⟩ := hb1.six
  have f := hb1.frozen
  have HO := Lib.hid (only_two (c := c) (x := ⟨0, 0, 0, 0, 0, 0⟩) ho1)
  clear ho1 hb0
  go_wp2_with fail
  refine bodyPost_ret (v := .tuple #[x.v, errV n]) (by simp [results, Try.results27, go_sem, l0, l1, l2, l3, l4, l5]) rfl ⟨rfl, ?_⟩
  repeat (refine Only.setCell ?_ (.inr (by first | exact Nat.le_refl _ | exact Nat.le_succ _)) _)
  exact HO.out
set_option maxHeartbeats 1000000 in
theorem mint1_any {b0 b1 : Nat} {m bg : Int} (h0 : Blk w b0 3 #[.int .i64 m]) (h1 : Blk w b1 3 #[.int .i64 bg]) (c : Cp) : Calls Try.prog 35 (#[c.v] ++ #[.pointer (some ⟨b0, 0, none⟩), .pointer (some ⟨b1, 0, none⟩)]) w fun e w' => e = .returned (.tuple #[(c.mint m bg).1.v, errV (c.mint m bg).2]) ∧ Only [] w w' := by
  obtain ⟨x, n, hx⟩ : ∃ x n, c.mint m bg = (x, n) := ⟨_, _, rfl⟩
  rw [hx]
  have cD := Lib.hid (fun W => mint_is hx W)
  have q0 := h0.cell 0
  have z0 := h0.lt
  have q1 := h1.cell 0
  have z1 := h1.lt
  clear hx
  go_enter Try.func35, Try.ntmps35
  go_wp2_with fail
  (with_reducible refine (cD.out _).mono ?_)
  rintro e w1 ⟨rfl, ho1⟩
  obtain ⟨hb0, hb1⟩ := two_blks (c := c) (x := ⟨0, 0, 0, 0, 0, 0⟩) ho1
  obtain ⟨l0, l1, l2, l3, l4, l5⟩ := hb1.six
  have f := hb1.frozen
  have HO := Lib.hid (only_two (c := c) (x := ⟨0, 0, 0, 0, 0, 0⟩) ho1)
  clear ho1 hb0
  go_wp2_with fail
  refine bodyPost_ret (v := .tuple #[x.v, errV n]) (by simp [results, Try.results35, go_sem, l0, l1, l2, l3, l4, l5]) rfl ⟨rfl, ?_⟩
  repeat (refine Only.setCell ?_ (.inr (by first | exact Nat.le_refl _ | exact Nat.le_succ _)) _)
  exact HO.out
set_option maxHeartbeats 1000000 in
theorem mutate1_any {b0 b1 : Nat} {gd bt : Int} (h0 : Blk w b0 3 #[.int .i64 gd]) (h1 : Blk w b1 3 #[.int .i64 bt]) (c : Cp) : Calls Try.prog 39 (#[c.v] ++ #[.pointer (some ⟨b0, 0, none⟩), .pointer (some ⟨b1, 0, none⟩)]) w fun e w' => e = .returned (.tuple #[(c.mutate gd bt).1.v, errV (c.mutate gd bt).2]) ∧ Only [] w w' := by
  obtain ⟨x, n, hx⟩ : ∃ x n, c.mutate gd bt = (x, n) := ⟨_, _, rfl⟩
  rw [hx]
  have cD := Lib.hid (fun W => mutate_is hx W)
  have q0 := h0.cell 0
  have z0 := h0.lt
  have q1 := h1.cell 0
  have z1 := h1.lt
  clear hx
  go_enter Try.func39, Try.ntmps39
  go_wp2_with fail
  (with_reducible refine (cD.out _).mono ?_)
  rintro e w1 ⟨rfl, ho1⟩
  obtain ⟨hb0, hb1⟩ := two_blks (c := c) (x := ⟨0, 0, 0, 0, 0, 0⟩) ho1
  obtain ⟨l0, l1, l2, l3, l4, l5⟩ := hb1.six
  have f := hb1.frozen
  have HO := Lib.hid (only_two (c := c) (x := ⟨0, 0, 0, 0, 0, 0⟩) ho1)
  clear ho1 hb0
  go_wp2_with fail
  refine bodyPost_ret (v := .tuple #[x.v, errV n]) (by simp [results, Try.results39, go_sem, l0, l1, l2, l3, l4, l5]) rfl ⟨rfl, ?_⟩
  repeat (refine Only.setCell ?_ (.inr (by first | exact Nat.le_refl _ | exact Nat.le_succ _)) _)
  exact HO.out
set_option maxHeartbeats 1000000 in
theorem move1_any (c : Cp) : Calls Try.prog 38 (#[c.v] ++ #[]) w fun e w' => e = .returned (.tuple #[c.v, errV 0]) ∧ Only [] w w' := by
  rw [errV_nil]
  have HO := Lib.hid (((Only.refl [] w).alloc (.cells c.arr 31)).alloc (.cells c.arr 31))
  go_enter Try.func38, Try.ntmps38
  go_wp2_with fail
  refine bodyPost_ret (v := .tuple #[c.v, .nilIface]) (by simp [results, Try.results38, go_sem]) rfl ⟨rfl, ?_⟩
  exact HO.out
theorem copyMk {b0 : Nat} {m : Int} (hb0 : b0 ∉ S) : Maker S 27 #[.pointer (some ⟨b0, 0, none⟩)] (fun w => Blk w b0 3 #[.int .i64 m]) (fun c => c.derive m) where
  enter := fun args w => by kernel_rfl
  call := fun w c h => copy1_any h c
  keep := fun w w' h ho => ho.blk h hb0
theorem mintMk {b0 b1 : Nat} {m bg : Int} (hb0 : b0 ∉ S) (hb1 : b1 ∉ S) : Maker S 35 #[.pointer (some ⟨b0, 0, none⟩), .pointer (some ⟨b1, 0, none⟩)] (fun w => Blk w b0 3 #[.int .i64 m] ∧ Blk w b1 3 #[.int .i64 bg]) (fun c => c.mint m bg) where
  enter := fun args w => by kernel_rfl
  call := fun w c h => mint1_any h.1 h.2 c
  keep := fun w w' h ho => ⟨ho.blk h.1 hb0, ho.blk h.2 hb1⟩
theorem mutateMk {b0 b1 : Nat} {gd bt : Int} (hb0 : b0 ∉ S) (hb1 : b1 ∉ S) : Maker S 39 #[.pointer (some ⟨b0, 0, none⟩), .pointer (some ⟨b1, 0, none⟩)] (fun w => Blk w b0 3 #[.int .i64 gd] ∧ Blk w b1 3 #[.int .i64 bt]) (fun c => c.mutate gd bt) where
  enter := fun args w => by kernel_rfl
  call := fun w c h => mutate1_any h.1 h.2 c
  keep := fun w w' h ho => ⟨ho.blk h.1 hb0, ho.blk h.2 hb1⟩
theorem moveMk  : Maker S 38 #[] (fun w => True) (fun c => (c, 0)) where
  enter := fun args w => by kernel_rfl
  call := fun w c h => move1_any c
  keep := fun w w' h ho => trivial
set_option maxRecDepth 100000 in
set_option maxHeartbeats 1000000 in
theorem vcopy_is (V : VOk M T v fR fW Mem Ok S R) (hm : Mem w s) {f t n m : Int} {s1 : σ} (h : (underP (fun c => c.derive m) f t).run M s = (n, s1)) :
    Calls Try.prog 11 #[.iface T v, .int .i64 f, .int .i64 t, .int .i64 m] w fun e w' => e = .returned (errV n) ∧ Mem w' s1 ∧ Only S w w' := by
  have hmf := run_makeFunc
  have hg := V.freshS hm (Nat.le_refl w.heap.size)
  have hb := Blk.new w 3 #[.int .i64 m]
  have ho0 := (Only.refl S w).alloc (.cells #[.int .i64 m] 3)
  have hm0 := V.only0 hm ((Only.refl [] w).alloc (.cells #[.int .i64 m] 3))
  have c1 := dbelow_is V hm0 (copyMk hg) hb h
  clear h hm V hm0 hb hg
  go_enter Try.func11, Try.ntmps11
  go_wp2_with fail
  (with_reducible refine c1.mono ?_)
  clear c1
  rintro e w1 ⟨rfl, hm1, ho1⟩
  go_wp2_with fail
  go_ret
  exact ⟨rfl, hm1, ho0.trans ho1⟩
set_option maxRecDepth 100000 in
set_option maxHeartbeats 1000000 in
theorem vmint_is (V : VOk M T v fR fW Mem Ok S R) (hm : Mem w s) {f t n m bg : Int} {s1 : σ} (h : (underP (fun c => c.mint m bg) f t).run M s = (n, s1)) :
    Calls Try.prog 19 #[.iface T v, .int .i64 f, .int .i64 t, .int .i64 m, .int .i64 bg] w fun e w' => e = .returned (errV n) ∧ Mem w' s1 ∧ Only S w w' := by
  have hmf := run_makeFunc
  have hg := V.freshS hm (Nat.le_refl w.heap.size)
  have hg' := V.freshS hm (Nat.le_succ w.heap.size)
  have hb := (Blk.new w 3 #[.int .i64 m]).alloc (.cells #[.int .i64 bg] 3)
  have hb' := Blk.new (w.alloc (.cells #[.int .i64 m] 3)) 3 #[.int .i64 bg]
  rw [show (w.alloc (.cells #[.int .i64 m] 3)).heap.size = w.heap.size + 1 by simp] at hb'
  have ho0 := ((Only.refl S w).alloc (.cells #[.int .i64 m] 3)).alloc (.cells #[.int .i64 bg] 3)
  have hm0 := V.only0 hm (((Only.refl [] w).alloc (.cells #[.int .i64 m] 3)).alloc (.cells #[.int .i64 bg] 3))
  have c1 := dbelow_is V hm0 (mintMk hg hg') ⟨hb, hb'⟩ h
  clear h hm V hm0 hb hg hb' hg'
  go_enter Try.func19, Try.ntmps19
  go_wp2_with fail
  (with_reducible refine c1.mono ?_)
  clear c1
  rintro e w1 ⟨rfl, hm1, ho1⟩
  go_wp2_with fail
  go_ret
  exact ⟨rfl, hm1, ho0.trans ho1⟩
set_option maxRecDepth 100000 in
set_option maxHeartbeats 1000000 in
theorem vmove_is (V : VOk M T v fR fW Mem Ok S R) (hm : Mem w s) {f t n : Int} {s1 : σ} (h : (insteadP (fun c => (c, 0)) f t).run M s = (n, s1)) :
    Calls Try.prog 20 #[.iface T v, .int .i64 f, .int .i64 t] w fun e w' => e = .returned (errV n) ∧ Mem w' s1 ∧ Only S w w' := by
  have hmf := run_makeFunc
  have c1 := dinstead_is V hm (moveMk (S := S)) trivial h
  clear h hm V
  go_enter Try.func20, Try.ntmps20
  go_wp2_with fail
  (with_reducible refine c1.mono ?_)
  clear c1
  rintro e w1 ⟨rfl, hm1, ho1⟩
  go_wp2_with fail
  go_ret
  exact ⟨rfl, hm1, ho1⟩
set_option maxRecDepth 100000 in
set_option maxHeartbeats 1000000 in
theorem vmutate_is (V : VOk M T v fR fW Mem Ok S R) (hm : Mem w s) {f t n gd bt : Int} {s1 : σ} (h : (insteadP (fun c => c.mutate gd bt) f t).run M s = (n, s1)) :
    Calls Try.prog 21 #[.iface T v, .int .i64 f, .int .i64 t, .int .i64 gd, .int .i64 bt] w fun e w' => e = .returned (errV n) ∧ Mem w' s1 ∧ Only S w w' := by
  have hmf := run_makeFunc
  have hg := V.freshS hm (Nat.le_refl w.heap.size)
  have hg' := V.freshS hm (Nat.le_succ w.heap.size)
  have hb := (Blk.new w 3 #[.int .i64 gd]).alloc (.cells #[.int .i64 bt] 3)
  have hb' := Blk.new (w.alloc (.cells #[.int .i64 gd] 3)) 3 #[.int .i64 bt]
  rw [show (w.alloc (.cells #[.int .i64 gd] 3)).heap.size = w.heap.size + 1 by simp] at hb'
  have ho0 := ((Only.refl S w).alloc (.cells #[.int .i64 gd] 3)).alloc (.cells #[.int .i64 bt] 3)
  have hm0 := V.only0 hm (((Only.refl [] w).alloc (.cells #[.int .i64 gd] 3)).alloc (.cells #[.int .i64 bt] 3))
  have c1 := dinstead_is V hm0 (mutateMk hg hg') ⟨hb, hb'⟩ h
  clear h hm V hm0 hb hg hb' hg'
  go_enter Try.func21, Try.ntmps21
  go_wp2_with fail
  (with_reducible refine c1.mono ?_)
  clear c1
  rintro e w1 ⟨rfl, hm1, ho1⟩
  go_wp2_with fail
  go_ret
  exact ⟨rfl, hm1, ho0.trans ho1⟩
end
end Go.Proofs.Ytlhcigpllkigdaa
