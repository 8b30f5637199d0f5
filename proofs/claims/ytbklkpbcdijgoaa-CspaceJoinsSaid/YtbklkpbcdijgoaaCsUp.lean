/- The document's example of layer 11: it answers true. -/
import Derived.Test.YtbklkpbcdijgoaaCsPlain
import Derived.Lib.IfaceEq
namespace Go.Proofs.Ytbklkpbcdijgoaa
open Go.RowKit
set_option maxRecDepth 100000 in
set_option maxHeartbeats 2000000 in
theorem up_any (w : World) : Calls Try.prog 4 #[] w fun e w' => e = .returned (.bool true) ∧ Only [] w w' := by
  have hq := fun (a : Int) (W : World) => Lib.run_eql_iface_int (P := Try.prog) W (t := 28) (tx := 45) (k := .i64) 3 a Try.underlying28 (by kernel_rfl) Try.underlying45
  go_enter Try.func4, Try.ntmps4
  go_wp2_with fail
  (with_reducible refine (boot1_any _).mono ?_)
  rintro e w1 ⟨gs, go, rfl, hr, hgs, hgo, ho1⟩
  have hR1 := hr.rootAt boot1_root
  have cW := rwordsG_any hr (boot_fitG (by decide))
  obtain ⟨p, hp⟩ : ∃ p, Hid (w.heap.size = p) := ⟨_, Lib.hid rfl⟩
  rw [hp.out] at hR1 cW
  rw [hp.out]
  go_wp2_with fail
  (with_reducible refine cW.mono ?_)
  clear cW
  rintro e w2 ⟨rfl, hm2, ho2⟩
  have hR2 := hR1.only ho2 (by simp) (by simp)
  have hpg := hR1.lp
  have hgg := hR1.lg
  have hgw := ho1.size
  replace ho2 := ho1.trans ho2
  obtain ⟨g, hg⟩ : ∃ g, Hid (w1.heap.size = g) := ⟨_, Lib.hid rfl⟩
  rw [hg.out] at hm2 hpg hgg hgw ⊢
  have hNp : p ∉ [g] := by simp; omega
  have hNg : go ∉ [g] := by simp; omega
  have HN := Lib.hid (And.intro hNp (And.intro hNg hgw))
  clear hr hR1 ho1 hgs hgo hg hNp hNg hpg hgg hgw
  clear w1
  have HK := Lib.hid fun (W W' : World) (o : Only [] w W) (o' : Only [g] W W') => o.then o' (fun y hy => .inr (by simp at hy; rw [hy]; exact HN.out.2.2))
  have c3 : Calls Try.prog 5 #[.iface PwT (.slice (some ⟨g, 0, none⟩) 738 738), .agg (rootA 1), .int .i64 3] w2 fun e w' => e = .returned (.tuple #[.int .i64 11, .nilIface]) ∧ MemP g 738 UT w' (bootL 1) ∧ Only [g] w2 w' := plook_is hm2 b1_look
  obtain ⟨co, c1⟩ := hR2.c1
  obtain ⟨lp, lg, -, r0, r1, r2, r3, r4, r5⟩ := hR2
  have HR := Lib.hid (RootAt.mk lp lg ⟨co, c1⟩ r0 r1 r2 r3 r4 r5)
  have HO := Lib.hid ho2
  clear ho2 hm2
  go_wp2_with fail
  (with_reducible refine c3.mono ?_)
  clear c3 c1 r0 r1 r2 r3 r4 r5 lp lg
  rintro e w3 ⟨rfl, hm3, ho3⟩
  have HR3 := Lib.hid (HR.out.only ho3 HN.out.1 HN.out.2.1)
  have HO3 := Lib.hid (HK.out _ _ HO.out ho3)
  have c4 : Calls Try.prog 5 #[.iface PwT (.slice (some ⟨g, 0, none⟩) 738 738), .agg (rootA 1), .int .i64 256] w3 fun e w' => e = .returned (.tuple #[.int .i64 0, .iface 45 (.int .i64 3)]) ∧ MemP g 738 UT w' (bootL 1) ∧ Only [g] w3 w' := plook_is hm3 b1_far
  clear hm3 ho3 HR HO
  obtain ⟨lp, lg, ⟨co, c1⟩, r0, r1, r2, r3, r4, r5⟩ := HR3.out
  go_wp2_with fail
  (with_reducible refine c4.mono ?_)
  clear c4 c1 r0 r1 r2 r3 r4 r5 lp lg
  rintro e w4 ⟨rfl, hm4, ho4⟩
  have HR4 := Lib.hid (HR3.out.only ho4 HN.out.1 HN.out.2.1)
  have HO4 := Lib.hid (HK.out _ _ HO3.out ho4)
  have c5 : Calls Try.prog 9 #[.iface PwT (.slice (some ⟨g, 0, none⟩) 738 738), .int .i64 9] w4 fun e w' => e = .returned (.agg #[.int .i64 3, .int .i64 7, .int .i64 4, .int .i64 0, .int .i64 0, .int .i64 0]) ∧ MemP g 738 UT w' (bootL 1) ∧ Only [g] w4 w' := pccap_is hm4 b1_c9
  clear hm4 ho4 HR3 HO3
  go_wp2_with fail
  (with_reducible refine c5.mono ?_)
  clear c5
  rintro e w5 ⟨rfl, hm5, ho5⟩
  have HR5 := Lib.hid (HR4.out.only ho5 HN.out.1 HN.out.2.1)
  have HO5 := Lib.hid (HK.out _ _ HO4.out ho5)
  clear HR4 HO4
  go_upto_region 6 with fail
  obtain ⟨w6, hw6⟩ : ∃ x, x = w5.alloc (.cells #[.int .i64 3, .int .i64 7, .int .i64 4, .int .i64 0, .int .i64 0, .int .i64 0] CcT) := ⟨_, rfl⟩
  have hm6 : MemP g 738 UT w6 (bootL 1) := hw6 ▸ hm5.only ((Only.refl [] _).alloc _) (by simp)
  have hR6 : RootAt w6 p go 1 := hw6 ▸ HR5.out.only ((Only.refl [] _).alloc _) (by simp) (by simp)
  have hO6 : Only [] w w6 := hw6 ▸ HO5.out.alloc _
  have hb6 : Blk w6 w5.heap.size CcT #[.int .i64 3, .int .i64 7, .int .i64 4, .int .i64 0, .int .i64 0, .int .i64 0] := hw6 ▸ Blk.new w5 CcT _
  have hgm := hm5.row.lt
  rw [← hw6]
  obtain ⟨B, hB⟩ : ∃ B, Hid (w5.heap.size = B) := ⟨_, Lib.hid rfl⟩
  rw [hB.out] at hb6 hgm ⊢
  have hNB : B ∉ [g] := by simp; omega
  have HNB := Lib.hid hNB
  clear hw6 hB hm5 ho5 HR5 HO5 hNB hgm
  clear w5
  have c6 : Calls Try.prog 6 #[.iface PwT (.slice (some ⟨g, 0, none⟩) 738 738), .agg (rootA 1)] w6 fun e w' => e = .returned (.bool true) ∧ MemP g 738 UT w' (bootL 1) ∧ Only [g] w6 w' := pcfine_is (L := bootL 1) (c := rootC 1) (q := true) hm6 b1_fine
  have HB6 := Lib.hid (And.intro hb6 hO6)
  obtain ⟨lp, lg, ⟨co, c1⟩, r0, r1, r2, r3, r4, r5⟩ := hR6
  obtain ⟨l0, l1, l2, l3, l4, l5⟩ := hb6.cap
  clear hm6 hb6 hO6
  go_wp2_with fail
  (with_reducible refine c6.mono ?_)
  clear c6 c1 r0 r1 r2 r3 r4 r5 lp lg l0 l1 l2 l3 l4 l5
  rintro e w7 ⟨rfl, hm7, ho7⟩
  have hb7 := ho7.blk HB6.out.1 HNB.out
  have HO7 := Lib.hid (HK.out _ _ HB6.out.2 ho7)
  obtain ⟨l0, l1, l2, l3, l4, l5⟩ := hb7.cap
  have c7 : Calls Try.prog 6 #[.iface PwT (.slice (some ⟨g, 0, none⟩) 738 738), .agg #[.int .i64 3, .int .i64 7, .int .i64 4, .int .i64 0, .int .i64 0, .int .i64 0]] w7 fun e w' => e = .returned (.bool false) ∧ MemP g 738 UT w' (bootL 1) ∧ Only [g] w7 w' := pcfine_is (L := bootL 1) (c := fullC 3 4) (q := false) hm7 b1_not
  clear hm7 ho7 hb7 HB6
  go_wp2_with fail
  (with_reducible refine c7.mono ?_)
  clear c7 l0 l1 l2 l3 l4 l5
  rintro e w8 ⟨rfl, hm8, ho8⟩
  go_wp2_with fail
  go_ret
  exact ⟨rfl, HK.out _ _ HO7.out ho8⟩
end Go.Proofs.Ytbklkpbcdijgoaa
