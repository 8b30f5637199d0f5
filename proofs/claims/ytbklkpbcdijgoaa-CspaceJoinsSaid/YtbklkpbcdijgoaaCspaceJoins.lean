/- CspaceJoins' walk: for all words, all capabilities, all addresses and indexes. -/
import Derived.Test.YtbklkpbcdijgoaaCsUp
import Derived.Test.YtbklkpbcdijgoaaCdtHad
import Derived.Deep.CutBlock
import Derived.Deep.DeepCutAuto
namespace Go.Proofs.Ytbklkpbcdijgoaa
open Go.RowKit
set_option maxRecDepth 100000 in
set_option maxHeartbeats 4000000 in
theorem joins_any (B : Option Addr) (WL : List Int) (cw : Nat) (c : Cp) (addr index : Int) (w : World) (hW : Wds w B WL) (hU : Us WL) (hWl : WL.length ≤ 9223372036854775807) :
    Calls Try.prog 3 #[.slice B WL.length cw, c.v, .int .i64 addr, .int .i64 index] w fun e w' => e = .returned (.bool true) ∧ Only [] w w' := by
  have hb0 := Blk.new w CpT c.arr
  have ho0 := (Only.refl [] w).alloc (.cells c.arr CpT)
  have HB0 := Lib.hid (And.intro hb0 ho0)
  clear hb0 ho0
  go_enter Try.func3, Try.ntmps3
  go_wp2_with fail
  (with_reducible refine (up_any _).mono ?_)
  rintro e w1 ⟨rfl, ho1⟩
  have HB1 := Lib.hid (And.intro (ho1.blk HB0.out.1 (by simp)) (HB0.out.2.trans ho1))
  clear HB0 ho1
  by_cases hw7 : 738 < WL.length
  · go_wp2_with fail
    go_ret
    exact ⟨rfl, HB1.out.2⟩
  have hw7' : WL.length ≤ 738 := by omega
  clear hw7 hWl
  obtain ⟨G, hG⟩ : ∃ G, Hid (w.heap.size = G) := ⟨_, Lib.hid rfl⟩
  rw [hG.out] at HB1 ⊢
  go_wp2_with fail
  rw [made_words]
  obtain ⟨g1, hg1⟩ : ∃ g1, Hid (g1 = w1.heap.size) := ⟨_, Lib.hid rfl⟩
  obtain ⟨w2, hw2⟩ : ∃ w2, Hid (w2 = w1.alloc (.cells zerosA UT)) := ⟨_, Lib.hid rfl⟩
  rw [← hw2.out, ← hg1.out]
  have hB2 : Blk w2 g1 UT zerosA := by rw [hw2.out, hg1.out]; exact Blk.new w1 UT zerosA
  have ho2 : Only [] w w2 := by rw [hw2.out]; exact HB1.out.2.alloc _
  have hc2 : Blk w2 G CpT c.arr := by rw [hw2.out]; exact HB1.out.1.alloc _
  have hG1 : G < g1 := by rw [hg1.out]; exact HB1.out.1.lt
  have hW2 := hW.only0 ho2
  have hgw : w.heap.size ≤ g1 := by rw [hg1.out]; exact HB1.out.2.size
  have hN1 : G ∉ [g1] := by simp; omega
  have HN1 := Lib.hid (And.intro hN1 hgw)
  have HB := Lib.hid (And.intro hB2 (And.intro ho2 (And.intro hW2 hc2)))
  clear hB2 ho2 hW2 hgw hw2 hg1 hW hc2 HB1 hN1
  clear w1
  have hu := Try.underlying26
  have hsz : (Try.prog.info? UT).map (·.size) = some 1 := by kernel_rfl
  have HU := Lib.hid (And.intro hu hsz)
  clear hu hsz
  go_wp2_with (with_reducible refine wpList_copy_words rfl (.tmp 23) (.tmp 24) 26 22 UT rfl HU.out.1 HU.out.2 g1 B WL cw rfl rfl HB.out.1 HB.out.2.2.1 hU hw7' ?_; intro w3 hm3 ho3; obtain ⟨k0, k1, k2, k3, k4, k5⟩ := (ho3.blk HB.out.2.2.2 HN1.out.1).cap)
  have ho3w : Only [] w w3 := HB.out.2.1.then ho3 (fun z hz => .inr (by have := HN1.out.2; simp at hz; omega))
  have hc3 := ho3.blk HB.out.2.2.2 HN1.out.1
  obtain ⟨n, z, hlk⟩ : ∃ n z, lookL (overZ WL) c addr = (n, z) := ⟨_, _, rfl⟩
  have hin := fun e => lookL_in (c := c) (addr := addr) hm3.us e
  rw [hlk] at hin
  have HI := Lib.hid hin
  have cL := plook_is hm3 hlk
  obtain ⟨ev, hev⟩ : ∃ ev, errV z = ev := ⟨_, rfl⟩
  rw [hev] at cL
  have HE := Lib.hid hev
  have H3 := Lib.hid (And.intro ho3w hc3)
  clear hin hlk hm3 ho3 ho3w hc3 HB HU hev
  clear w2
  (with_reducible refine cL.mono ?_)
  clear cL k0 k1 k2 k3 k4 k5
  rintro e w4 ⟨rfl, hm4, ho4⟩
  have hc4 := ho4.blk H3.out.2 HN1.out.1
  have ho4w : Only [] w w4 := H3.out.1.then ho4 (fun z hz => .inr (by have := HN1.out.2; simp at hz; omega))
  have H4 := Lib.hid (And.intro hm4 (And.intro hc4 ho4w))
  clear hm4 hc4 ho4 ho4w H3
  go_upto_region 7 with fail
  go_cut [50] (fun v W => v = .bool false ∧ Only [] w W)
  case first =>
    by_cases hz : z = 0
    · subst hz
      obtain ⟨⟨hn0, hn9⟩, hf⟩ := HI.out rfl
      have cF := pcfine_is (L := overZ WL) (c := c) (q := true) H4.out.1 hf
      obtain ⟨k0, k1, k2, k3, k4, k5⟩ := H4.out.2.1.cap
      clear hf HI
      have he := HE.out
      rw [errV_nil] at he
      clear HE
      subst he
      go_wp2_with fail
      (with_reducible refine cF.mono ?_)
      clear cF k0 k1 k2 k3 k4 k5
      rintro e w5 ⟨rfl, hm5, ho5⟩
      have ho5w : Only [] w w5 := H4.out.2.2.then ho5 (fun z hz => .inr (by have := HN1.out.2; simp at hz; omega))
      go_wp2_with fail
      go_meet
      exact ⟨by simp; omega, ho5w⟩
    · have he := HE.out
      rw [errV_some hz] at he
      clear HE
      subst he
      go_wp2_with fail
      go_meet
      exact ⟨rfl, H4.out.2.2⟩
  case rest =>
    obtain ⟨rfl, ho⟩ := hcut
    clear HI H4 HN1 HE
    go_wp2_with fail
    (with_reducible refine (boot2_any _).mono ?_)
    rintro e w5 ⟨gs, go, rfl, hr, hgs, hgo, ho5⟩
    have hR5 := hr.rootAt boot2_root
    have cW := rwordsG_any hr (boot_fitG (by decide))
    obtain ⟨p, hp⟩ : ∃ p, Hid (wc.heap.size = p) := ⟨_, Lib.hid rfl⟩
    rw [hp.out] at hR5 cW
    rw [hp.out]
    replace ho := ho.trans ho5
    clear hr hgs hgo ho5 hp
    go_wp2_with fail
    (with_reducible refine cW.mono ?_)
    clear cW
    rintro e w6 ⟨rfl, hm6, ho6⟩
    have hR6 := hR5.only ho6 (by simp) (by simp)
    have hgw := ho.size
    replace ho6 := ho.trans ho6
    obtain ⟨g, hg⟩ : ∃ g, Hid (w5.heap.size = g) := ⟨_, Lib.hid rfl⟩
    rw [hg.out] at hm6 hgw ⊢
    obtain ⟨n2, z2, hlk⟩ : ∃ n2 z2, lookL (bootL 2) (rootC 2) index = (n2, z2) := ⟨_, _, rfl⟩
    have cL : Calls Try.prog 5 #[.iface PwT (.slice (some ⟨g, 0, none⟩) 738 738), .agg (rootA 2), .int .i64 index] w6 fun e w' => e = .returned (.tuple #[.int .i64 n2, errV z2]) ∧ MemP g 738 UT w' (bootL 2) ∧ Only [g] w6 w' := plook_is (L := bootL 2) (c := rootC 2) hm6 hlk
    obtain ⟨lp, lg, ⟨co, c1⟩, r0, r1, r2, r3, r4, r5⟩ := hR6
    have HO := Lib.hid (And.intro ho6 hgw)
    have HL := Lib.hid hlk
    clear ho6 hgw hR5 hm6 ho hg hlk
    clear w5
    go_wp2_with fail
    (with_reducible refine cL.mono ?_)
    clear cL c1 r0 r1 r2 r3 r4 r5 lp lg
    rintro e w7 ⟨rfl, -, ho7⟩
    have HO7 := Lib.hid (HO.out.1.then ho7 (fun z hz => .inr (by have := HO.out.2; simp at hz; omega)))
    clear ho7 HO
    by_cases h0 : 0 ≤ index
    · by_cases h31 : index ≤ 31
      · have e := HL.out
        rw [b2_look h0 h31] at e
        cases e
        rw [errV_nil]
        have hw8 : IntKind.i64.wrap (8 + index) = 8 + index := IntWalk.i64_in _ (by omega)
        go_wp2_with fail
        go_ret
        exact ⟨rfl, HO7.out⟩
      · have h32 : 31 < index := by omega
        have hz : z2 ≠ 0 := by
          have := b2_none (i := index) (.inr h32)
          rw [HL.out] at this
          exact this
        rw [errV_some hz]
        clear hz h31
        go_wp2_with fail
        go_ret
        exact ⟨rfl, HO7.out⟩
    · have h0' : index < 0 := by omega
      have hz : z2 ≠ 0 := by
        have := b2_none (i := index) (.inl h0')
        rw [HL.out] at this
        exact this
      rw [errV_some hz]
      clear hz h0
      go_wp2_with fail
      go_ret
      exact ⟨rfl, HO7.out⟩
end Go.Proofs.Ytbklkpbcdijgoaa
