/- What the function does that TxFirst runs (layer 6). -/
import Derived.Test.YtbjookkbbdphnaaTxUp
import Derived.Test.YtbjookkbbdphnaaTxFirstM
namespace Go.Proofs.Ytbjookkbbdphnaa
open Go.RowKit Go.Maps
/-- where the function's numbers lie, all below B -/
structure FirstAt (w : World) (B p1 p2 p3 : Nat) (A : Option Addr) (cap : Nat) (L : List Int) (cells : Int) : Prop where
  b1 : p1 < B
  b2 : p2 < B
  b3 : p3 < B
  size : B ≤ w.heap.size
  c1 : w.cell? ⟨p1, 0, none⟩ = some (.slice A L.length cap)
  c2 : w.cell? ⟨p2, 0, none⟩ = some (.int .i64 cells)
  c3 : w.cell? ⟨p3, 0, none⟩ = some (.int .i64 0)
  at_ : ∀ (k : Nat) (x : Int), L[k]? = some x → ∃ b off, A = some ⟨b, off, none⟩ ∧ b < B ∧ w.cell? ⟨b, off + k, none⟩ = some (.int .i64 x)
theorem FirstAt.only {w w' : World} {B p1 p2 p3 cap : Nat} {A : Option Addr} {L : List Int} {cells : Int} {S : List Nat} (h : FirstAt w B p1 p2 p3 A cap L cells) (ho : Only S w w') (hS : ∀ k, k ∈ S → B ≤ k) : FirstAt w' B p1 p2 p3 A cap L cells := by
  have hc : ∀ p : Addr, p.block < B → w'.cell? p = w.cell? p := fun p hp => ho.cell (Nat.lt_of_lt_of_le hp h.size) fun hm => by have := hS _ hm; omega
  refine ⟨h.b1, h.b2, h.b3, Nat.le_trans h.size ho.size, (hc ⟨p1, 0, none⟩ h.b1).trans h.c1, (hc ⟨p2, 0, none⟩ h.b2).trans h.c2, (hc ⟨p3, 0, none⟩ h.b3).trans h.c3, fun k x hx => ?_⟩
  obtain ⟨b, off, hA, hb, hx⟩ := h.at_ k x hx
  exact ⟨b, off, hA, hb, (hc ⟨b, _, none⟩ hb).trans hx⟩
section
variable {w : World} {bt bm n bd bw sz : Nat} {cells : Int} {last : Value} {R : Int → Option Cl} {B p1 p2 p3 cap : Nat} {A : Option Addr} {L : List Int}
set_option maxRecDepth 100000 in
set_option maxHeartbeats 4000000 in
theorem first1_any (hr : RecAt w bt bm n cells last R sz) (hd : DraftAt w bd bw bt 0 Dt.new false) (hF : FirstAt w B p1 p2 p3 A cap L cells) (hbd : B ≤ bd) (hbw : B ≤ bw) (hmw : bm ≠ bw) (hl : L.length ≤ 50) :
    Calls Try.prog 17 #[.iface 64 (.pointer (some ⟨bd, 0, none⟩)), .pointer (some ⟨p1, 0, none⟩), .pointer (some ⟨p2, 0, none⟩), .pointer (some ⟨p3, 0, none⟩)] w fun e w' => e = .returned (.tuple #[]) ∧
      ∃ m s, DraftAt w' bd bw bt m s false ∧ Only [bd, bw] w w' ∧ s.lk = firstOf cells R L := by
  have mR := fun (n : Nat) (w : World) => meth_dread n (.pointer (some ⟨bd, 0, none⟩)) w
  have mW := fun (n : Nat) (w : World) => meth_dwrite n (.pointer (some ⟨bd, 0, none⟩)) w
  have nW := fun (n : Nat) (w : World) => nil_dwrite n ⟨bd, 0, none⟩ w
  have nR := fun (n : Nat) (w : World) => nil_dread n ⟨bd, 0, none⟩ w
  have hne := Lib.hid (hr.ne hd)
  have hbt := hr.blk.lt
  have hlim := hr.lim
  go_enter Try.func17, Try.ntmps17
  go_wp2_with fail
  go_loopw [5] (fun i wr => ∃ (k m : Nat) (s : Dt), k ≤ L.length ∧ i = .int .i64 k ∧ m ≤ k ∧ DraftAt wr bd bw bt m s false ∧ Only [bd, bw] w wr ∧ s.lk = firstOf cells R (L.take k)) (fun i _ => L.length - (intOf i).toNat)
  case atStart => exact ⟨0, 0, Dt.new, by omega, rfl, by omega, hd, Only.refl _ _, rfl⟩
  case round =>
    obtain ⟨k, m, s, hk, rfl, hmk, hdx, hox, hlk⟩ := hrel
    have hrx := hr.only hox (by have := hne.out; simp; exact ⟨this.2.2.1, this.2.1⟩) (by have := hne.out; simp; exact ⟨fun e => this.2.2.2.2 e.symm, hmw⟩)
    have hFx := hF.only hox (by simp; omega)
    have c1 := hFx.c1
    by_cases hlt : k < L.length
    · obtain ⟨x, hx⟩ : ∃ x, L[k]? = some x := ⟨_, List.getElem?_eq_getElem hlt⟩
      obtain ⟨b, off, rfl, hb, hcx⟩ := hFx.at_ k x hx
      have hX := Lib.hid hx
      have hLK := Lib.hid hlk
      have hD0 : ∀ W, Only [bd, bw] w W → (Only [bd, bw] w W) ∧ W.cell? ⟨p1, 0, none⟩ = some (.slice (some ⟨b, off, none⟩) L.length cap) ∧ W.cell? ⟨p2, 0, none⟩ = some (.int .i64 cells) ∧ W.cell? ⟨b, off + k, none⟩ = some (.int .i64 x) := fun W h => by
        have hF' := hF.only h (by simp; omega)
        obtain ⟨b', off', e, hb', hc'⟩ := hF'.at_ k x hX.out
        injection e with e
        injection e with e1 e2 _
        subst e1 e2
        exact ⟨h, hF'.c1, hF'.c2, hc'⟩
      have hD := Lib.hid hD0
      have hk0 : (0 : Int) ≤ (k : Int) := Int.natCast_nonneg _
      have hk1 : (k : Int) < (L.length : Int) := by omega
      have hRec : ∀ W, Only [bd, bw] w W → RecAt W bt bm n cells last R sz := fun W h => hr.only h (by have := hne.out; simp; exact ⟨this.2.2.1, this.2.1⟩) (by have := hne.out; simp; exact ⟨fun e => this.2.2.2.2 e.symm, hmw⟩)
      have hRC := Lib.hid hRec
      have hm50 : m < maxLen := by unfold maxLen; omega
      have hM := Lib.hid hm50
      clear hx hlk hD0 hRec hm50 hFx
      have hstep : stepLk cells R s.lk x = firstOf cells R (L.take (k + 1)) := by rw [firstOf_take hX.out, hLK.out]
      have hST := Lib.hid hstep
      clear hstep
      by_cases hpar : ((k : Int) % 2 == 1) = true
      · go_wp2_with fail
        have hoy : Only [bd, bw] w wr.drew := hox.drewN 1
        have hdy : DraftAt wr.drew bd bw bt m s false := hdx.drewN 1
        have cW := dwrite_any (hRC.out _ hoy) hdy x 5 hM.out
        clear hdx
        go_region_held3 (fun W => (Only [bd, bw] w W) ∧ W.cell? ⟨p1, 0, none⟩ = some (.slice (some ⟨b, off, none⟩) L.length cap) ∧ W.cell? ⟨p2, 0, none⟩ = some (.int .i64 cells) ∧ W.cell? ⟨b, off + k, none⟩ = some (.int .i64 x))
          (first | exact hD.out _ hoy | exact hD.out _ hox)
          (first | (go_at_call 72; (with_reducible refine cW.mono ?_); clear cW; rintro e w1 ⟨rfl, hdx, ho1⟩; replace hox := hoy.trans ho1))
        all_goals
          obtain ⟨m1, hm1⟩ : ∃ m1, m + 1 = m1 := ⟨_, rfl⟩
          obtain ⟨s1, hs1⟩ : ∃ s1, wrD cells R s x 5 = s1 := ⟨_, rfl⟩
          rw [hm1, hs1] at hdx
          have hST1 : Hid (stepLk cells R s1.lk x = firstOf cells R (L.take (k + 1)) ∧ m1 ≤ k + 1) := Lib.hid ⟨by rw [← hs1, wrD_lk, stepLk_twice]; exact hST.out, by omega⟩
          clear hoy hdy ho1 hs1 hm1
          have hrx := hRC.out _ hox
          obtain ⟨_, z1, z2, z3⟩ := hD.out _ hox
          have hxc : x < 0 ∨ (¬ x < 0 ∧ cells ≤ x) ∨ (¬ x < 0 ∧ ¬ cells ≤ x) := by omega
          go_wp2_with fail
          rcases hxc with hx1 | ⟨hx1, hx2⟩ | ⟨hx1, hx2⟩
          · have q1 : decide (x < 0) = true := by simpa using hx1
            have cN := inB_no.2 (show x < 0 ∨ cells ≤ x by omega)
            go_quiet ((go_at_call 71; exact Calls.quiet_of_same (dread_out (hrx.drewN _) (hdx.drewN _) cN)))
            go_wp2_with fail
            have hox2 : Only [bd, bw] w (w1.drewN nq) := hox.drewN nq
            have hdx2 : DraftAt (w1.drewN nq) bd bw bt m1 s1 false := hdx.drewN nq
            generalize w1.drewN nq = wz at hox2 hdx2 ⊢
            clear hox hdx hrx z1 z2 z3 q1
            have hoy : Only [bd, bw] w wz.drew := hox2.drewN 1
            have hdy : DraftAt wz.drew bd bw bt m1 s1 false := hdx2.drewN 1
            have cR := dread_any (hRC.out _ hoy) hdy x
            clear hox2 hdx2
            go_region_held3 (fun W => (Only [bd, bw] w W) ∧ W.cell? ⟨p1, 0, none⟩ = some (.slice (some ⟨b, off, none⟩) L.length cap) ∧ W.cell? ⟨p2, 0, none⟩ = some (.int .i64 cells) ∧ W.cell? ⟨b, off + k, none⟩ = some (.int .i64 x))
              (first | exact hD.out _ hoy | exact hD.out _ hox)
              (first | (go_at_call 71; (with_reducible refine cR.mono ?_); clear cR; rintro e w2 ⟨rfl, hdx, ho1⟩; have hox := hoy.trans (ho1.more (S' := [bd, bw]) (by simp +contextual))))
            all_goals
              clear hoy hdy ho1
              go_wp2_with fail
              exact ⟨⟨k + 1, m1, _, by omega, by go_num, hST1.out.2, hdx, hox, by rw [rdD_lk]; exact hST1.out.1⟩, by simp [intOf]; omega⟩
          · have q1 : decide (x < 0) = false := by simpa using hx1
            have q2 : decide (cells ≤ x) = true := by simpa using hx2
            have cN := inB_no.2 (show x < 0 ∨ cells ≤ x by omega)
            go_quiet ((go_at_call 71; exact Calls.quiet_of_same (dread_out (hrx.drewN _) (hdx.drewN _) cN)))
            go_wp2_with fail
            have hox2 : Only [bd, bw] w (w1.drewN nq) := hox.drewN nq
            have hdx2 : DraftAt (w1.drewN nq) bd bw bt m1 s1 false := hdx.drewN nq
            generalize w1.drewN nq = wz at hox2 hdx2 ⊢
            clear hox hdx hrx z1 z2 z3 q1
            have hoy : Only [bd, bw] w wz.drew := hox2.drewN 1
            have hdy : DraftAt wz.drew bd bw bt m1 s1 false := hdx2.drewN 1
            have cR := dread_any (hRC.out _ hoy) hdy x
            clear hox2 hdx2
            go_region_held3 (fun W => (Only [bd, bw] w W) ∧ W.cell? ⟨p1, 0, none⟩ = some (.slice (some ⟨b, off, none⟩) L.length cap) ∧ W.cell? ⟨p2, 0, none⟩ = some (.int .i64 cells) ∧ W.cell? ⟨b, off + k, none⟩ = some (.int .i64 x))
              (first | exact hD.out _ hoy | exact hD.out _ hox)
              (first | (go_at_call 71; (with_reducible refine cR.mono ?_); clear cR; rintro e w2 ⟨rfl, hdx, ho1⟩; have hox := hoy.trans (ho1.more (S' := [bd, bw]) (by simp +contextual))))
            all_goals
              clear hoy hdy ho1
              go_wp2_with fail
              exact ⟨⟨k + 1, m1, _, by omega, by go_num, hST1.out.2, hdx, hox, by rw [rdD_lk]; exact hST1.out.1⟩, by simp [intOf]; omega⟩
          · have q1 : decide (x < 0) = false := by simpa using hx1
            have q2 : decide (cells ≤ x) = false := by simpa using hx2
            go_quiet (fail)
            go_wp2_with fail
            have hox2 : Only [bd, bw] w (w1.drewN nq) := hox.drewN nq
            have hdx2 : DraftAt (w1.drewN nq) bd bw bt m1 s1 false := hdx.drewN nq
            generalize w1.drewN nq = wz at hox2 hdx2 ⊢
            clear hox hdx hrx z1 z2 z3 q1
            have hoy : Only [bd, bw] w wz.drew := hox2.drewN 1
            have hdy : DraftAt wz.drew bd bw bt m1 s1 false := hdx2.drewN 1
            have cR := dread_any (hRC.out _ hoy) hdy x
            clear hox2 hdx2
            go_region_held3 (fun W => (Only [bd, bw] w W) ∧ W.cell? ⟨p1, 0, none⟩ = some (.slice (some ⟨b, off, none⟩) L.length cap) ∧ W.cell? ⟨p2, 0, none⟩ = some (.int .i64 cells) ∧ W.cell? ⟨b, off + k, none⟩ = some (.int .i64 x))
              (first | exact hD.out _ hoy | exact hD.out _ hox)
              (first | (go_at_call 71; (with_reducible refine cR.mono ?_); clear cR; rintro e w2 ⟨rfl, hdx, ho1⟩; have hox := hoy.trans (ho1.more (S' := [bd, bw]) (by simp +contextual))))
            all_goals
              clear hoy hdy ho1
              go_wp2_with fail
              exact ⟨⟨k + 1, m1, _, by omega, by go_num, hST1.out.2, hdx, hox, by rw [rdD_lk]; exact hST1.out.1⟩, by simp [intOf]; omega⟩
      · have hpar' : ((k : Int) % 2 == 1) = false := by simpa using hpar
        clear hpar
        obtain ⟨m1, hm1⟩ : ∃ m1, m = m1 := ⟨_, rfl⟩
        obtain ⟨s1, hs1⟩ : ∃ s1, s = s1 := ⟨_, rfl⟩
        rw [hm1, hs1] at hdx
        have hST1 : Hid (stepLk cells R s1.lk x = firstOf cells R (L.take (k + 1)) ∧ m1 ≤ k + 1) := Lib.hid ⟨by rw [← hs1]; exact hST.out, by omega⟩
        clear hs1 hm1
        have hrx := hRC.out _ hox
        obtain ⟨_, z1, z2, z3⟩ := hD.out _ hox
        have hxc : x < 0 ∨ (¬ x < 0 ∧ cells ≤ x) ∨ (¬ x < 0 ∧ ¬ cells ≤ x) := by omega
        go_wp2_with fail
        rcases hxc with hx1 | ⟨hx1, hx2⟩ | ⟨hx1, hx2⟩
        · have q1 : decide (x < 0) = true := by simpa using hx1
          have cN := inB_no.2 (show x < 0 ∨ cells ≤ x by omega)
          go_quiet ((go_at_call 71; exact Calls.quiet_of_same (dread_out (hrx.drewN _) (hdx.drewN _) cN)))
          go_wp2_with fail
          have hox2 : Only [bd, bw] w (wr.drewN nq) := hox.drewN nq
          have hdx2 : DraftAt (wr.drewN nq) bd bw bt m1 s1 false := hdx.drewN nq
          generalize wr.drewN nq = wz at hox2 hdx2 ⊢
          clear hox hdx hrx z1 z2 z3 q1
          have hoy : Only [bd, bw] w wz.drew := hox2.drewN 1
          have hdy : DraftAt wz.drew bd bw bt m1 s1 false := hdx2.drewN 1
          have cR := dread_any (hRC.out _ hoy) hdy x
          clear hox2 hdx2
          go_region_held3 (fun W => (Only [bd, bw] w W) ∧ W.cell? ⟨p1, 0, none⟩ = some (.slice (some ⟨b, off, none⟩) L.length cap) ∧ W.cell? ⟨p2, 0, none⟩ = some (.int .i64 cells) ∧ W.cell? ⟨b, off + k, none⟩ = some (.int .i64 x))
            (first | exact hD.out _ hoy | exact hD.out _ hox)
            (first | (go_at_call 71; (with_reducible refine cR.mono ?_); clear cR; rintro e w2 ⟨rfl, hdx, ho1⟩; have hox := hoy.trans (ho1.more (S' := [bd, bw]) (by simp +contextual))))
          all_goals
            clear hoy hdy ho1
            go_wp2_with fail
            exact ⟨⟨k + 1, m1, _, by omega, by go_num, hST1.out.2, hdx, hox, by rw [rdD_lk]; exact hST1.out.1⟩, by simp [intOf]; omega⟩
        · have q1 : decide (x < 0) = false := by simpa using hx1
          have q2 : decide (cells ≤ x) = true := by simpa using hx2
          have cN := inB_no.2 (show x < 0 ∨ cells ≤ x by omega)
          go_quiet ((go_at_call 71; exact Calls.quiet_of_same (dread_out (hrx.drewN _) (hdx.drewN _) cN)))
          go_wp2_with fail
          have hox2 : Only [bd, bw] w (wr.drewN nq) := hox.drewN nq
          have hdx2 : DraftAt (wr.drewN nq) bd bw bt m1 s1 false := hdx.drewN nq
          generalize wr.drewN nq = wz at hox2 hdx2 ⊢
          clear hox hdx hrx z1 z2 z3 q1
          have hoy : Only [bd, bw] w wz.drew := hox2.drewN 1
          have hdy : DraftAt wz.drew bd bw bt m1 s1 false := hdx2.drewN 1
          have cR := dread_any (hRC.out _ hoy) hdy x
          clear hox2 hdx2
          go_region_held3 (fun W => (Only [bd, bw] w W) ∧ W.cell? ⟨p1, 0, none⟩ = some (.slice (some ⟨b, off, none⟩) L.length cap) ∧ W.cell? ⟨p2, 0, none⟩ = some (.int .i64 cells) ∧ W.cell? ⟨b, off + k, none⟩ = some (.int .i64 x))
            (first | exact hD.out _ hoy | exact hD.out _ hox)
            (first | (go_at_call 71; (with_reducible refine cR.mono ?_); clear cR; rintro e w2 ⟨rfl, hdx, ho1⟩; have hox := hoy.trans (ho1.more (S' := [bd, bw]) (by simp +contextual))))
          all_goals
            clear hoy hdy ho1
            go_wp2_with fail
            exact ⟨⟨k + 1, m1, _, by omega, by go_num, hST1.out.2, hdx, hox, by rw [rdD_lk]; exact hST1.out.1⟩, by simp [intOf]; omega⟩
        · have q1 : decide (x < 0) = false := by simpa using hx1
          have q2 : decide (cells ≤ x) = false := by simpa using hx2
          go_quiet (fail)
          go_wp2_with fail
          have hox2 : Only [bd, bw] w (wr.drewN nq) := hox.drewN nq
          have hdx2 : DraftAt (wr.drewN nq) bd bw bt m1 s1 false := hdx.drewN nq
          generalize wr.drewN nq = wz at hox2 hdx2 ⊢
          clear hox hdx hrx z1 z2 z3 q1
          have hoy : Only [bd, bw] w wz.drew := hox2.drewN 1
          have hdy : DraftAt wz.drew bd bw bt m1 s1 false := hdx2.drewN 1
          have cR := dread_any (hRC.out _ hoy) hdy x
          clear hox2 hdx2
          go_region_held3 (fun W => (Only [bd, bw] w W) ∧ W.cell? ⟨p1, 0, none⟩ = some (.slice (some ⟨b, off, none⟩) L.length cap) ∧ W.cell? ⟨p2, 0, none⟩ = some (.int .i64 cells) ∧ W.cell? ⟨b, off + k, none⟩ = some (.int .i64 x))
            (first | exact hD.out _ hoy | exact hD.out _ hox)
            (first | (go_at_call 71; (with_reducible refine cR.mono ?_); clear cR; rintro e w2 ⟨rfl, hdx, ho1⟩; have hox := hoy.trans (ho1.more (S' := [bd, bw]) (by simp +contextual))))
          all_goals
            clear hoy hdy ho1
            go_wp2_with fail
            exact ⟨⟨k + 1, m1, _, by omega, by go_num, hST1.out.2, hdx, hox, by rw [rdD_lk]; exact hST1.out.1⟩, by simp [intOf]; omega⟩
    · go_wp2_with fail
      go_end0
      obtain rfl : k = L.length := by omega
      rw [List.take_length] at hlk
      exact ⟨rfl, m, s, hdx, hox, hlk⟩
end
end Go.Proofs.Ytbjookkbbdphnaa
