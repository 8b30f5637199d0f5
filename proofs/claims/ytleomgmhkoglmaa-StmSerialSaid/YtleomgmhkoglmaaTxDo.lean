/- What Do of layer 6's statements does, on whatever view whose two calls are told by a contract. -/
import Derived.Test.YtleomgmhkoglmaaRows
import Derived.Test.YtleomgmhkoglmaaTxDoM
import Derived.WalkKit
import Derived.WalkSpells
import Derived.WalkLawsBesides
import Derived.Handy
import Derived.BigQuiet
import Derived.Deep.QuietTactic
import Derived.RegionTactic
import Derived.Deep.RegionHeld3
import Derived.Lib.Hide
import Derived.Deep.Light
namespace Go.Proofs.Ytleomgmhkoglmaa
open Go.RowKit
/-- a view: its two calls, what they do -/
structure ViewOk {σ : Type} (M : Mach σ) (T : TypeId) (v : Value) (fR fW : FuncId) (Mem : Nat → World → σ → Prop) (S : List Nat) : Prop where
  mR : ∀ (n : Nat) (w : World), Sem.run Try.prog (method (n + 1) T v "Read") w = .ok (fR, v) w
  mW : ∀ (n : Nat) (w : World), Sem.run Try.prog (method (n + 1) T v "Write") w = .ok (fW, v) w
  nR : ∀ (n : Nat) (w : World), Sem.run Try.prog (nilAhead (n + 1) T v "Read") w = .ok (some false) w
  nW : ∀ (n : Nat) (w : World), Sem.run Try.prog (nilAhead (n + 1) T v "Write") w = .ok (some false) w
  eR : ∀ (args : Array Value) (w : World), (callFunc fR args).run Try.prog w = .ok (.enter fR args) w
  eW : ∀ (args : Array Value) (w : World), (callFunc fW args).run Try.prog w = .ok (.enter fW args) w
  rd : ∀ (k : Nat) (w : World) (s : σ) (i : Int), Mem k w s → Calls Try.prog fR #[v, .int .i64 i] w fun e w' => e = .returned (.int .u64 (M.rd s i).1) ∧ Mem k w' (M.rd s i).2 ∧ Only S w w'
  wr : ∀ (k : Nat) (w : World) (s : σ) (i x : Int), Mem (k + 1) w s → Calls Try.prog fW #[v, .int .i64 i, .int .u64 x] w fun e w' => e = .returned (.tuple #[]) ∧ Mem k w' (M.wr s i x) ∧ Only S w w'
  less : ∀ (k j : Nat) (w : World) (s : σ), Mem k w s → j ≤ k → Mem j w s
  drew : ∀ (k : Nat) (w : World) (s : σ), Mem k w s → Mem k w.drew s
section
variable {σ : Type} {M : Mach σ} {T : TypeId} {v : Value} {fR fW : FuncId} {Mem : Nat → World → σ → Prop} {S : List Nat}
set_option maxRecDepth 100000 in
set_option maxHeartbeats 4000000 in
theorem do_any (V : ViewOk M T v fR fW Mem S) {w : World} {A : Option Addr} {L : List O} {cap : Nat} {s0 : σ} (hL : Ops w A L) (hS : ∀ k, k ∈ blkO A L → k ∉ S) (hlen : L.length ≤ 40) (h0 : Mem L.length w s0) :
    Calls Try.prog 13 #[.iface T v, .slice A L.length cap] w fun e w' => e = .returned (.int .u64 (doL M L 0 s0).1) ∧ (∃ k, Mem k w' (doL M L 0 s0).2) ∧ Only S w w' := by
  have mR := V.mR
  have mW := V.mW
  have nR := V.nR
  have nW := V.nW
  have eR := V.eR
  have eW := V.eW
  go_enter Try.func13, Try.ntmps13
  go_wp2_with fail
  go_loopw [5, 6] (fun sm i wr => ∃ (k : Nat) (sum : Int) (s : σ), k ≤ L.length + 3 ∧ i = .int .i64 k ∧ sm = .int .u64 sum ∧ Mem (L.length - k) wr s ∧ Only S w wr ∧ doL M L 0 s0 = doL M (L.drop k) sum s) (fun _ i _ => L.length - (intOf i).toNat)
  case atStart => exact ⟨0, 0, s0, by omega, rfl, rfl, h0, Only.refl _ _, rfl⟩
  case round =>
    obtain ⟨k, sum, s, hk, rfl, rfl, hm, ho, hd⟩ := hrel
    by_cases hlt : k < L.length
    · obtain ⟨o, hx⟩ : ∃ o, L[k]? = some o := ⟨_, List.getElem?_eq_getElem hlt⟩
      obtain ⟨b, off, rfl, hb, hc⟩ := hL.at_ k o hx
      have hbS := hS b (blkO_mem rfl hx)
      have hC : ∀ W, Only S w W → (Only S w W) ∧ W.cell? ⟨b, off + k * 5, none⟩ = some (.bool o.look) ∧ W.cell? ⟨b, off + k * 5 + 1, none⟩ = some (.bool o.jump) ∧ W.cell? ⟨b, off + k * 5 + 2, none⟩ = some (.int .i64 o.src) ∧
          W.cell? ⟨b, off + k * 5 + 3, none⟩ = some (.int .i64 o.to) ∧ W.cell? ⟨b, off + k * 5 + 4, none⟩ = some (.int .u64 o.n) := fun W h => by
        have q : ∀ (j : Nat) (u : Value), o.row[j]? = some u → W.cell? ⟨b, off + k * 5 + j, none⟩ = some u := fun j u hu => (h.cell (p := ⟨b, _, none⟩) hb hbS).trans (hc j u hu)
        exact ⟨h, q 0 _ rfl, q 1 _ rfl, q 2 _ rfl, q 3 _ rfl, q 4 _ rfl⟩
      have HC := Lib.hid hC
      have hk0 : (0 : Int) ≤ (k : Int) := Int.natCast_nonneg _
      have hk1 : (k : Int) < (L.length : Int) := by omega
      have HO := Lib.hid (hL.ok k o hx)
      obtain ⟨x, s1, hrd⟩ : ∃ x s1, M.rd s o.src = (x, s1) := ⟨_, _, rfl⟩
      have hoy : Only S w wr.drew := ho.drewN 1
      have cR := V.rd _ wr.drew s o.src (V.drew _ _ _ hm)
      rw [hrd] at cR
      have HX := Lib.hid (drop_at hx)
      have HR := Lib.hid hrd
      have HD := Lib.hid hd
      clear hC hx hd hc hm hrd
      go_wp2_with fail
      go_region_held3 (fun W => Only S w W ∧ W.cell? ⟨b, off + k * 5, none⟩ = some (.bool o.look) ∧ W.cell? ⟨b, off + k * 5 + 1, none⟩ = some (.bool o.jump) ∧ W.cell? ⟨b, off + k * 5 + 2, none⟩ = some (.int .i64 o.src) ∧
          W.cell? ⟨b, off + k * 5 + 3, none⟩ = some (.int .i64 o.to) ∧ W.cell? ⟨b, off + k * 5 + 4, none⟩ = some (.int .u64 o.n))
        (first | exact HC.out _ hoy | exact HC.out _ hox)
        (first | ((with_reducible refine cR.mono ?_); clear cR; rintro e w1 ⟨rfl, hm1, ho1⟩; have hox := hoy.trans ho1))
      obtain ⟨-, z0, z1, -, z3, z4⟩ := HC.out _ hox
      clear hoy ho1 ho
      have hjs : (o.jump = true ∧ oddB x = true) ∨ (o.jump = true ∧ oddB x = false) ∨ (o.jump = false) := by
        cases o.jump <;> cases oddB x <;> simp
      rcases hjs with ⟨hj, hod⟩ | hjs
      · rw [hj] at z1
        have hod' : (x.tmod 2 == 1) = true := hod
        go_wp2_with fail
        obtain ⟨hn0, hn1⟩ : 0 ≤ o.n ∧ o.n ≤ 18446744073709551615 := by simpa [Lit.wf, IntKind.min, IntKind.max, IntKind.signed, IntKind.bits] using HO.out.n
        have et : o.n.tmod 4 = o.n % 4 := Int.tmod_eq_emod_of_nonneg hn0
        have ek : wrap64 (wrap64 (↑k + wrap64 (o.n.tmod 4)) + 1) = ((k + (o.n % 4).toNat + 1 : Nat) : Int) := by
          rw [et]
          unfold wrap64
          omega
        rw [ek]
        refine ⟨⟨k + (o.n % 4).toNat + 1, _, _, by omega, rfl, rfl, V.less _ _ _ _ hm1 (by omega), hox, ?_⟩, by simp [intOf]; omega⟩
        rw [HD.out, HX.out, doL_jump (by rw [HR.out, hj, hod]; rfl), HR.out, List.drop_drop]
        rw [show k + 1 + (o.n % 4).toNat = k + (o.n % 4).toNat + 1 by omega]
        rfl
      · have HJ : Hid ((o.jump && oddB (M.rd s o.src).1) = false) := Lib.hid (by rw [HR.out]; rcases hjs with ⟨hj, hod⟩ | hj <;> simp [*])
        have hw9 : (o.jump = true ∧ (x.tmod 2 == 1) = false) ∨ o.jump = false := hjs
        clear hjs
        cases hlo : o.look with
        | true =>
          rw [hlo] at z0
          rcases hw9 with ⟨hj, hod⟩ | hj
          all_goals
            rw [hj] at z1
            go_wp2_with fail
            refine ⟨⟨k + 1, _, _, by omega, by go_num, rfl, V.less _ _ _ _ hm1 (by omega), hox, ?_⟩, by simp [intOf]; omega⟩
            rw [HD.out, HX.out, doL_look HJ.out hlo, HR.out]
            rfl
        | false =>
          rw [hlo] at z0
          have hov : Only S w w1.drew := hox.drewN 1
          obtain ⟨j, hjk⟩ : ∃ j, L.length - k = j + 1 := ⟨L.length - k - 1, by omega⟩
          rw [hjk] at hm1
          have cW := V.wr _ w1.drew s1 o.to (IntKind.u64.wrap (x + o.n)) (V.drew _ _ _ hm1)
          rcases hw9 with ⟨hj, hod⟩ | hj
          all_goals
            rw [hj] at z1
            go_wp2_with fail
            go_region_held3 (fun W => Only S w W ∧ W.cell? ⟨b, off + k * 5, none⟩ = some (.bool o.look) ∧ W.cell? ⟨b, off + k * 5 + 1, none⟩ = some (.bool o.jump) ∧ W.cell? ⟨b, off + k * 5 + 2, none⟩ = some (.int .i64 o.src) ∧
                W.cell? ⟨b, off + k * 5 + 3, none⟩ = some (.int .i64 o.to) ∧ W.cell? ⟨b, off + k * 5 + 4, none⟩ = some (.int .u64 o.n))
              (first | exact HC.out _ hov | exact HC.out _ hoz)
              (first | ((with_reducible refine cW.mono ?_); clear cW; rintro e w2 ⟨rfl, hm2, ho2⟩; have hoz := hov.trans ho2))
            all_goals
              go_wp2_with fail
              refine ⟨⟨k + 1, _, _, by omega, by go_num, rfl, V.less _ _ _ _ hm2 (by omega), hoz, ?_⟩, by simp [intOf]; omega⟩
              rw [HD.out, HX.out, doL_put HJ.out hlo, HR.out]
              rfl
    · go_wp2_with fail
      go_ret
      have hend : doL M (L.drop k) sum s = (sum, s) := by rw [List.drop_eq_nil_of_le (by omega), doL_nil]
      rw [hd, hend]
      exact ⟨rfl, ⟨_, hm⟩, ho⟩
end
end Go.Proofs.Ytleomgmhkoglmaa
