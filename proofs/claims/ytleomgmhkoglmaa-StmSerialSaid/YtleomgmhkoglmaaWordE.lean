/- How many cells a store has, and all its values (layer 1). -/
import Derived.Test.YtleomgmhkoglmaaWordC
namespace Go.Proofs.Ytleomgmhkoglmaa
open Go.RowKit

def u64row (v : Int) : List Value := [.int .u64 v]
theorem infoU64 : (Try.prog.info? 46).map (fun i => (i.zero, i.size, i.bytes)) = some (some (.int .u64 0), 1, 8) := by kernel_rfl

theorem len_any (p g : Nat) (s : St) (w : World) (h : StoreAt w WT p g s) :
    Calls Try.prog 25 #[.pointer (some ⟨p, 0, none⟩)] w fun e w' => e = .returned (.int .i64 s.L.length) ∧ w = w' := by
  have hcell := h.cell0
  go_enter Try.func25, Try.ntmps25
  go_wp2
  go_ret
  exact ⟨rfl, rfl⟩
set_option maxRecDepth 100000 in
set_option maxHeartbeats 800000 in
theorem values_any (p g : Nat) (s : St) (w : World) (h : StoreAt w WT p g s) :
    Calls Try.prog 15 #[.pointer (some ⟨p, 0, none⟩)] w fun e w' => e = .returned (.slice (some ⟨w.heap.size, 0, none⟩) s.L.length s.L.length) ∧ Blk w' w.heap.size 46 (flat u64row (s.L.map C.v)) ∧ Only [] w w' := by
  have hcell := h.cell0
  have hp := h.head.lt
  have hg := h.body.lt
  have hlen := h.ok.len
  have hmk := Lib.hid fun W : World => run_makeN (P := Try.prog) (t := 39) (f := u64row) 0 infoU64 Try.underlying39 (fun _ => rfl) (by omega) rfl .i64 .i64 s.L.length s.L.length (by omega) (by omega) (by omega) (by omega) W
  go_enter Try.func15, Try.ntmps15
  go_wp2
  rw [hmk.out]
  go_wp2
  go_loopw [17] (fun i wr => ∃ k : Nat, k ≤ s.L.length ∧ i = .int .i64 k ∧ Blk wr w.heap.size 46 (flat u64row (fillTo (s.L.map C.v) 0 k)) ∧ Only [] w wr) (fun i _ => s.L.length - (intOf i).toNat)
  case atStart =>
    refine ⟨0, by omega, rfl, ?_, (Only.refl _ _).alloc _⟩
    rw [fillTo_zero]
    simpa using Blk.new w 46 (flat u64row (List.replicate s.L.length 0))
  case round =>
    obtain ⟨k, hk, rfl, hb, ho⟩ := hrel
    by_cases hlt : k < s.L.length
    · have hs := h.only ho (by simp) (by simp)
      obtain ⟨c, hc⟩ : ∃ c, s.L[k]? = some c := ⟨_, List.getElem?_eq_getElem hlt⟩
      have h0 := hs.at0 hc
      have h1 := hs.at1 hc
      have h2 := hs.at2 hc
      have hgr := hs.body.lt
      have hf : wr.frozen? ⟨w.heap.size, k, none⟩ = false := hb.frozen _
      have hbl := hb.lt
      have hcm : (s.L.map C.v)[k]? = some c.v := by simp [hc]
      have hold : wr.cell? ⟨w.heap.size, k, none⟩ = some (.int .u64 0) := by
        have q := flat_at (f := u64row) (i := k) (n := 1) (j := 0) (L := fillTo (s.L.map C.v) 0 k) (fun _ => rfl) (fillTo_at (by simpa using hlt)) rfl
        rw [hb.cell]
        simpa using q
      have HS := Lib.hid hs
      clear hs
      go_wp2
      go_roundw
      case rel =>
        refine ⟨k + 1, by omega, by go_num, ?_, (ho.setCell (.inr (Nat.le_refl _)) _).alloc _⟩
        have q := hb.set_ (k * 1 + 0) (.int .u64 c.v)
        rw [flat_set (n := 1) (fun _ => rfl) (fillTo_at (by simpa using hlt)) (by omega) (b := c.v) rfl, fillTo_set hcm] at q
        rw [Nat.mul_one] at q
        exact q.alloc _
      case measure => simp [intOf]; omega
    · obtain rfl : k = s.L.length := by omega
      go_wp2
      go_ret
      refine ⟨rfl, ?_, ho⟩
      have e := fillTo_all (xs := s.L.map C.v) (z := 0)
      rw [List.length_map] at e
      rwa [e] at hb

end Go.Proofs.Ytleomgmhkoglmaa
