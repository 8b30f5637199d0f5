/- What List and New make; workers' jobs, as they come in: are they few; their feeds (layer 8). -/
import Derived.Test.YtleomgmhkoglmaaStmObs
import Derived.Deep.AppendLies
namespace Go.Proofs.Ytleomgmhkoglmaa
section
open Go.RowKit Go.Maps
theorem infoPW : (Try.prog.info? 67).map (fun i => (i.zero, i.size, i.bytes)) = some (some (.pointer none), 1, 8) := by kernel_rfl
section
variable {base : Nat} {w : World}
set_option maxRecDepth 100000 in
set_option maxHeartbeats 1600000 in
theorem list_any {A : Option Addr} {vs : List Value} {js : List Jb} (cap : Nat) (h : RowsAt w A vrow 1 vs) (hl : vs.length = js.length) (hv : ∀ (i : Nat) (v : Value) (j : Jb), vs[i]? = some v → js[i]? = some j → JobAt base w v j) (h8 : js.length ≤ 8) :
    Calls Try.prog 19 #[.slice A js.length cap] w fun e w' => ∃ fv, e = .returned fv ∧ FeedAt base w' fv js ∧ Only [] w w' := by
  have h1 : ∀ v ∈ vs, v.oneCell' = true := fun v hm => by
    obtain ⟨i, hi⟩ := List.getElem?_of_mem hm
    have hil := (List.getElem?_eq_some_iff.1 hi).1
    obtain ⟨j, hj⟩ : ∃ j, js[i]? = some j := ⟨_, List.getElem?_eq_getElem (by omega)⟩
    obtain ⟨G, caps, rfl⟩ := (hv i v j hi hj).func
    rfl
  have cC := cloneJ_any cap h (by omega) h1
  rw [hl] at cC
  have H := Lib.hid hv
  clear hv h
  go_enter Try.func19, Try.ntmps19
  go_wp2_with fail
  refine cC.mono ?_
  rintro e w1 ⟨A', cap', rfl, hN, ho⟩
  go_wp2_with fail
  go_ret
  have hb := Blk.new w1 JobsT #[.slice A' js.length cap']
  have ho2 : Only [] w1 (w1.alloc (.cells #[.slice A' js.length cap'] JobsT)) := (Only.refl _ _).alloc _
  refine ⟨_, rfl, ⟨w1.heap.size, A', cap', rfl, hb, fun i j hj => ?_⟩, ho.trans ho2⟩
  have hil := (List.getElem?_eq_some_iff.1 hj).1
  obtain ⟨v, hi⟩ : ∃ v, vs[i]? = some v := ⟨_, List.getElem?_eq_getElem (by omega)⟩
  obtain ⟨g, cur, hA, hg, hc⟩ := hN i v hi
  have := hc 0 v rfl
  exact ⟨g, cur, v, hA, ho2.blk hg (by simp), by simpa using this, ((H.out i v j hi hj).only ho Clear.nil (by simp)).only ho2 Clear.nil (by simp)⟩
theorem madeKeep {S : List Nat} {w1 w2 w5 : World} {t e : TypeId} {cs : Array Value} {x size n bs : Nat} {v : Value} {zs : List Value} (ho : Only S w1 w2) (hb : Blk w1 x t cs) (ht : w2.ownsRow bs e size v n zs) (hg : w2.grownBy w5 v.ownBlock) (hne : t ≠ e) (hS : x ∉ S := by simp) : Blk w5 x t cs := by
  have hb2 := ho.blk hb hS
  refine (hg.block x hb2.lt (fun e => ?_)).trans hb2
  obtain ⟨cur, hc⟩ := owns_blk ht (x := x) (by rw [← e]; simp)
  exact hne (hb2.uniq hc).1
/-- a worker as it is made -/
def MadeAt (w : World) (pw : Nat) (fv : Value) : Prop := Blk w pw WkT #[fv, .slice none 0 0, .nilFunc, .pointer none, .pointer none, .int .i64 0]
/-- what New leaves -/
structure NewAt (w w' : World) (ps : Nat) (fvs : List Value) (pm : Nat) (AW : Option Addr) (cW : Nat) (Pw : List Nat) : Prop where
  mach : Blk w' pm MT #[.pointer (some ⟨ps, 0, none⟩), .slice AW fvs.length cW, .int .i64 0, .slice none 0 0]
  row : RowN w' AW PWT ptr 1 Pw
  len : Pw.length = fvs.length
  nodup : Pw.Nodup
  wk : ∀ (i pw : Nat) (fv : Value), Pw[i]? = some pw → fvs[i]? = some fv → w.heap.size ≤ pw ∧ MadeAt w' pw fv
  pm : w.heap.size ≤ pm
  ho : Only [] w w'
theorem feedEq (G : FuncId) (caps : Array Value) (w : World) : (binOp .eql 56 (.func (.func G) #[] caps) .nilFunc).run Try.prog w = .ok (.bool false) w := by kernel_rfl
theorem feedNil (w : World) : (binOp .eql 56 .nilFunc .nilFunc).run Try.prog w = .ok (.bool true) w := by kernel_rfl
set_option maxRecDepth 100000 in
set_option maxHeartbeats 2000000 in
theorem new_nil {b off cap ps : Nat} (hc : w.cell? ⟨b, off, none⟩ = some .nilFunc) (hb : b < w.heap.size) : Calls Try.prog 8 #[.pointer (some ⟨ps, 0, none⟩), .slice (some ⟨b, off, none⟩) 1 cap] w fun e w' => e = .returned (.tuple #[.pointer none, .iface 60 (.int .i64 1)]) ∧ Only [] w w' := by
  have hq := feedNil
  go_enter Try.func8, Try.ntmps8
  go_wp2_with fail
  go_loopw [22] (fun i wr => i = .int .i64 0 ∧ Only [] w wr) (fun _ _ => 0)
  case atStart => exact ⟨rfl, (Only.refl _ _).alloc _⟩
  case round =>
    obtain ⟨rfl, ho⟩ := hrel
    have hc' := (ho.cell (p := ⟨b, off, none⟩) hb (by simp)).trans hc
    go_wp2_with fail
    go_ret2
    exact ⟨rfl, ho⟩
set_option maxRecDepth 100000 in
set_option maxHeartbeats 2000000 in
theorem new_ok {A : Option Addr} {fvs : List Value} {ps : Nat} (cap : Nat) (hA : RowsAt w A vrow 1 fvs) (hF : ∀ (i : Nat) (v : Value), fvs[i]? = some v → ∃ F fc, v = .func (.func F) #[] fc) (h8 : fvs.length ≤ 8) :
    Calls Try.prog 8 #[.pointer (some ⟨ps, 0, none⟩), .slice A fvs.length cap] w fun e w' => ∃ pm AW cW Pw, e = .returned (.tuple #[.pointer (some ⟨pm, 0, none⟩), .nilIface]) ∧ NewAt w w' ps fvs pm AW cW Pw := by
  obtain ⟨i0, hi, hz0, hz1, hz2⟩ := info_parts infoPW
  go_enter Try.func8, Try.ntmps8
  go_wp2_with fail
  have hb0 : Blk (w.alloc (.cells #[.pointer (some ⟨ps, 0, none⟩), .slice none 0 0, .int .i64 0, .slice none 0 0] MT)) w.heap.size MT #[.pointer (some ⟨ps, 0, none⟩), .slice none 0 0, .int .i64 0, .slice none 0 0] := Blk.new _ _ _
  have ho0 : Only [] w (w.alloc (.cells #[.pointer (some ⟨ps, 0, none⟩), .slice none 0 0, .int .i64 0, .slice none 0 0] MT)) := (Only.refl _ _).alloc _
  have HA := Lib.hid (And.intro hA hF)
  go_loopw [22] (fun i wr => ∃ (k : Nat) (v : Value) (Pw : List Nat), k ≤ fvs.length ∧ i = .int .i64 k ∧ Blk wr w.heap.size MT #[.pointer (some ⟨ps, 0, none⟩), v, .int .i64 0, .slice none 0 0] ∧ wr.ownsRow w.heap.size PWT 1 v k (Pw.flatMap ptr) ∧ Pw.length = k ∧ Pw.Nodup ∧
    (∀ (i pw : Nat) (fv : Value), Pw[i]? = some pw → fvs[i]? = some fv → w.heap.size ≤ pw ∧ MadeAt wr pw fv) ∧ Only [] w wr) (fun i _ => fvs.length - (intOf i).toNat)
  case atStart => exact ⟨0, .slice none 0 0, [], by omega, rfl, hb0, World.ownsRow_nil _ _ _ _, rfl, List.nodup_nil, fun i pw fv h => by simp at h, ho0⟩
  case round =>
    clear hb0 ho0
    obtain ⟨k, v, Pw, hk, rfl, hb, hown, hPl, hnd, hwk, ho⟩ := hrel
    by_cases hlt : k < fvs.length
    · obtain ⟨fv, hfv⟩ : ∃ fv, fvs[k]? = some fv := ⟨_, List.getElem?_eq_getElem hlt⟩
      obtain ⟨F, fc, rfl⟩ := hF k fv hfv
      obtain ⟨b, off, rfl, hbl, hc⟩ := hA k _ hfv
      have hc0 := hc 0 _ rfl
      simp only [Nat.mul_one, Nat.add_zero] at hc0
      have hc1 := (ho.cell (p := ⟨b, off + k, none⟩) hbl (by simp)).trans hc0
      have hq := feedEq F fc
      have hk0 : (0 : Int) ≤ (k : Int) := by omega
      have hk1 : (k : Int) < (fvs.length : Int) := by omega
      have m1 : wr.cell? ⟨w.heap.size, 1, none⟩ = some v := hb.cell 1
      have hbz := hb.lt
      have hoz := ho.size
      have hnews : ∀ (j : Nat) (u : Value), (ptr wr.heap.size)[j]? = some u → ((wr.alloc (.cells #[.func (.func F) #[] fc, .slice none 0 0, .nilFunc, .pointer none, .pointer none, .int .i64 0] WkT)).alloc (.cells #[.pointer (some ⟨wr.heap.size, 0, none⟩)] PWT)).cell? ((⟨wr.heap.size + 1, 0, none⟩ : Addr).add j) = some u := by
        have hB := Blk.new (wr.alloc (.cells #[.func (.func F) #[] fc, .slice none 0 0, .nilFunc, .pointer none, .pointer none, .int .i64 0] WkT)) PWT #[.pointer (some ⟨wr.heap.size, 0, none⟩)]
        rw [World.size_alloc] at hB
        intro j u hj
        cases j with
        | zero => cases hj; exact hB.cell 0
        | succ j => simp [ptr] at hj
      have hBW : MadeAt (wr.alloc (.cells #[.func (.func F) #[] fc, .slice none 0 0, .nilFunc, .pointer none, .pointer none, .int .i64 0] WkT)) wr.heap.size (.func (.func F) #[] fc) := Blk.new _ _ _
      have hO2 : Only [] wr ((wr.alloc (.cells #[.func (.func F) #[] fc, .slice none 0 0, .nilFunc, .pointer none, .pointer none, .int .i64 0] WkT)).alloc (.cells #[.pointer (some ⟨wr.heap.size, 0, none⟩)] PWT)) := ((Only.refl _ _).alloc _).alloc _
      have hBW2 := hBW.alloc (.cells #[.pointer (some ⟨wr.heap.size, 0, none⟩)] PWT)
      have HX := Lib.hid (And.intro hb (And.intro hwk (And.intro ho (And.intro hnd (And.intro hBW2 hO2)))))
      have HF := Lib.hid hfv
      have HP := Lib.hid hPl
      clear hA hF hc hc0 hb hwk ho hfv hBW hBW2 hO2 hnd hPl
      have hown2 := (hown.alloc (.cells #[.func (.func F) #[] fc, .slice none 0 0, .nilFunc, .pointer none, .pointer none, .int .i64 0] WkT)).alloc (.cells #[.pointer (some ⟨wr.heap.size, 0, none⟩)] PWT)
      go_wp2_with (at_builtin; refine wpList_append_lies _ (by rfl) _ _ 64 (by rfl) w.heap.size PWT i0 (.pointer none) 1 8 Try.underlying64 hi hz0 hz1 hz2 rfl (by omega) v k _ (by rfl) hown2 ⟨wr.heap.size + 1, 0, none⟩ 1 1 (ptr wr.heap.size) (by rfl) (by rfl) hnews (by simp [Value.oneCell', ptr]) (by omega) (by unfold maxLen; omega) (by omega) (by simp; omega) (wr.heap.size + 1 + 1) (by simp) ?_; intro g5 cap5 w5 hrow5 hgrow5 hat5 hlt5; have hb5 := madeKeep HX.out.2.2.2.2.2 HX.out.1 hown2 hgrow5 (by decide); have k1 : w5.cell? ⟨w.heap.size, 1, none⟩ = some v := hb5.cell 1; have f1 : w5.frozen? ⟨w.heap.size, 1, none⟩ = false := hb5.frozen 1)
      obtain ⟨hb, hwk, ho, hnd, hBW2, hO2⟩ := HX.out
      have hfv := HF.out
      have hPl := HP.out
      have hO5 : Only [w.heap.size] w5 (w5.setCell ⟨w.heap.size, 1, none⟩ (.slice (some ⟨g5, 0, none⟩) (k + 1) cap5)) := (Only.refl _ _).setCell (.inl (by simp)) _
      have hmk : ∀ (x : Nat) (y : Value), MadeAt ((wr.alloc (.cells #[.func (.func F) #[] fc, .slice none 0 0, .nilFunc, .pointer none, .pointer none, .int .i64 0] WkT)).alloc (.cells #[.pointer (some ⟨wr.heap.size, 0, none⟩)] PWT)) x y → MadeAt (w5.setCell ⟨w.heap.size, 1, none⟩ (.slice (some ⟨g5, 0, none⟩) (k + 1) cap5)) x y := fun x y hm => by
        have h5 := madeKeep (Only.refl [] _) hm hown2 hgrow5 (by decide)
        exact hO5.blk h5 (by simp; exact h5.ne_ hb5 (by decide))
      have hall : Only [] w (w5.setCell ⟨w.heap.size, 1, none⟩ (.slice (some ⟨g5, 0, none⟩) (k + 1) cap5)) :=
        ((ho.trans hO2).then (grown_S hgrow5) (fun x hx => .inr (hown2.lt x (by simpa using hx)).1)).then hO5 (fun x hx => .inr (by simp at hx; omega))
      refine ⟨⟨k + 1, _, Pw ++ [wr.heap.size], by omega, by go_num, ?_, owns_keep (by simpa using hrow5) hO5 (fun x hx hm => ?_), by simp [hPl], ?_, fun i pw fv hpw hfv' => ?_, hall⟩, by simp [intOf]; omega⟩
      · have := hb5.set_ 1 (.slice (some ⟨g5, 0, none⟩) (k + 1) cap5)
        simpa using this
      · simp only [List.mem_cons, List.not_mem_nil, or_false] at hm
        subst hm
        obtain ⟨cur, hc⟩ := owns_blk hrow5 hx
        exact absurd (hb5.uniq hc).1 (by decide)
      · rw [List.nodup_append]
        refine ⟨hnd, by simp, fun a ha b' hb' => ?_⟩
        simp only [List.mem_cons, List.not_mem_nil, or_false] at hb'
        obtain ⟨i, hi'⟩ := List.getElem?_of_mem ha
        have hil := (List.getElem?_eq_some_iff.1 hi').1
        have := (hwk i a _ hi' (List.getElem?_eq_getElem (by omega))).2.lt
        omega
      · by_cases hik : i < Pw.length
        · rw [List.getElem?_append_left hik] at hpw
          obtain ⟨h1, h2⟩ := hwk i pw fv hpw hfv'
          exact ⟨h1, hmk _ _ (hO2.blk h2 (by simp))⟩
        · rw [List.getElem?_append_right (by omega)] at hpw
          have e0 : i - Pw.length = 0 := by
            have := (List.getElem?_eq_some_iff.1 hpw).1
            simp at this
            omega
          rw [e0] at hpw
          simp only [List.getElem?_cons_zero, Option.some.injEq] at hpw
          subst hpw
          have : i = k := by omega
          subst this
          rw [hfv] at hfv'
          cases hfv'
          exact ⟨hoz, hmk _ _ hBW2⟩
    · obtain rfl : k = fvs.length := by omega
      obtain ⟨AW, cW, rfl, hN⟩ := RowN.of_owns ptr_len (by rw [hPl]; exact hown)
      rw [hPl] at hb
      go_wp2_with fail
      go_ret2
      exact ⟨w.heap.size, AW, cW, Pw, rfl, hb, hN, hPl, hnd, hwk, Nat.le_refl _, ho⟩
end
end
section
open Go.RowKit Go.Maps
/-- a slice of slices of deeds -/
def Ops2 (w : World) (base : Nat) (A : Option Addr) (L : List (List O)) : Prop :=
  ∀ (j : Nat) (o : List O), L[j]? = some o → ∃ b off A' cap, A = some ⟨b, off, none⟩ ∧ b < w.heap.size ∧ w.cell? ⟨b, off + j, none⟩ = some (.slice A' o.length cap) ∧ Ops w A' o ∧ ∀ x ∈ blkO A' o, x < base
/-- a slice of slices of slices of deeds -/
def Ops3 (w : World) (base : Nat) (C : Option Addr) (Ls : List (List (List O))) : Prop :=
  ∀ (i : Nat) (L : List (List O)), Ls[i]? = some L → ∃ b off A cap, C = some ⟨b, off, none⟩ ∧ b < w.heap.size ∧ w.cell? ⟨b, off + i, none⟩ = some (.slice A L.length cap) ∧ Ops2 w base A L
/-- workers, jobs, deeds are few -/
def Few (Ls : List (List (List O))) : Prop := ∀ (i : Nat) (L : List (List O)), Ls[i]? = some L → L.length ≤ 8 ∧ ∀ (j : Nat) (o : List O), L[j]? = some o → o.length ≤ 12
/-- what small tells -/
def SmallPost (Ls : List (List (List O))) (e : Ending) : Prop := ∃ b : Bool, e = .returned (.bool b) ∧ (b = true → Ls.length ≤ 5 ∧ Few Ls)
theorem smallNo {Ls : List (List (List O))} : SmallPost Ls (.returned (.bool false)) := ⟨false, rfl, fun h => by cases h⟩
theorem smallYes {Ls : List (List (List O))} {b : Bool} (h : b = true → Ls.length ≤ 5 ∧ Few Ls) : SmallPost Ls (.returned (.bool b)) := ⟨b, rfl, h⟩
section
variable {base : Nat} {w w' : World} {C : Option Addr} {Ls : List (List (List O))}
theorem Ops2.only0 {A : Option Addr} {L : List (List O)} (h : Ops2 w base A L) (ho : Only [] w w') : Ops2 w' base A L := fun j o hj => by
  obtain ⟨b, off, A', cap, h1, h2, h3, h4, h5⟩ := h j o hj
  exact ⟨b, off, A', cap, h1, Nat.lt_of_lt_of_le h2 ho.size, (ho.cell (p := ⟨b, _, none⟩) h2 (by simp)).trans h3, h4.only ho (by simp), h5⟩
theorem Ops3.only0 (h : Ops3 w base C Ls) (ho : Only [] w w') : Ops3 w' base C Ls := fun i L hi => by
  obtain ⟨b, off, A, cap, h1, h2, h3, h4⟩ := h i L hi
  exact ⟨b, off, A, cap, h1, Nat.lt_of_lt_of_le h2 ho.size, (ho.cell (p := ⟨b, _, none⟩) h2 (by simp)).trans h3, h4.only0 ho⟩
set_option maxRecDepth 100000 in
set_option maxHeartbeats 2000000 in
theorem small_any (cap : Nat) (h : Ops3 w base C Ls) (hl : Ls.length ≤ 9223372036854775807) (hl2 : ∀ (i : Nat) (L : List (List O)), Ls[i]? = some L → L.length ≤ 9223372036854775807) :
    Calls Try.prog 6 #[.slice C Ls.length cap] w fun e w' => SmallPost Ls e ∧ w = w' := by
  have H := Lib.hid (And.intro h hl2)
  clear h hl2
  go_enter Try.func6, Try.ntmps6
  go_wp2_with fail
  go_loopw [3] (fun i wr => ∃ k : Nat, k ≤ Ls.length ∧ i = .int .i64 k ∧ w = wr ∧ ∀ (i : Nat) (L : List (List O)), i < k → Ls[i]? = some L → L.length ≤ 8 ∧ ∀ (j : Nat) (o : List O), L[j]? = some o → o.length ≤ 12) (fun i _ => Ls.length - (intOf i).toNat)
  case atStart => exact ⟨0, by omega, rfl, rfl, fun i L hi => by omega⟩
  case round =>
    obtain ⟨k, hk, rfl, rfl, hfew⟩ := hrel
    by_cases hlt : k < Ls.length
    · obtain ⟨L, hL⟩ : ∃ L, Ls[k]? = some L := ⟨_, List.getElem?_eq_getElem hlt⟩
      obtain ⟨b, off, A, cap', rfl, hb, hc, h2⟩ := H.out.1 k L hL
      have hLl := H.out.2 k L hL
      have hk0 : (0 : Int) ≤ (k : Int) := by omega
      have hk1 : (k : Int) < (Ls.length : Int) := by omega
      have HF := Lib.hid hfew
      have HL := Lib.hid hL
      have H2 := Lib.hid h2
      clear hfew hL h2
      by_cases h8 : L.length ≤ 8
      · have h8' : (L.length : Int) ≤ 8 := by omega
        go_wp2_with fail
        obtain ⟨wo, rfl⟩ : ∃ x, x = w := ⟨_, rfl⟩
        go_loopw [4] (fun i wr => ∃ m : Nat, m ≤ L.length ∧ i = .int .i64 m ∧ wo = wr ∧ ∀ (j : Nat) (o : List O), j < m → L[j]? = some o → o.length ≤ 12) (fun i _ => L.length - (intOf i).toNat)
        case atStart => exact ⟨0, by omega, rfl, rfl, fun j o hj => by omega⟩
        case round =>
          obtain ⟨m, hm, rfl, rfl, hfew2⟩ := hrel
          have HF2 := Lib.hid hfew2
          clear hfew2
          by_cases hmt : m < L.length
          · obtain ⟨o, hO⟩ : ∃ o, L[m]? = some o := ⟨_, List.getElem?_eq_getElem hmt⟩
            obtain ⟨b2, off2, A2, cap2, rfl, hb2, hc2, -, -⟩ := H2.out m o hO
            have hm0 : (0 : Int) ≤ (m : Int) := by omega
            have hm1 : (m : Int) < (L.length : Int) := by omega
            have HO := Lib.hid hO
            clear hO
            by_cases h12 : o.length ≤ 12
            · have h12' : (o.length : Int) ≤ 12 := by omega
              go_wp2_with fail
              go_roundw
              case rel =>
                refine ⟨m + 1, by omega, by go_num, by trivial, fun j o' hj ho' => ?_⟩
                by_cases e : j = m
                · subst e
                  rw [HO.out] at ho'
                  cases ho'
                  exact h12
                · exact HF2.out j o' (by omega) ho'
              case measure => simp [intOf]; omega
            · have h12' : ¬ (o.length : Int) ≤ 12 := by omega
              go_wp2_with fail
              go_ret
              exact ⟨smallNo, rfl⟩
          · obtain rfl : m = L.length := by omega
            go_wp2_with fail
            go_roundw
            case rel =>
              refine ⟨k + 1, by omega, by go_num, by trivial, fun i L' hi hL' => ?_⟩
              by_cases e : i = k
              · subst e
                rw [HL.out] at hL'
                cases hL'
                exact ⟨h8, fun j o hj => HF2.out j o (List.getElem?_eq_some_iff.1 hj).1 hj⟩
              · exact HF.out i L' (by omega) hL'
            case measure => simp [intOf]; omega
      · have h8' : ¬ (L.length : Int) ≤ 8 := by omega
        go_wp2_with fail
        go_ret
        exact ⟨smallNo, rfl⟩
    · obtain rfl : k = Ls.length := by omega
      have HF := Lib.hid hfew
      clear hfew
      go_wp2_with fail
      go_ret
      exact ⟨smallYes fun h => ⟨by have : (Ls.length : Int) ≤ 5 := (by simpa using h); omega, fun i L hi => HF.out i L (List.getElem?_eq_some_iff.1 hi).1 hi⟩, rfl⟩
theorem infoFeed : (Try.prog.info? 56).map (fun i => (i.zero, i.size, i.bytes)) = some (some (.nilFunc), 1, 8) := by kernel_rfl
abbrev FeedT : TypeId := 56
theorem vrow_len (v : Value) : (vrow v).length = 1 := rfl
/-- .. and what jobs tells -/
structure JobsAt (base : Nat) (w w' : World) (Ls : List (List (List O))) (A : Option Addr) (fvs : List Value) : Prop where
  rows : RowsAt w' A vrow 1 fvs
  len : fvs.length = Ls.length
  feed : ∀ (i : Nat) (fv : Value) (L : List (List O)), fvs[i]? = some fv → Ls[i]? = some L → FeedAt base w' fv (L.map Jb.ops)
  ho : Only [] w w'
set_option maxRecDepth 100000 in
set_option maxHeartbeats 3000000 in
theorem jobs_any (cap : Nat) (h : Ops3 w base C Ls) (hl : Ls.length ≤ 5) (hf : Few Ls) (hbase : base ≤ w.heap.size) :
    Calls Try.prog 9 #[.slice C Ls.length cap] w fun e w' => ∃ A cp fvs, e = .returned (.slice A Ls.length cp) ∧ JobsAt base w w' Ls A fvs := by
  obtain ⟨iF, hiF, hzF0, hzF1, hzF2⟩ := info_parts infoFeed
  obtain ⟨iJ, hiJ, hzJ0, hzJ1, hzJ2⟩ := info_parts infoJ
  have H := Lib.hid (And.intro h hf)
  clear h hf
  go_enter Try.func9, Try.ntmps9
  go_wp2_with fail
  go_loopw [3, 4] (fun v i wr => ∃ (k : Nat) (fvs : List Value), k ≤ Ls.length ∧ i = .int .i64 k ∧ wr.ownsRow w.heap.size FeedT 1 v k (fvs.flatMap vrow) ∧ fvs.length = k ∧ (∀ (i : Nat) (fv : Value) (L : List (List O)), fvs[i]? = some fv → Ls[i]? = some L → FeedAt base wr fv (L.map Jb.ops)) ∧ Only [] w wr) (fun _ i _ => Ls.length - (intOf i).toNat)
  case atStart => exact ⟨0, [], by omega, rfl, World.ownsRow_nil _ _ _ _, rfl, fun i fv L hi => by simp at hi, Only.refl _ _⟩
  case round =>
    obtain ⟨k, fvs, hk, rfl, hown, hfl, hfeed, ho⟩ := hrel
    obtain ⟨wo, rfl⟩ : ∃ x, x = wr := ⟨_, rfl⟩
    obtain ⟨vo, hvo⟩ : ∃ x, x = u3 := ⟨_, rfl⟩
    by_cases hlt : k < Ls.length
    · obtain ⟨L, hL⟩ : ∃ L, Ls[k]? = some L := ⟨_, List.getElem?_eq_getElem hlt⟩
      obtain ⟨h8, h12⟩ := H.out.2 k L hL
      obtain ⟨b, off, A, cap', rfl, hb, hc, h2⟩ := H.out.1.only0 ho k L hL
      have hk0 : (0 : Int) ≤ (k : Int) := by omega
      have hk1 : (k : Int) < (Ls.length : Int) := by omega
      have hoz := ho.size
      have HO := Lib.hid (And.intro hown (And.intro hfl (And.intro hfeed (And.intro ho (And.intro hL (And.intro h2 h12))))))
      clear hown hfl hfeed ho hL h2 h12
      go_wp2_with fail
      go_loopw [5, 6] (fun v j wr => ∃ (m : Nat) (vs : List Value), m ≤ L.length ∧ j = .int .i64 m ∧ wr.ownsRow wo.heap.size JobT 1 v m (vs.flatMap vrow) ∧ vs.length = m ∧ (∀ (i : Nat) (x : Value) (o : List O), vs[i]? = some x → L[i]? = some o → JobAt base wr x (.ops o)) ∧ Only [] wo wr) (fun _ j _ => L.length - (intOf j).toNat)
      case atStart => exact ⟨0, [], by omega, rfl, World.ownsRow_nil _ _ _ _, rfl, fun i fv L hi => by simp at hi, Only.refl _ _⟩
      case round =>
        obtain ⟨m, vs, hm, rfl, hown, hvl, hjob, hoi⟩ := hrel
        have hc' := (hoi.cell (p := ⟨b, off + k, none⟩) hb (by simp)).trans hc
        have hiz := hoi.size
        by_cases hmt : m < L.length
        · obtain ⟨o, hO⟩ : ∃ o, L[m]? = some o := ⟨_, List.getElem?_eq_getElem hmt⟩
          obtain ⟨b2, off2, A2, cap2, rfl, hb2, hc2, hops, hbl⟩ := HO.out.2.2.2.2.2.1.only0 hoi m o hO
          have hm0 : (0 : Int) ≤ (m : Int) := by omega
          have hm1 : (m : Int) < (L.length : Int) := by omega
          have hB := Blk.new wr OpsT #[.slice A2 o.length cap2]
          have hO1 : Only [] wr (wr.alloc (.cells #[.slice A2 o.length cap2] OpsT)) := (Only.refl _ _).alloc _
          have hown1 := hown.alloc (.cells #[.slice A2 o.length cap2] OpsT)
          have hz1 : (wr.alloc (.cells #[.slice A2 o.length cap2] OpsT)).heap.size = wr.heap.size + 1 := by simp
          have hJ1 : JobAt base (wr.alloc (.cells #[.slice A2 o.length cap2] OpsT)) (.func (.func 22) #[] #[.pointer (some ⟨wr.heap.size, 0, none⟩)]) (.ops o) :=
            ⟨wr.heap.size, A2, cap2, rfl, hB, hops.only hO1 (by simp), hbl, HO.out.2.2.2.2.2.2 m o hO⟩
          have HJ := Lib.hid (And.intro hJ1 (And.intro hjob (And.intro hoi (And.intro hO1 (And.intro hvl hO)))))
          clear hJ1 hjob hoi hvl hO hops hbl hB hown hO1
          have hnews : ∀ (j : Nat) (u : Value), (vrow (.func (.func 22) #[] #[.pointer (some ⟨wr.heap.size, 0, none⟩)]))[j]? = some u → ((wr.alloc (.cells #[.slice A2 o.length cap2] OpsT)).alloc (.cells #[.func (.func 22) #[] #[.pointer (some ⟨wr.heap.size, 0, none⟩)]] JobT)).cell? ((⟨wr.heap.size + 1, 0, none⟩ : Addr).add j) = some u := by
            have hB := Blk.new (wr.alloc (.cells #[.slice A2 o.length cap2] OpsT)) JobT #[.func (.func 22) #[] #[.pointer (some ⟨wr.heap.size, 0, none⟩)]]
            rw [hz1] at hB
            intro j u hj
            cases j with
            | zero => cases hj; exact hB.cell 0
            | succ j => simp [vrow] at hj
          have hown2 := hown1.alloc (.cells #[.func (.func 22) #[] #[.pointer (some ⟨wr.heap.size, 0, none⟩)]] JobT)
          go_wp2_with (at_builtin; refine wpList_append_lies _ (by rfl) _ _ 59 (by rfl) wo.heap.size JobT iJ .nilFunc 1 8 Try.underlying59 hiJ hzJ0 hzJ1 hzJ2 rfl (by omega) u5 m _ (by rfl) hown2 ⟨wr.heap.size + 1, 0, none⟩ 1 1 (vrow (.func (.func 22) #[] #[.pointer (some ⟨wr.heap.size, 0, none⟩)])) (by rfl) (by rfl) hnews (by simp [Value.oneCell', vrow]) (by omega) (by unfold maxLen; omega) (by omega) (by simp; omega) (wr.heap.size + 1 + 1) (by simp) ?_; intro g5 cap5 w5 hrow5 hgrow5 hat5 hlt5)
          obtain ⟨hJ1, hjob, hoi, hO1, hvl, hO⟩ := HJ.out
          have hO2 : Only [] (wr.alloc (.cells #[.slice A2 o.length cap2] OpsT)) ((wr.alloc (.cells #[.slice A2 o.length cap2] OpsT)).alloc (.cells #[.func (.func 22) #[] #[.pointer (some ⟨wr.heap.size, 0, none⟩)]] JobT)) := (Only.refl _ _).alloc _
          have hgS := grown_S hgrow5
          have hCl : Clear _ u5.ownBlock.toList [OpsT] := owns_clear hown2 (by decide)
          have hgb : ∀ x ∈ u5.ownBlock.toList, wo.heap.size ≤ x := fun x hx => (hown2.lt x (by simpa using hx)).1
          refine ⟨⟨m + 1, vs ++ [.func (.func 22) #[] #[.pointer (some ⟨wr.heap.size, 0, none⟩)]], by omega, by go_num, by simpa using hrow5, by simp [hvl], fun i x o' hi' ho' => ?_, ((hoi.trans hO1).trans hO2).then hgS (fun x hx => .inr (hgb x hx))⟩, by simp [intOf]; omega⟩
          by_cases hik : i < vs.length
          · rw [List.getElem?_append_left hik] at hi'
            exact (((hjob i x o' hi' ho').only hO1 Clear.nil (by simp)).only hO2 Clear.nil (by simp)).only hgS hCl (fun y hy => by have := hgb y hy; omega)
          · rw [List.getElem?_append_right (by omega)] at hi'
            have e0 : i - vs.length = 0 := by
              have := (List.getElem?_eq_some_iff.1 hi').1
              simp at this
              omega
            rw [e0] at hi'
            simp only [List.getElem?_cons_zero, Option.some.injEq] at hi'
            subst hi'
            have : i = m := by omega
            subst this
            rw [hO] at ho'
            cases ho'
            exact (hJ1.only hO2 Clear.nil (by simp)).only hgS hCl (fun y hy => by have := hgb y hy; omega)
        · obtain rfl : m = L.length := by omega
          obtain ⟨A1, cp1, rfl, hN1⟩ := RowN.of_owns vrow_len (by rw [hvl]; exact hown)
          have cL := list_any (base := base) (w := wr) (js := L.map Jb.ops) cp1 hN1.rows (by simp [hvl]) (fun i v j hi' hj' => by
            rw [List.getElem?_map] at hj'
            cases ho' : L[i]? with
            | none => rw [ho'] at hj'; cases hj'
            | some o => rw [ho'] at hj'; cases hj'; exact hjob i v o hi' ho') (by simpa using h8)
          rw [List.length_map] at cL
          rw [hvl]
          have HI := Lib.hid hoi
          clear hN1 hown hjob hoi
          go_wp2_with fail
          refine cL.mono ?_
          clear cL
          rintro e w2 ⟨fv, rfl, hfd, ho2⟩
          obtain ⟨hown, hfl, hfeed, ho, hL, h2, h12⟩ := HO.out
          have hoa : Only [] wo w2 := HI.out.trans ho2
          have hz2 := (ho.trans hoa).size
          have hfd' := hfd
          obtain ⟨pbF, AF, cF, rfl, -, -⟩ := hfd'
          have hown2 := (owns_only0 hown hoa).alloc (.cells #[.func (.func 39) #[] #[.pointer (some ⟨pbF, 0, none⟩)]] FeedT)
          have HY := Lib.hid (And.intro hfl (And.intro hfeed (And.intro ho (And.intro hL (And.intro hoa hfd)))))
          clear hown hfl hfeed ho hL h2 h12 hoa hfd
          subst hvo
          have hnews : ∀ (j : Nat) (u : Value), (vrow (.func (.func 39) #[] #[.pointer (some ⟨pbF, 0, none⟩)]))[j]? = some u → (w2.alloc (.cells #[.func (.func 39) #[] #[.pointer (some ⟨pbF, 0, none⟩)]] FeedT)).cell? ((⟨w2.heap.size, 0, none⟩ : Addr).add j) = some u := by
            have hB := Blk.new w2 FeedT #[.func (.func 39) #[] #[.pointer (some ⟨pbF, 0, none⟩)]]
            intro j u hj
            cases j with
            | zero => cases hj; exact hB.cell 0
            | succ j => simp [vrow] at hj
          go_wp2_with (at_builtin; refine wpList_append_lies _ (by rfl) _ _ 35 (by rfl) w.heap.size FeedT iF .nilFunc 1 8 Try.underlying35 hiF hzF0 hzF1 hzF2 rfl (by omega) vo k _ (by rfl) hown2 ⟨w2.heap.size, 0, none⟩ 1 1 (vrow (.func (.func 39) #[] #[.pointer (some ⟨pbF, 0, none⟩)])) (by rfl) (by rfl) hnews (by simp [vrow, Value.oneCell']) (by omega) (by unfold maxLen; omega) (by omega) (by simp; omega) (w2.heap.size + 1) (by simp) ?_; intro g6 cap6 w6 hrow6 hgrow6 hat6 hlt6)
          obtain ⟨hfl, hfeed, ho, hL, hoa, hfd⟩ := HY.out
          have hO3 : Only [] w2 (w2.alloc (.cells #[.func (.func 39) #[] #[.pointer (some ⟨pbF, 0, none⟩)]] FeedT)) := (Only.refl _ _).alloc _
          have hgS := grown_S hgrow6
          have hCl : Clear _ vo.ownBlock.toList [JobsT, JobT, OpsT] := owns_clear hown2 (by decide)
          have hgb : ∀ x ∈ vo.ownBlock.toList, w.heap.size ≤ x := fun x hx => (hown2.lt x (by simpa using hx)).1
          have hall : Only [] w w6 := ((ho.trans hoa).trans hO3).then hgS (fun x hx => .inr (hgb x hx))
          refine ⟨⟨k + 1, fvs ++ [.func (.func 39) #[] #[.pointer (some ⟨pbF, 0, none⟩)]], by omega, by go_num, by simpa using hrow6, by simp [hfl], fun i fv' L' hi' hL' => ?_, hall⟩, by simp [intOf]; omega⟩
          by_cases hik : i < fvs.length
          · rw [List.getElem?_append_left hik] at hi'
            exact (((hfeed i fv' L' hi' hL').only hoa Clear.nil (by simp)).only hO3 Clear.nil (by simp)).only hgS hCl (fun y hy => by have := hgb y hy; omega)
          · rw [List.getElem?_append_right (by omega)] at hi'
            have e0 : i - fvs.length = 0 := by
              have := (List.getElem?_eq_some_iff.1 hi').1
              simp at this
              omega
            rw [e0] at hi'
            simp only [List.getElem?_cons_zero, Option.some.injEq] at hi'
            subst hi'
            have : i = k := by omega
            subst this
            rw [hL] at hL'
            cases hL'
            exact (hfd.only hO3 Clear.nil (by simp)).only hgS hCl (fun y hy => by have := hgb y hy; omega)
    · obtain rfl : k = Ls.length := by omega
      obtain ⟨A, cp, rfl, hN⟩ := RowN.of_owns vrow_len (by rw [hfl]; exact hown)
      have HX := Lib.hid (show JobsAt base w wo Ls A fvs from ⟨hN.rows, hfl, hfeed, ho⟩)
      rw [hfl]
      clear hown hfeed hN hvo
      go_wp2_with fail
      go_ret
      exact ⟨A, cp, fvs, rfl, HX.out⟩
end
end
end Go.Proofs.Ytleomgmhkoglmaa
