/- What package derive's calls come to on the words of a sound state (layer 12), as mathematics. -/
import Derived.Test.YtlhcigpllkigdaaJ2
import Derived.Test.YtlhcigpllkigdaaJ11
import Derived.Test.YtlhcigpllkigdaaDok
import Derived.Test.YtlhcigpllkigdaaJ7
import Derived.Test.YtlhcigpllkigdaaDerCalls
import Derived.Test.YtlhcigpllkigdaaDerDel
namespace Go.Proofs.Ytlhcigpllkigdaa
open Go.RowKit
theorem slotB_ok (i : Int) : slotB i 0 = slotOk i := slotOk_is.symm
section
variable {S : RSt} {i f t n : Int} {c : Cp} {mk : Cp → Cp × Int}
theorem Sok.hasP (h : Sok S) (i : Int) : (Go.Proofs.Ytlhcigpllkigdaa.hasP i).run machP (wordsG S) = (decide (slotOk i = true ∧ (S.cap i).kind ≠ 0), wordsG S) := by
  unfold Go.Proofs.Ytlhcigpllkigdaa.hasP
  rw [Vp.run_bind_is (h.capP i), Vp.run_ret]
  cases hi : slotOk i with
  | false => rfl
  | true =>
    rw [if_pos rfl]
    by_cases hk : (S.cap i).kind = 0
    · simp [hk]
    · simp [hk]
/-- who has kids, in a sound state -/
theorem Dok.hasKidsP (h : Dok S) (i : Int) : (Go.Proofs.Ytlhcigpllkigdaa.hasKidsP i).run machP (wordsG S) = (decide (leafS S i ≠ i ∨ S.kids i ≠ []), wordsG S) := by
  unfold Go.Proofs.Ytlhcigpllkigdaa.hasKidsP
  rw [Vp.run_bind_is (h.sok.leafP i)]
  by_cases hl : leafS S i = i
  · rw [Vp.run_no (by simp [hl]), Vp.run_bind_is (h.sok.kidsP i), Vp.run_ret]
    cases hk : S.kids i with
    | nil => simp [hl]
    | cons x l => simp
  · rw [Vp.run_yes hl, Vp.run_ret]
    simp [hl]
theorem leafS_self {i : Int} (hi : InS i) (h : S.kids i = []) : leafS S i = i := by
  unfold leafS
  rw [if_pos (slotOk_in.2 hi), leafR_nil h]
theorem Dok.leaf_kids (h : Dok S) (hi : InS i) : (leafS S i ≠ i ∨ S.kids i ≠ []) ↔ S.kids i ≠ [] := by
  constructor
  · rintro (e | e)
    · exact fun q => e (leafS_self hi q)
    · exact e
  · exact .inr
theorem Dok.leaf_iff (h : Dok S) (hi : InS i) : leafS S i = i ↔ S.kids i = [] :=
  ⟨fun e => by have := (h.leaf hi).1; rwa [e] at this, leafS_self hi⟩
theorem Sok.madeP (h : Sok S) (mk : Cp → Cp × Int) (f t : Int) : (Go.Proofs.Ytlhcigpllkigdaa.madeP mk f t).run machP (wordsG S) = (if endsN S f t ≠ 0 then (Cp.zero, endsN S f t) else mk (S.cap f), wordsG S) := by
  unfold Go.Proofs.Ytlhcigpllkigdaa.madeP
  rw [slotB_ok]
  cases ht : slotOk t with
  | false =>
    have e : endsN S f t = 2 := if_pos (Or.inr ht)
    rw [Vp.run_yes rfl, Vp.run_ret, e, if_pos (by decide)]
  | true =>
    rw [Vp.run_no (by simp), Vp.run_bind_is (h.hasP f)]
    cases hf : slotOk f with
    | false =>
      have e : endsN S f t = 2 := if_pos (Or.inl hf)
      rw [Vp.run_yes (by simp), Vp.run_ret, e, if_pos (by decide)]
    | true =>
      by_cases hk : (S.cap f).kind = 0
      · have e : endsN S f t = 2 := by unfold endsN; rw [if_neg (by simp [hf, ht]), if_pos hk]
        rw [Vp.run_yes (by simp [hk]), Vp.run_ret, e, if_pos (by decide)]
      · rw [Vp.run_no (by simp [hk]), Vp.run_bind_is (h.hasP t)]
        by_cases hq : (S.cap t).kind = 0
        · have e : endsN S f t = 0 := by unfold endsN; rw [if_neg (by simp [hf, ht]), if_neg hk, if_neg (fun q => q hq)]
          rw [Vp.run_no (by simp [hq]), Vp.run_bind_is (h.capP f), Vp.run_ret, if_pos hf, e, if_neg (by decide)]
        · have e : endsN S f t = 8 := by unfold endsN; rw [if_neg (by simp [hf, ht]), if_neg hk, if_pos hq]
          rw [Vp.run_yes (by simp [hq, ht]), Vp.run_ret, e, if_pos (by decide)]
theorem Dok.underP (h : Dok S) (mk : Cp → Cp × Int) (f t : Int) (hmay : (mk (S.cap f)).2 = 0 → (mk (S.cap f)).1.may ∧ (mk (S.cap f)).1.kind ≠ 0) :
    (Go.Proofs.Ytlhcigpllkigdaa.underP mk f t).run machP (wordsG S) = (if endsN S f t ≠ 0 then endsN S f t else if (mk (S.cap f)).2 ≠ 0 then (mk (S.cap f)).2 else linkN S t f,
      wordsG (if endsN S f t ≠ 0 then S else if (mk (S.cap f)).2 ≠ 0 then S else belowS S f t (mk (S.cap f)).1)) := by
  unfold Go.Proofs.Ytlhcigpllkigdaa.underP
  rw [Vp.run_bind_is (h.sok.madeP mk f t)]
  by_cases he : endsN S f t ≠ 0
  · rw [if_pos he, if_pos he, if_pos he, if_pos he, Vp.run_ret]
  rw [if_neg he, if_neg he, if_neg he]
  have he0 : endsN S f t = 0 := by simpa using he
  generalize mk (S.cap f) = r at hmay ⊢
  obtain ⟨c, n⟩ := r
  dsimp only at hmay ⊢
  by_cases hn : n ≠ 0
  · rw [Vp.run_yes hn, Vp.run_ret, if_pos hn, if_pos hn]
  obtain rfl : n = 0 := by simpa using hn
  obtain ⟨hc, hk⟩ := hmay rfl
  obtain ⟨hL, -⟩ := h.below he0 hc hk
  rw [Vp.run_no hn, if_neg hn, if_neg hn, Vp.run_bind_is (h.sok.linkP t f), hL, Vp.run_no (by simp)]
  obtain ⟨-, ht, -, -⟩ := endsN_ok he0
  rw [(h.sok.link t f).1.csetP ⟨ht.1, by omega⟩ hc]
  unfold belowS
  rw [if_pos hL]
theorem Dok.insteadP (h : Dok S) (mk : Cp → Cp × Int) (f t : Int) (hmay : (S.cap f).kind ≠ 0 → (mk (S.cap f)).2 = 0 → (mk (S.cap f)).1.may ∧ (mk (S.cap f)).1.kind ≠ 0) :
    (Go.Proofs.Ytlhcigpllkigdaa.insteadP mk f t).run machP (wordsG S) = (if endsN S f t ≠ 0 then endsN S f t else if (mk (S.cap f)).2 ≠ 0 then (mk (S.cap f)).2 else replaceN S f t,
      wordsG (if endsN S f t ≠ 0 then S else if (mk (S.cap f)).2 ≠ 0 then S else overS S f t (mk (S.cap f)).1)) := by
  unfold Go.Proofs.Ytlhcigpllkigdaa.insteadP
  rw [Vp.run_bind_is (h.sok.madeP mk f t)]
  by_cases he : endsN S f t ≠ 0
  · rw [if_pos he, if_pos he, if_pos he, if_pos he, Vp.run_ret]
  rw [if_neg he, if_neg he, if_neg he]
  have he0 : endsN S f t = 0 := by simpa using he
  obtain ⟨hf, ht, kf, -⟩ := endsN_ok he0
  replace hmay := hmay kf
  generalize mk (S.cap f) = r at hmay ⊢
  obtain ⟨c, n⟩ := r
  dsimp only at hmay ⊢
  by_cases hn : n ≠ 0
  · rw [Vp.run_yes hn, Vp.run_ret, if_pos hn, if_pos hn]
  obtain rfl : n = 0 := by simpa using hn
  obtain ⟨hc, hk⟩ := hmay rfl
  obtain ⟨hL, -⟩ := h.over he0 hc hk
  have hR := (h.sok.replace f t).1
  have hC := hR.putC (i := t) ⟨ht.1, by omega⟩ hc
  rw [Vp.run_no hn, if_neg hn, if_neg hn, Vp.run_bind_is (h.sok.replaceP f t), hL, Vp.run_no (by simp), Vp.run_bind_is (hR.csetP ⟨ht.1, by omega⟩ hc), Vp.run_no (by simp), hC.1.csetP ⟨hf.1, by omega⟩ zero_may]
  unfold overS
  rw [if_pos hL]
theorem Dok.deleteP (h : Dok S) (i : Int) : (Go.Proofs.Ytlhcigpllkigdaa.deleteP i).run machP (wordsG S) = (delN S i, wordsG (delS S i)) := by
  unfold Go.Proofs.Ytlhcigpllkigdaa.deleteP delS
  rw [Vp.run_bind_is (h.sok.hasP i)]
  by_cases hi : slotOk i = true
  · have hI := slotOk_in.1 hi
    by_cases hk : (S.cap i).kind = 0
    · have e : delN S i = 2 := by unfold delN; rw [if_pos (.inr hk)]
      rw [Vp.run_yes (by simp [hk]), Vp.run_ret, e, if_neg (by decide)]
    · rw [Vp.run_no (by simp [hi, hk]), Vp.run_bind_is (h.hasKidsP i)]
      by_cases hc : S.kids i = []
      · have e : delN S i = 0 := by unfold delN; rw [if_neg (by simp [hi, hk]), if_neg (fun q => q hc)]
        have e2 : unlinkN i = 0 := by unfold unlinkN; rw [if_neg (by simp [hi])]
        rw [Vp.run_no (by simp [hc, leafS_self hI hc]), Vp.run_bind_is (h.sok.unlinkP i), e2, Vp.run_no (by simp), (h.sok.unlink i).1.csetP hI zero_may, e, if_pos rfl]
      · have e : delN S i = 9 := by unfold delN; rw [if_neg (by simp [hi, hk]), if_pos hc]
        rw [Vp.run_yes (by simp [hc]), Vp.run_ret, e, if_neg (by decide)]
  · have e : delN S i = 2 := by unfold delN; rw [if_pos (.inl (by simpa using hi))]
    rw [Vp.run_yes (by simp [hi]), Vp.run_ret, e, if_neg (by decide)]
theorem Dok.delOneP (h : Dok S) (i : Int) : (Go.Proofs.Ytlhcigpllkigdaa.delOneP i).run machP (wordsG S) = (Go.Proofs.Ytlhcigpllkigdaa.oneA S i, wordsG (oneS S i)) := by
  rw [h.oneA i]
  unfold Go.Proofs.Ytlhcigpllkigdaa.delOneP oneS
  rw [slotB_ok]
  by_cases hI : InS i
  · have hi := slotOk_in.2 hI
    obtain ⟨h1, h2⟩ := h.leaf hI
    have h0 := h2.1
    rw [Vp.run_no (by simp [hi]), if_neg (fun q => q hI), Vp.run_bind_is (h.hasKidsP i), if_neg (show ¬ leafS S i < 0 by omega)]
    by_cases hl : leafS S i = i
    · rw [Vp.run_yes (by simp [hl, (h.leaf_iff hI).1 hl]), Vp.run_ret, if_pos hl, if_pos hl]
    · have e : delN S (leafS S i) = 0 := by
        unfold delN
        rw [if_neg (by rw [slotOk_in.2 h2]; simp [h.leaf_cap hI hl]), if_neg (fun e => e h1)]
      rw [Vp.run_no (by simp [hl]), Vp.run_bind_is (h.sok.leafP i), Vp.run_bind_is (h.deleteP (leafS S i)), e, Vp.run_no (by simp), Vp.run_ret, if_neg hl, if_neg hl]
  · have hi : slotOk i = false := by
      cases hq : slotOk i with
      | false => rfl
      | true => exact absurd (slotOk_in.1 hq) hI
    rw [Vp.run_yes hi, Vp.run_ret, if_pos hI, Dok.leaf_out hI, if_pos (by decide)]
end
end Go.Proofs.Ytlhcigpllkigdaa
/- 738 words of one's own, as they are made (layers 9 and up). -/
namespace Go.Proofs.Ytlhcigpllkigdaa
open Go.RowKit
abbrev PwT : TypeId := 25
/-- the cells of 738 zeros -/
def zerosA : Array Value := flat u64row (List.replicate 738 0)
theorem made_words (W : World) : (Instr.makeSlice 24 (.int .i64 738) (.int .i64 738)).run Try.prog W = .ok (.slice (some ⟨W.heap.size, 0, none⟩) 738 738) (W.alloc (.cells zerosA UT)) :=
  run_makeN (P := Try.prog) (t := 24) (f := u64row) 0 infoU64 Try.underlying24 (fun _ => rfl) (by omega) rfl .i64 .i64 738 738 (by omega) (by omega) (by omega) (by omega) W
theorem memP_new (W : World) : MemP W.heap.size 738 UT (W.alloc (.cells zerosA UT)) zeros := ⟨zeros_len, rowU_flat (Blk.new W UT zerosA), zeros_us⟩
theorem MemP.blkG {g n : Nat} {w : World} {L : List Int} (h : MemP g n UT w L) : ∃ cur, Blk w g UT cur := by
  obtain ⟨cur, hb, -⟩ := h.row
  exact ⟨cur, hb⟩
end Go.Proofs.Ytlhcigpllkigdaa
/- Package derive's calls on the words of a sound state (layer 12). -/
namespace Go.Proofs.Ytlhcigpllkigdaa
open Go.RowKit
section
variable {g : Nat} {w : World} {S : RSt}
theorem dcopy_is (hm : MemP g 738 UT w (wordsG S)) (hS : Dok S) (f t m : Int) :
    Calls Try.prog 11 #[.iface PwT (.slice (some ⟨g, 0, none⟩) 738 738), .int .i64 f, .int .i64 t, .int .i64 m] w fun e w' => e = .returned (errV (derN S f t m 0 false)) ∧ MemP g 738 UT w' (wordsG (derS S f t m 0 false)) ∧ Only [g] w w' :=
  vcopy_is (viewP g 738 738 UT) hm (hS.underP (fun c => c.derive m) f t fun h => ⟨derC_may (c := S.cap f) (m := m) (b := 0) (mint := false) h, derC_kind (c := S.cap f) (m := m) (b := 0) (mint := false) h⟩)
theorem dmint_is (hm : MemP g 738 UT w (wordsG S)) (hS : Dok S) (f t m b : Int) :
    Calls Try.prog 19 #[.iface PwT (.slice (some ⟨g, 0, none⟩) 738 738), .int .i64 f, .int .i64 t, .int .i64 m, .int .i64 b] w fun e w' => e = .returned (errV (derN S f t m b true)) ∧ MemP g 738 UT w' (wordsG (derS S f t m b true)) ∧ Only [g] w w' :=
  vmint_is (viewP g 738 738 UT) hm (hS.underP (fun c => c.mint m b) f t fun h => ⟨derC_may (c := S.cap f) (m := m) (b := b) (mint := true) h, derC_kind (c := S.cap f) (m := m) (b := b) (mint := true) h⟩)
theorem dmove_is (hm : MemP g 738 UT w (wordsG S)) (hS : Dok S) (f t : Int) :
    Calls Try.prog 20 #[.iface PwT (.slice (some ⟨g, 0, none⟩) 738 738), .int .i64 f, .int .i64 t] w fun e w' => e = .returned (errV (movN S f t 0 0 false)) ∧ MemP g 738 UT w' (wordsG (movS S f t 0 0 false)) ∧ Only [g] w w' :=
  vmove_is (viewP g 738 738 UT) hm (hS.insteadP (fun c => (c, 0)) f t fun hk _ => ⟨hS.sok.may f, hk⟩)
theorem dmutate_is (hm : MemP g 738 UT w (wordsG S)) (hS : Dok S) (f t gd n : Int) :
    Calls Try.prog 21 #[.iface PwT (.slice (some ⟨g, 0, none⟩) 738 738), .int .i64 f, .int .i64 t, .int .i64 gd, .int .i64 n] w fun e w' => e = .returned (errV (movN S f t gd n true)) ∧ MemP g 738 UT w' (wordsG (movS S f t gd n true)) ∧ Only [g] w w' :=
  vmutate_is (viewP g 738 738 UT) hm (hS.insteadP (fun c => c.mutate gd n) f t fun hk h => ⟨movC_may (c := S.cap f) (gd := gd) (n := n) (mu := true) (hS.sok.may f) h, movC_kind (c := S.cap f) (gd := gd) (n := n) (mu := true) hk h⟩)
theorem ddelete_is (hm : MemP g 738 UT w (wordsG S)) (hS : Dok S) (i : Int) :
    Calls Try.prog 12 #[.iface PwT (.slice (some ⟨g, 0, none⟩) 738 738), .int .i64 i] w fun e w' => e = .returned (errV (delN S i)) ∧ MemP g 738 UT w' (wordsG (delS S i)) ∧ Only [g] w w' :=
  vdelete_is (viewP g 738 738 UT) hm (hS.deleteP i)
theorem done_is (hm : MemP g 738 UT w (wordsG S)) (hS : Dok S) (i : Int) :
    Calls Try.prog 10 #[.iface PwT (.slice (some ⟨g, 0, none⟩) 738 738), .int .i64 i] w fun e w' => e = .returned (.tuple #[.bool (oneA S i).1, errV (oneA S i).2]) ∧ MemP g 738 UT w' (wordsG (oneS S i)) ∧ Only [g] w w' :=
  vone_is (viewP g 738 738 UT) hm (hS.delOneP i)
end
end Go.Proofs.Ytlhcigpllkigdaa
