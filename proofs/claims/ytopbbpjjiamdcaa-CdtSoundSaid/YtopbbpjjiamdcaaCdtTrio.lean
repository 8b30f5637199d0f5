/- Odd words, words and the document's state side by side in memory (layer 10). -/
import Derived.Test.YtopbbpjjiamdcaaCdtAt
import Derived.Test.YtopbbpjjiamdcaaCdtHad
namespace Go.Proofs.Ytopbbpjjiamdcaa
open Go.RowKit
theorem leafN_rng {L : List Int} (h : Us L) : ∀ (n : Nat) (i : Int), i ≤ 95 → leafN L n i ≤ 95 := by
  intro n
  induction n with
  | zero => intro i hi; exact hi
  | succ n ih =>
    intro i hi
    rw [show leafN L (n + 1) i = if toldL L i 2 = -1 then i else leafN L n (toldL L i 2) from rfl]
    split
    · exact hi
    · refine ih _ ?_
      unfold toldL
      split
      · exact (toldI_rng (h.atL _)).2
      · omega
theorem leafL_rng {L : List Int} (h : Us L) (i : Int) : leafL L i ≤ 95 := by
  unfold leafL
  split
  · next hb => have := (slotB_yes.1 hb).2.1; exact leafN_rng h 96 i (by omega)
  · omega
/-- linked and unlinked: as it was -/
theorem Cur.back {L : List Int} {S : RSt} {a b : Int} (c : Cur L S) (ha : InS a) (hb : InS b) (hab : a ≠ b) (h0 : S.par a = -1) : linkA L a b = 0 ∧ unlinkA a = 0 ∧ unlinkL (linkL L a b) a = L := by
  have c1 := c.link a b
  have sa : slotOk a = true := slotOk_in.2 ha
  have sb : slotOk b = true := slotOk_in.2 hb
  have n1 : linkN S a b = 0 := by
    unfold linkN
    rw [if_neg (by simp [sa, sb]), if_neg (by rw [h0]; omega)]
  have n2 : unlinkA a = 0 := by
    unfold unlinkA
    rw [← slotOk_is, sa]
    rfl
  have c2 := (c1.2.unlink a).2
  have eS : linkS S a b = { S with par := setF S.par a b, kids := setF S.kids b (a :: S.kids b) } := by unfold linkS; rw [if_pos n1]
  have hb0 := hb.1
  have eU : unlinkS (linkS S a b) a = { S with par := setF (setF S.par a b) a (-1), kids := setF (setF S.kids b (a :: S.kids b)) b (((setF S.kids b (a :: S.kids b)) b).erase a) } := by
    unfold unlinkS
    rw [eS]
    have e : ({ S with par := setF S.par a b, kids := setF S.kids b (a :: S.kids b) } : RSt).par a = b := setF_self _ _ _
    rw [if_pos ⟨sa, by rw [e]; exact hb0⟩]
    simp only [setF_self]
  refine ⟨c1.1.trans n1, n2, ?_⟩
  rw [eU] at c2
  refine c2.rep.same c.rep c2.tree (fun i _ => ?_) (fun i _ => ?_) (fun j hj => by rw [c2.far j hj, c.far j hj])
  · show setF (setF S.par a b) a (-1) i = S.par i
    by_cases e : i = a
    · subst e; rw [setF_self, h0]
    · rw [setF_ne e, setF_ne e]
  · show setF (setF S.kids b (a :: S.kids b)) b (((setF S.kids b (a :: S.kids b)) b).erase a) i = S.kids i
    by_cases e : i = b
    · subst e; rw [setF_self, setF_self]; simp
    · rw [setF_ne e, setF_ne e]
theorem Cur.same_ {L : List Int} {S : RSt} {a : Int} (_c : Cur L S) (ha : InS a) : linkA L a a = 10 ∧ linkL L a a = L := by
  have sa : slotB a 0 = true := slotB_in.2 ha
  have e : linkA L a a = 10 := by
    unfold linkA
    rw [if_neg (by simp [sa]), if_pos rfl]
  exact ⟨e, by unfold linkL; rw [e, if_neg (by omega)]⟩
theorem wds_only1 {w w' : World} {b g : Nat} {L : List Int} (h : Wds w (some ⟨b, 0, none⟩) L) (ho : Only [g] w w') (hb : b ≠ g) : Wds w' (some ⟨b, 0, none⟩) L := fun k x hx => by
  obtain ⟨b', off, e, hl, hc⟩ := h k x hx
  injection e with e
  injection e with e1 e2 _
  subst e1 e2
  exact ⟨b, 0, rfl, Nat.lt_of_lt_of_le hl ho.size, (ho.cell (p := ⟨b, _, none⟩) hl (by simpa using hb)).trans hc⟩
theorem punlink_nil {g : Nat} {w : World} {L L' : List Int} {k : Int} (hm : MemP g 738 UT w L) (h1 : unlinkA k = 0) (h2 : unlinkL L k = L') :
    Calls Try.prog 11 #[.iface PwT (.slice (some ⟨g, 0, none⟩) 738 738), .int .i64 k] w fun e w' => e = .returned .nilIface ∧ MemP g 738 UT w' L' ∧ Only [g] w w' := punlink_is hm h1 h2
/-- what CdtSound has made -/
structure Trio (w0 w : World) (p gs go g1 g2 : Nat) (O L : List Int) (S : RSt) : Prop where
  odd : MemP g1 738 UT w O
  duo : Duo w0 w p gs go g2 L S
  ne : g1 ≠ g2
  n1 : w0.heap.size ≤ g1
section
variable {w0 w w' w1 w2 : World} {p gs go g1 g2 n0 : Nat} {O O' L L' : List Int} {S S' : RSt} {dw da db : Int}
theorem Trio.only0 (h : Trio w0 w p gs go g1 g2 O L S) (ho : Only [] w w') : Trio w0 w' p gs go g1 g2 O L S := ⟨h.odd.only ho (by simp), h.duo.only0 ho, h.ne, h.n1⟩
/-- the odd words are asked -/
theorem Trio.odds (h : Trio w0 w p gs go g1 g2 O L S) (hm : MemP g1 738 UT w' O') (ho : Only [g1] w w') : Trio w0 w' p gs go g1 g2 O' L S :=
  ⟨hm, ⟨h.duo.mem.only ho (fun e => h.ne (by simp at e; exact e.symm)), apart_ref h.duo.ref h.odd ho, h.duo.cur, h.duo.only.then ho (fun x hx => .inr (by have := h.n1; simp at hx; omega)), h.duo.ng, h.duo.ns⟩, h.ne, h.n1⟩
theorem Trio.read (h : Trio w0 w p gs go g1 g2 O L S) (hm : MemP g2 738 UT w' L) (ho : Only [g2] w w') : Trio w0 w' p gs go g1 g2 O L S :=
  ⟨h.odd.only ho (fun e => h.ne (by simpa using e)), h.duo.read hm ho, h.ne, h.n1⟩
theorem Trio.both (h : Trio w0 w p gs go g1 g2 O L S) (ho : Only [g2] w w1) (hr : RefM w1 p gs go S) (ho2 : Only [gs] w1 w2) (hd : Duo w0 w2 p gs go g2 L' S') : Trio w0 w2 p gs go g1 g2 O L' S' :=
  ⟨apart_mem (h.odd.only ho (fun e => h.ne (by simpa using e))) hr ho2, hd, h.ne, h.n1⟩
theorem Trio.deed1 (h : Trio w0 w p gs go g1 g2 O L S) (hb : Blk w n0 DT (d3 dw da db)) (ho : Only [g1] w w') : Blk w' n0 DT (d3 dw da db) := by
  obtain ⟨cur, hg⟩ := h.odd.blk
  exact ho.blk hb (fun e => by simp at e; subst e; exact absurd (hg.uniq hb).1 (by decide))
end
end Go.Proofs.Ytopbbpjjiamdcaa
