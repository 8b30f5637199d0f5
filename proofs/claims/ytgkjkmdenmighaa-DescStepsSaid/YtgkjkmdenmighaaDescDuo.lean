/- The program's descriptors and the document's, side by side (DescSteps' second loop). -/
import Derived.Test.YtgkjkmdenmighaaDescSame
import Derived.Test.YtgkjkmdenmighaaDescA
import Derived.Test.YtgkjkmdenmighaaRefDesc
import Derived.Test.YtgkjkmdenmighaaDescL
namespace Go.Proofs.Ytgkjkmdenmighaa
open Go.RowKit
abbrev PDT : TypeId := 38
abbrev PRT : TypeId := 40
structure Duo (w W : World) (pS gS pR gR : Nat) (AD AR : Option Addr) (Ps Qs : List Nat) (n : Nat) (Ds : List De) (s : St) : Prop where
  hs : StoreAt W WT pS gS s
  hr : StoreAt W RT pR gR s
  cD : Crowd W DT ET En.row 5 Ps Ds
  cR : Crowd W RDT RET En.rowR 4 Qs Ds
  nD : RowN W AD PDT ptr 1 Ps
  nR : RowN W AR PRT ptr 1 Qs
  ho : Only [] w W
  hT : Told Ds n
section
variable {w W : World} {pS gS pR gR : Nat} {AD AR : Option Addr} {Ps Qs : List Nat} {n : Nat} {Ds : List De} {s : St}
theorem Duo.only0 {W' : World} (h : Duo w W pS gS pR gR AD AR Ps Qs n Ds s) (ho : Only [] W W') : Duo w W' pS gS pR gR AD AR Ps Qs n Ds s :=
  ⟨h.hs.only ho (by simp) (by simp), h.hr.only ho (by simp) (by simp), h.cD.only0 ho, h.cR.only0 ho, h.nD.only ho (by simp), h.nR.only ho (by simp), h.ho.trans ho, h.hT⟩
/-- the two at one place -/
structure Two (W : World) (pS gS pR gR : Nat) (AD AR : Option Addr) (s : St) (m p q : Nat) (A1 A2 : Option Addr) (c1 c2 : Nat) (d : De) : Prop where
  hs : StoreAt W WT pS gS s
  hr : StoreAt W RT pR gR s
  hd : DeskAt W p A1 c1 d
  hq : RescAt W q A2 c2 d
theorem Duo.two (h : Duo w W pS gS pR gR AD AR Ps Qs n Ds s) {m : Nat} (hm : m < n) : ∃ p q A1 A2 c1 c2 d gD gR', Ps[m]? = some p ∧ Qs[m]? = some q ∧ Ds[m]? = some d ∧ AD = some ⟨gD, 0, none⟩ ∧ AR = some ⟨gR', 0, none⟩ ∧
    Two W pS gS pR gR AD AR s m p q A1 A2 c1 c2 d ∧ (∃ cur, Blk W gD PDT cur) ∧ (∃ cur, Blk W gR' PRT cur) ∧ W.cell? ⟨gD, m, none⟩ = some (.pointer (some ⟨p, 0, none⟩)) ∧ W.cell? ⟨gR', m, none⟩ = some (.pointer (some ⟨q, 0, none⟩)) := by
  obtain ⟨p, d, A1, c1, hpk, hdk, hd⟩ := h.cD.get (k := m) (by rw [h.hT.len]; exact hm)
  have hlq : m < Qs.length := by rw [h.cR.len, h.hT.len]; exact hm
  obtain ⟨q, hqk⟩ : ∃ q, Qs[m]? = some q := ⟨_, List.getElem?_eq_getElem hlq⟩
  obtain ⟨A2, c2, hq⟩ := h.cR.at_ m q d hqk hdk
  obtain ⟨gD, curD, hAD, hbD, hcD⟩ := ptr_at h.nD hpk
  obtain ⟨gR', curR, hAR, hbR, hcR⟩ := ptr_at h.nR hqk
  exact ⟨p, q, A1, A2, c1, c2, d, gD, gR', hpk, hqk, hdk, hAD, hAR, ⟨h.hs, h.hr, hd, hq⟩, ⟨_, hbD⟩, ⟨_, hbR⟩, hcD, hcR⟩
variable {m p q : Nat} {A1 A2 : Option Addr} {c1 c2 : Nat} {d : De}
theorem Two.apart (h : Two W pS gS pR gR AD AR s m p q A1 A2 c1 c2 d) {g : Nat} {t : TypeId} {cs : Array Value} (hb : Blk W g t cs) (h1 : t ≠ DT) (h2 : t ≠ RDT) (h3 : t ≠ 55) : g ∉ [p, gS, q, gR] := fun hm => by
  simp only [List.mem_cons, List.not_mem_nil, or_false] at hm
  rcases hm with rfl | rfl | rfl | rfl
  · exact h1 (hb.uniq h.hd.head).1
  · exact h3 (hb.uniq h.hs.body).1
  · exact h2 (hb.uniq h.hq.head).1
  · exact h3 (hb.uniq h.hr.body).1
theorem in1 {a b : World} (h : Only [p, gS] a b) : Only [p, gS, q, gR] a b := h.more fun k _ hk => by simp at hk; simp; omega
theorem in2 {a b : World} (h : Only [q, gR] a b) : Only [p, gS, q, gR] a b := h.more fun k _ hk => by simp at hk; simp; omega
theorem Two.qp (h : Two W pS gS pR gR AD AR s m p q A1 A2 c1 c2 d) : q ≠ p := h.hq.head.ne_ h.hd.head (by decide)
/-- the program's has gone a step -/
theorem Two.first (h : Two W pS gS pR gR AD AR s m p q A1 A2 c1 c2 d) (hz : pR ≠ gS ∧ gR ≠ gS) {W' : World} (ho : Only [p, gS] W W') : RescAt W' q A2 c2 d ∧ StoreAt W' RT pR gR s := by
  refine ⟨h.hq.apart2 ho h.hs.body (by decide) (by decide) h.hd.head h.qp (by decide), h.hr.only ho ?_ ?_⟩
  · have := h.hr.head.ne_ h.hd.head (by decide)
    simp
    omega
  · have := h.hr.body.ne_ h.hd.head (by decide)
    simp
    omega
/-- the document's has gone a step -/
theorem two_second {W' : World} {s1 : St} {d1 : De} (hz : pS ≠ gR ∧ gS ≠ gR) (hd : DeskAt W p A1 c1 d1) (hs : StoreAt W WT pS gS s1) (hq : RescAt W q A2 c2 d) (hr : StoreAt W RT pR gR s) (ho : Only [q, gR] W W') : DeskAt W' p A1 c1 d1 ∧ StoreAt W' WT pS gS s1 := by
  have hqp : q ≠ p := hq.head.ne_ hd.head (by decide)
  refine ⟨hd.apart2 ho hr.body (by decide) (by decide) hq.head (Ne.symm hqp) (by decide), hs.only ho ?_ ?_⟩
  · have := hs.head.ne_ hq.head (by decide)
    simp
    omega
  · have := hs.body.ne_ hq.head (by decide)
    simp
    omega
/-- both have gone a step -/
theorem Duo.step (h : Duo w W pS gS pR gR AD AR Ps Qs n Ds s) (h2 : Two W pS gS pR gR AD AR s m p q A1 A2 c1 c2 d) (hz : pR ≠ gS ∧ gR ≠ gS ∧ pS ≠ gR) (hw : w.heap.size ≤ p ∧ w.heap.size ≤ gS ∧ w.heap.size ≤ q ∧ w.heap.size ≤ gR) (hp : Ps[m]? = some p) (hq : Qs[m]? = some q) (hdk : Ds[m]? = some d) {w4 w5 : World} {d1 : De} {s1 : St}
    (hmk : d1.mark = d.mark) (ho4 : Only [p, gS] W w4) (hd4 : DeskAt w4 p A1 c1 d1) (hs4 : StoreAt w4 WT pS gS s1) (ho5 : Only [q, gR] w4 w5) (hq5 : RescAt w5 q A2 c2 d1) (hr5 : StoreAt w5 RT pR gR s1) :
    Duo w w5 pS gS pR gR AD AR Ps Qs n (Ds.set m d1) s1 := by
  obtain ⟨hq4, hr4⟩ := h2.first ⟨hz.1, hz.2.1⟩ ho4
  obtain ⟨hd5, hs5⟩ := two_second ⟨hz.2.2, Ne.symm hz.2.1⟩ hd4 hs4 hq4 hr4 ho5
  have hall : Only [p, gS, q, gR] W w5 := (in1 ho4).trans (in2 ho5)
  refine ⟨hs5, hr5, ?_, ?_, h.nD.only hall (fun g cur hb => h2.apart hb (by decide) (by decide) (by decide)), h.nR.only hall (fun g cur hb => h2.apart hb (by decide) (by decide) (by decide)), h.ho.then hall (fun x hx => .inr ?_), h.hT.set hdk hmk⟩
  · exact (h.cD.step ho4 hp h2.hd hd4 h2.hs.body (by decide) (by decide) (by decide)).other ho5 hr4.body hq4.head (by decide) (by decide) (by decide) (by decide)
  · exact (h.cR.other ho4 h2.hs.body h2.hd.head (by decide) (by decide) (by decide) (by decide)).step ho5 hq hq4 hq5 hr4.body (by decide) (by decide) (by decide)
  · simp only [List.mem_cons, List.not_mem_nil, or_false] at hx
    omega
end
end Go.Proofs.Ytgkjkmdenmighaa
