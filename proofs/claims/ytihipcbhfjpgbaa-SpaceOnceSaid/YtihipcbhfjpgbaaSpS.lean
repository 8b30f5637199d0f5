/- Frames in spaces (layer 18): what is sound of them, and stays so. No dump is read here. -/
import Derived.Test.YtihipcbhfjpgbaaJ8
namespace Go.Proofs.Ytihipcbhfjpgbaa
open Go.RowKit
structure SP (S : RSt) : Prop where
  sok : Sok S
  kd : ∀ i, (S.ob i).kind = if 0 ≤ i ∧ i < 4 then 6 else if 4 ≤ i ∧ i < 6 then 7 else 0
  qe : ∀ i, (S.ob i).queue = []
  fr : ∀ f, 0 ≤ f ∧ f < 4 → ((S.ob f).inn = -1 ∧ (S.ob f).page = 0) ∨ ((4 ≤ (S.ob f).inn ∧ (S.ob f).inn < 6) ∧ (0 ≤ (S.ob f).page ∧ (S.ob f).page < 4) ∧ (S.ob (S.ob f).inn).at (S.ob f).page = f)
  sp : ∀ s p, 4 ≤ s ∧ s < 6 → 0 ≤ p ∧ p < 4 → ((S.ob s).at p = -1 ∧ (S.ob s).with p = 0) ∨ ((0 ≤ (S.ob s).at p ∧ (S.ob s).at p < 4) ∧ ((S.ob ((S.ob s).at p)).inn = s ∧ (S.ob ((S.ob s).at p)).page = p) ∧ (0 ≤ (S.ob s).with p ∧ (S.ob s).with p ≤ 7))
section
variable {L L' : List Int} {S : RSt} {f s p r q i : Int}
theorem SP.qf (h : SP S) : S.QFit := ⟨fun o e => absurd (h.qe o) e, fun o t ht => by rw [h.qe] at ht; simp at ht, fun o => by rw [h.qe]; exact List.nodup_nil, fun o p t ht => by rw [h.qe] at ht; simp at ht⟩
theorem SP.wok (h : SP S) : Wok (wordsG S) S := Wok.of h.sok h.qf
theorem SP.isF (h : SP S) : isO S f 6 = decide (0 ≤ f ∧ f < 4) := by
  unfold isO
  rw [h.kd]
  by_cases e : 0 ≤ f ∧ f < 4
  · rw [if_pos e, decide_eq_true e]
    exact decide_eq_true ⟨e.1, by omega, rfl⟩
  · rw [if_neg e, decide_eq_false e]
    split <;> exact decide_eq_false (fun z => by omega)
theorem SP.isS (h : SP S) : isO S s 7 = decide (4 ≤ s ∧ s < 6) := by
  unfold isO
  rw [h.kd]
  by_cases e2 : 4 ≤ s ∧ s < 6
  · rw [if_neg (by omega), if_pos e2, decide_eq_true e2]
    exact decide_eq_true ⟨by omega, by omega, rfl⟩
  · rw [if_neg e2, decide_eq_false e2]
    split <;> exact decide_eq_false (fun z => by omega)
theorem SP.k6 (h : SP S) (hf : 0 ≤ f ∧ f < 4) : (S.ob f).kind = 6 := by rw [h.kd, if_pos hf]
theorem SP.k7 (h : SP S) (hs : 4 ≤ s ∧ s < 6) : (S.ob s).kind = 7 := by rw [h.kd, if_neg (by omega), if_pos hs]
theorem pgS_kind (S : RSt) (s p f r i : Int) : ((pgS S s p f r).ob i).kind = (S.ob i).kind := up_same RObj.kind (fun _ => setPg_same.1)
theorem pgS_queue (S : RSt) (s p f r i : Int) : ((pgS S s p f r).ob i).queue = (S.ob i).queue := up_same RObj.queue (fun _ => setPg_same.2.1)
theorem pgS_inn (S : RSt) (s p f r i : Int) : ((pgS S s p f r).ob i).inn = (S.ob i).inn := up_same RObj.inn (fun _ => setPg_same.2.2.2.1)
theorem pgS_page (S : RSt) (s p f r i : Int) : ((pgS S s p f r).ob i).page = (S.ob i).page := up_same RObj.page (fun _ => setPg_same.2.2.2.2)
theorem pgS_at (hp : 0 ≤ p ∧ p < 4) (hq : 0 ≤ q ∧ q < 4) : ((pgS S s p f r).ob i).at q = if i = s ∧ q = p then f else (S.ob i).at q := by
  unfold pgS
  rw [upO_at]
  by_cases e : i = s
  · rw [if_pos e, setPg_at hp hq, e]
    by_cases e2 : q = p
    · rw [if_pos e2, if_pos ⟨rfl, e2⟩]
    · rw [if_neg e2, if_neg (fun z => e2 z.2)]
  · rw [if_neg e, if_neg (fun z => e z.1)]
theorem pgS_with (hp : 0 ≤ p ∧ p < 4) (hq : 0 ≤ q ∧ q < 4) : ((pgS S s p f r).ob i).with q = if i = s ∧ q = p then r else (S.ob i).with q := by
  unfold pgS
  rw [upO_at]
  by_cases e : i = s
  · rw [if_pos e, setPg_with hp hq, e]
    by_cases e2 : q = p
    · rw [if_pos e2, if_pos ⟨rfl, e2⟩]
    · rw [if_neg e2, if_neg (fun z => e2 z.2)]
  · rw [if_neg e, if_neg (fun z => e z.1)]
theorem innS_kind (S : RSt) (f s p i : Int) : ((innS S f s p).ob i).kind = (S.ob i).kind := up_same RObj.kind (fun _ => rfl)
theorem innS_queue (S : RSt) (f s p i : Int) : ((innS S f s p).ob i).queue = (S.ob i).queue := up_same RObj.queue (fun _ => rfl)
theorem innS_at (S : RSt) (f s p i q : Int) : ((innS S f s p).ob i).at q = (S.ob i).at q := up_same (fun x => x.at q) (fun _ => by unfold RObj.at RObj.pg; split <;> rfl)
theorem innS_with (S : RSt) (f s p i q : Int) : ((innS S f s p).ob i).with q = (S.ob i).with q := up_same (fun x => x.with q) (fun _ => by unfold RObj.with RObj.rt; split <;> rfl)
theorem innS_inn (S : RSt) (f s p i : Int) : ((innS S f s p).ob i).inn = if i = f then s else (S.ob i).inn := up_set RObj.inn _ rfl
theorem innS_page (S : RSt) (f s p i : Int) : ((innS S f s p).ob i).page = if i = f then p else (S.ob i).page := up_set RObj.page _ rfl
theorem Sok.pgS (h : Sok S) (hp : 0 ≤ p ∧ p < 4) (hf : -1 ≤ f ∧ f ≤ 1099511627776) (hr : 0 ≤ r ∧ r ≤ 1099511627776) : Sok (Go.Proofs.Ytihipcbhfjpgbaa.pgS S s p f r) := h.upO fun _ hx => setPg_fit hx hp hf hr
theorem Sok.innS (h : Sok S) (hs : m40' s) (hp : b40 p) : Sok (Go.Proofs.Ytihipcbhfjpgbaa.innS S f s p) := h.upO fun _ hx => { hx with inn := hs, page := hp, pg := hx.pg, rt := hx.rt }
theorem SP.map (h : SP S) : SP (mapS S f s p r) := by
  unfold mapS
  split
  · next h0 =>
    unfold mapN at h0
    by_cases e1 : isO S f 6 = true ∧ isO S s 7 = true
    · rw [if_pos e1] at h0
      have hf : 0 ≤ f ∧ f < 4 := by have := e1.1; rw [h.isF] at this; exact of_decide_eq_true this
      have hs : 4 ≤ s ∧ s < 6 := by have := e1.2; rw [h.isS] at this; exact of_decide_eq_true this
      by_cases e2 : p < 0 ∨ 3 < p ∨ r < 0 ∨ 7 < r
      · rw [if_pos e2] at h0; omega
      rw [if_neg e2] at h0
      by_cases e3 : 0 ≤ (S.ob f).inn
      · rw [if_pos e3] at h0; omega
      rw [if_neg e3] at h0
      by_cases e4 : 0 ≤ (S.ob s).at p
      · rw [if_pos e4] at h0; omega
      have hp : 0 ≤ p ∧ p < 4 := by omega
      have hfr : (S.ob f).inn = -1 := by
        rcases h.fr f hf with q | q
        · exact q.1
        · omega
      refine ⟨(h.sok.pgS hp ⟨by omega, by omega⟩ ⟨by omega, by omega⟩).innS ⟨by omega, by omega⟩ ⟨by omega, by omega⟩, fun i => ?_, fun i => ?_, fun i hi => ?_, fun i q hi hq => ?_⟩
      · rw [innS_kind, pgS_kind]; exact h.kd i
      · rw [innS_queue, pgS_queue]; exact h.qe i
      · rw [innS_inn, innS_page, pgS_inn, pgS_page]
        by_cases e : i = f
        · rw [if_pos e, if_pos e, innS_at, pgS_at hp hp, if_pos ⟨rfl, rfl⟩]
          exact .inr ⟨hs, hp, e.symm⟩
        · rw [if_neg e, if_neg e]
          rcases h.fr i hi with q | ⟨q1, q2, q3⟩
          · exact .inl q
          · refine .inr ⟨q1, q2, ?_⟩
            rw [innS_at, pgS_at hp q2, if_neg (fun z => by rw [z.1, z.2] at q3; omega)]
            exact q3
      · rw [innS_at, innS_with, pgS_at hp hq, pgS_with hp hq]
        by_cases e : i = s ∧ q = p
        · rw [if_pos e, if_pos e, innS_inn, innS_page, if_pos rfl, if_pos rfl]
          exact .inr ⟨hf, ⟨e.1.symm, e.2.symm⟩, by omega, by omega⟩
        · rw [if_neg e, if_neg e]
          rcases h.sp i q hi hq with z | ⟨z1, z2, z3⟩
          · exact .inl z
          · have hne : (S.ob i).at q ≠ f := fun z => by rw [z] at z2; omega
            refine .inr ⟨z1, ?_, z3⟩
            rw [innS_inn, innS_page, if_neg hne, if_neg hne, pgS_inn, pgS_page]
            exact z2
    · rw [if_neg e1] at h0; omega
  · exact h
theorem SP.unm (h : SP S) : SP (unmS S f) := by
  unfold unmS
  split
  · next h0 =>
    unfold unmN at h0
    by_cases e1 : isO S f 6 = true
    · rw [if_pos e1] at h0
      have hf : 0 ≤ f ∧ f < 4 := by have := e1; rw [h.isF] at this; exact of_decide_eq_true this
      by_cases e3 : (S.ob f).inn < 0
      · rw [if_pos e3] at h0; omega
      rcases h.fr f hf with z | ⟨hs, hp, hat⟩
      · omega
      obtain ⟨s, hss⟩ : ∃ s, (S.ob f).inn = s := ⟨_, rfl⟩
      obtain ⟨p, hpp⟩ : ∃ p, (S.ob f).page = p := ⟨_, rfl⟩
      rw [hss, hpp] at hat
      rw [hss] at hs ⊢
      rw [hpp] at hp ⊢
      refine ⟨(h.sok.pgS hp ⟨by omega, by omega⟩ ⟨by omega, by omega⟩).innS ⟨by omega, by omega⟩ ⟨by omega, by omega⟩, fun i => ?_, fun i => ?_, fun i hi => ?_, fun i q hi hq => ?_⟩
      · rw [innS_kind, pgS_kind]; exact h.kd i
      · rw [innS_queue, pgS_queue]; exact h.qe i
      · rw [innS_inn, innS_page, pgS_inn, pgS_page]
        by_cases e : i = f
        · rw [if_pos e, if_pos e]
          exact .inl ⟨rfl, rfl⟩
        · rw [if_neg e, if_neg e]
          rcases h.fr i hi with q | ⟨q1, q2, q3⟩
          · exact .inl q
          · refine .inr ⟨q1, q2, ?_⟩
            rw [innS_at, pgS_at hp q2, if_neg (fun z => by rw [z.1, z.2, hat] at q3; omega)]
            exact q3
      · rw [innS_at, innS_with, pgS_at hp hq, pgS_with hp hq]
        by_cases e : i = s ∧ q = p
        · rw [if_pos e, if_pos e]
          exact .inl ⟨rfl, rfl⟩
        · rw [if_neg e, if_neg e]
          rcases h.sp i q hi hq with z | ⟨z1, z2, z3⟩
          · exact .inl z
          · have hne : (S.ob i).at q ≠ f := fun z => by rw [z, hss, hpp] at z2; exact e ⟨z2.1.symm, z2.2.symm⟩
            refine .inr ⟨z1, ?_, z3⟩
            rw [innS_inn, innS_page, if_neg hne, if_neg hne, pgS_inn, pgS_page]
            exact z2
    · rw [if_neg e1] at h0; omega
  · exact h
/-- a page's, a frame's words are put -/
theorem Wok.putPg (h : Wok L S) (hs : 0 ≤ s ∧ s < 32) (hk : (S.ob s).kind = 7) (hp : 0 ≤ p ∧ p < 4) (hf : -1 ≤ f ∧ f ≤ 1099511627776) (hr : 0 ≤ r ∧ r ≤ 1099511627776) : Wok (putL L s (1 + p) (pgW f r)) (pgS S s p f r) := by
  obtain ⟨a, rfl, ha⟩ := nat_of hs
  have hv : 0 ≤ pgW f r := by unfold pgW; split <;> omega
  have e : putL L (a : Int) (1 + p) (pgW f r) = setL L (ow a (1 + p.toNat)) (pgW f r) := by
    unfold putL
    rw [if_pos ⟨objB_in ⟨by omega, by omega⟩ ⟨by omega, by omega⟩, hv⟩, show (480 : Int) + 8 * (a : Int) + (1 + p) = ow a (1 + p.toNat) by unfold ow; omega]
  rw [e]
  have hx := h.sok.obs a ha
  refine h.put ha (f := 1 + p.toNat) (by omega) (x := (S.ob (a : Int)).setPg p f r) (setPg_fit hx hp hf hr) setPg_same.1 setPg_same.2.1 setPg_same.2.2.1 (fun z => by omega) (fun z => by unfold RObj.isQ at z; omega) ?_ (fun g hg hne => fldW_setPg hk hp hg hne)
  rw [fldW_pg (by rw [setPg_same.1]; exact hk) hp, setPg_at hp hp, if_pos rfl, setPg_with hp hp, if_pos rfl]
def in1S (S : RSt) (f s : Int) : RSt := S.upO f fun x => { x with inn := s }
theorem in1S_kind (S : RSt) (f s i : Int) : ((in1S S f s).ob i).kind = (S.ob i).kind := up_same RObj.kind (fun _ => rfl)
theorem in1_innS : (in1S S f s).upO f (fun x => { x with page := p }) = innS S f s p := RSt.ext' rfl rfl rfl (fun i => by simp only [in1S, innS, upO_at]; split <;> simp) rfl rfl
theorem Wok.putIn (h : Wok L S) (hf : 0 ≤ f ∧ f < 32) (hk : (S.ob f).kind = 6) (hs : m40' s) : Wok (putL L f 1 (s + 1)) (in1S S f s) := by
  obtain ⟨a, rfl, ha⟩ := nat_of hf
  have hs' := hs.1
  have e : putL L (a : Int) 1 (s + 1) = setL L (ow a 1) (s + 1) := by
    unfold putL
    rw [if_pos ⟨objB_in ⟨by omega, by omega⟩ ⟨by omega, by omega⟩, by omega⟩, show (480 : Int) + 8 * (a : Int) + 1 = ow a 1 by unfold ow; omega]
  rw [e]
  have hx := h.sok.obs a ha
  refine h.put ha (f := 1) (by omega) (x := { S.ob (a : Int) with inn := s }) { hx with inn := hs, pg := hx.pg, rt := hx.rt } rfl rfl rfl (fun z => by omega) (fun z => by unfold RObj.isQ at z; omega) (fldW_fr (x := { S.ob (a : Int) with inn := s }) hk).1 (fun g hg hne => ?_)
  rcases gcase hg with rfl | rfl | rfl | rfl | rfl | rfl | rfl | rfl <;> first | (exact absurd rfl hne) | (simp [fldW, kindF, putF, ow, hk])
theorem Wok.putPage (h : Wok L S) (hf : 0 ≤ f ∧ f < 32) (hk : (S.ob f).kind = 6) (hp : b40 p) : Wok (putL L f 2 p) (S.upO f fun x => { x with page := p }) := by
  obtain ⟨a, rfl, ha⟩ := nat_of hf
  have e : putL L (a : Int) 2 p = setL L (ow a 2) p := by
    unfold putL
    rw [if_pos ⟨objB_in ⟨by omega, by omega⟩ ⟨by omega, by omega⟩, hp.1⟩, show (480 : Int) + 8 * (a : Int) + 2 = ow a 2 by unfold ow; omega]
  rw [e]
  have hx := h.sok.obs a ha
  refine h.put ha (f := 2) (by omega) (x := { S.ob (a : Int) with page := p }) { hx with page := hp, pg := hx.pg, rt := hx.rt } rfl rfl rfl (fun z => by omega) (fun z => by unfold RObj.isQ at z; omega) (fldW_fr (x := { S.ob (a : Int) with page := p }) hk).2 (fun g hg hne => ?_)
  rcases gcase hg with rfl | rfl | rfl | rfl | rfl | rfl | rfl | rfl <;> first | (exact absurd rfl hne) | (simp [fldW, kindF, putF, ow, hk])
/-- a frame is put into a space, or out of it: both its words -/
theorem Wok.putInn (h : Wok L S) (hf : 0 ≤ f ∧ f < 32) (hk : (S.ob f).kind = 6) (hs : m40' s) (hp : b40 p) : Wok (putL (putL L f 1 (s + 1)) f 2 p) (innS S f s p) := by
  have q := (h.putIn hf hk hs).putPage (f := f) hf (by rw [in1S_kind]; exact hk) hp
  rw [in1_innS] at q
  exact q
theorem Wok.frL (h : Wok L S) (hf : 0 ≤ f ∧ f < 32) (hk : (S.ob f).kind = 6) : fieldL L f 1 = (S.ob f).inn + 1 ∧ fieldL L f 2 = (S.ob f).page := by
  obtain ⟨a, rfl, ha⟩ := nat_of hf
  have hx := h.sok.obs a ha
  have w1 := hx.inn
  have w2 := hx.page
  obtain ⟨e1, e2⟩ := fldW_fr hk
  exact ⟨(h.field ha (f := 1) (by omega) (fun z => by omega) (fun z => by unfold RObj.isQ at z; omega) (by rw [e1]; omega)).trans e1, (h.field ha (f := 2) (by omega) (fun z => by omega) (fun z => by unfold RObj.isQ at z; omega) (by rw [e2]; omega)).trans e2⟩
theorem Wok.pgL (h : Wok L S) (hs : 0 ≤ s ∧ s < 32) (hk : (S.ob s).kind = 7) (hp : 0 ≤ p ∧ p < 4) : fieldL L s (1 + p) = pgW ((S.ob s).at p) ((S.ob s).with p) := by
  obtain ⟨a, rfl, ha⟩ := nat_of hs
  have hx := h.sok.obs a ha
  have w1 := hx.pg p.toNat (by omega)
  have w2 := hx.rt p.toNat (by omega)
  have e := fldW_pg hk hp
  have hv : pgW ((S.ob (a : Int)).at p) ((S.ob (a : Int)).with p) ≤ 4611686018427387904 := by unfold pgW RObj.at RObj.with; split <;> omega
  have := (h.field ha (f := 1 + p.toNat) (by omega) (fun z => by omega) (fun z => by unfold RObj.isQ at z; omega) (by rw [e]; exact hv)).trans e
  rw [show ((1 + p.toNat : Nat) : Int) = 1 + p by omega] at this
  exact this
end
end Go.Proofs.Ytihipcbhfjpgbaa
