/- What a machine's turns leave of it, as it lies: a worker, a descriptor, the log (layer 8). -/
import Derived.Test.YtleomgmhkoglmaaStmA
namespace Go.Proofs.Ytleomgmhkoglmaa
open Go.RowKit
section
variable {base : Nat} {W W' : World} {G : Geo} {J : List (List Jb)} {M : Ma} {Ps : List Nat} {Fs : List Ft} {AL : Value} {S : List Nat}
theorem setW_self {M : Ma} {k : Nat} {u : Wk} (h : M.ws[k]? = some u) : setW M k u = M := by
  have hl := List.getElem?_eq_some_iff.1 h
  have := @List.set_getElem_self _ M.ws k hl.1
  rw [hl.2] at this
  unfold setW
  rw [this]
theorem nodup_at {L : List Nat} (h : L.Nodup) {i j x : Nat} (hi : L[i]? = some x) (hj : L[j]? = some x) : i = j := by
  have h1 := List.getElem?_eq_some_iff.1 hi
  have h2 := List.getElem?_eq_some_iff.1 hj
  exact (List.getElem_inj h (h₀ := h1.1) (h₁ := h2.1)).1 (h1.2.trans h2.2.symm)
/-- the blocks of a worker, but its head, are no worker's head -/
theorem WkAt.noHead {N : Nat} {pw : Nat} {f : Ft} {fv : Value} {js : List Jb} {u : Wk} (h : WkAt base W N Ps pw f fv js u) {x : Nat} {cur : Array Value} (hx : Blk W x WkT cur) : x ∉ f.bl := by
  have hc : Clear W f.bl [WkT] := by
    obtain ⟨jv, rv, dv, num, k1, k2⟩ := h.blk
    refine (owns_clear h.told (by decide)).app ?_
    cases hp : u.ph with
    | idle => rw [hp] at k2; rw [k2.2.2]; exact Clear.nil
    | learn R =>
      rw [hp] at k2
      obtain ⟨_, _, _, bt, bm, last, h5, h6, h7, h8, h9⟩ := k2
      rw [h5]
      exact (Clear.one h9.blk (by decide)).app (Clear.map h9.own)
    | desc i n => rw [hp] at k2; rw [k2.2.2.2]; exact Clear.nil
  exact hc.not hx (by simp)
/-- one worker has turned, and descriptors were made, perhaps -/
theorem MLie.worker (h : MLie base W G J M Ps Fs AL) {k : Nat} {u u' : Wk} {pw : Nat} {f f' : Ft} {fv : Value} {js : List Jb} (hk : M.ws[k]? = some u) (hp : G.Pw[k]? = some pw) (hf : Fs[k]? = some f) (hv : G.F[k]? = some fv) (hj : J[k]? = some js)
    (ho : Only S W W') (hS : ∀ x ∈ S, x = pw ∨ x ∈ f.bl) (hw : WkAt base W' M.s.L.length Ps pw f' fv js u') (hf' : ∀ x ∈ f'.bl, x ∈ f.bl ∨ W.heap.size ≤ x) : MLie base W' G J (setW M k u') Ps (Fs.set k f') AL := by
  have h0 := h.wk k u pw f fv js hk hp hf hv hj
  have hS' : ∀ x ∈ S, x ∈ pw :: f.bl := fun x hx => by rcases hS x hx with rfl | h1 <;> simp [*]
  have hC : Clear W S [WT, CellT, DT, ET, MT, LgT, PWT, JobsT, JobT, OpsT] := (h0.clear (by decide) (by decide) (by decide)).part hS'
  have hb : ∀ x ∈ S, base ≤ x := fun x hx => by
    rcases hS x hx with rfl | h1
    · exact h0.own
    · exact (h0.lt.2 x h1).1
  obtain ⟨l1, l2, l3, l4⟩ := h.len
  refine ⟨h.store.only ho (hC.not h.store.head (by simp)) (hC.not h.store.body (by simp)), h.lim, h.crowd.only ho (hC.less (by simp)), ?_, owns_keep h.log ho (fun x hx => by
    obtain ⟨cur, hb⟩ := owns_blk h.log hx
    exact hC.not hb (by simp)), h.row.only ho (fun g cur hb => hC.not hb (by simp)), h.nodup, by simp [setW, l1, l2, l3, l4], fun j u2 pw2 f2 fv2 js2 h1 h2 h3 h4 h5 => ?_, fun j fv2 js2 h1 h2 => ⟨(h.feed j fv2 js2 h1 h2).1.only ho (hC.less (by simp)) hb, (h.feed j fv2 js2 h1 h2).2⟩, fun a b f1 f2 hab h1 h2 x hx hx2 => ?_, h.own, by simpa [setW] using h.few⟩
  · have := ho.blk h.mach (hC.not h.mach (by simp))
    simpa [setW] using this
  · by_cases hjk : j = k
    · subst hjk
      rw [hp] at h2
      rw [hv] at h4
      rw [hj] at h5
      have hl := (List.getElem?_eq_some_iff.1 hk).1
      simp only [setW, List.getElem?_set_self hl] at h1
      rw [List.getElem?_set_self (by omega)] at h3
      cases h1; cases h2; cases h3; cases h4; cases h5
      exact hw
    · simp only [setW, List.getElem?_set_ne (Ne.symm hjk)] at h1
      rw [List.getElem?_set_ne (Ne.symm hjk)] at h3
      have hw2 := h.wk j u2 pw2 f2 fv2 js2 h1 h2 h3 h4 h5
      obtain ⟨_, _, _, _, q1, _⟩ := hw2.blk
      obtain ⟨_, _, _, _, q2, _⟩ := h0.blk
      refine hw2.only ho (hC.less (by simp)) hb (fun hx => ?_) (fun x hx hs => ?_)
      · rcases hS _ hx with h6 | h6
        · rw [h6] at h2; exact hjk (nodup_at h.nodup h2 hp)
        · exact h0.noHead q1 h6
      · rcases hS _ hs with h6 | h6
        · rw [h6] at hx; exact hw2.noHead q2 hx
        · exact h.apart j k f2 f hjk h3 hf x hx h6
  · have key : ∀ (j : Nat) (g : Ft), j ≠ k → Fs[j]? = some g → ∀ x ∈ f'.bl, x ∉ g.bl := fun j g hj hg x hx hxg => by
      rcases hf' x hx with h1 | h1
      · exact h.apart k j f g (Ne.symm hj) hf hg x h1 hxg
      · have hjl : j < M.ws.length := by rw [← l2]; exact (List.getElem?_eq_some_iff.1 hg).1
        obtain ⟨pw3, f3, fv3, js3, g1, g2, g3, g4, g5⟩ := h.at_ (List.getElem?_eq_getElem hjl)
        rw [hg] at g2
        cases g2
        have := (g5.lt.2 x hxg).2
        omega
    have hlk : k < Fs.length := (List.getElem?_eq_some_iff.1 hf).1
    by_cases ha : a = k
    · subst ha
      rw [List.getElem?_set_self hlk] at h1
      cases h1
      rw [List.getElem?_set_ne hab] at h2
      exact key b f2 (Ne.symm hab) h2 x hx hx2
    · rw [List.getElem?_set_ne (Ne.symm ha)] at h1
      by_cases hbk : b = k
      · subst hbk
        rw [List.getElem?_set_self hlk] at h2
        cases h2
        exact key a f1 ha h1 x hx2 hx
      · rw [List.getElem?_set_ne (Ne.symm hbk)] at h2
        exact h.apart a b f1 f2 hab h1 h2 x hx hx2
/-- the blocks that are neither a worker's head nor below it -/
theorem MLie.others (h : MLie base W G J M Ps Fs AL) (hC : Clear W S [WkT, IntT, 106]) (hM : ∀ x ∈ S, ∃ t cur, Blk W x t cur) {j : Nat} {u : Wk} {pw : Nat} {f : Ft} {fv : Value} {js : List Jb} (h1 : M.ws[j]? = some u) (h2 : G.Pw[j]? = some pw) (h3 : Fs[j]? = some f) (h4 : G.F[j]? = some fv) (h5 : J[j]? = some js) :
    pw ∉ S ∧ ∀ x ∈ f.bl, x ∉ S := by
  have hw := h.wk j u pw f fv js h1 h2 h3 h4 h5
  obtain ⟨jv, rv, dv, num, q1, q2⟩ := hw.blk
  refine ⟨hC.not q1 (by simp), fun x hx hs => ?_⟩
  obtain ⟨t, cur, hb⟩ := hM x hs
  have hcl := hw.clear (Ts := [t]) (fun e => ?_) (fun e => ?_) (fun e => ?_)
  · exact hcl.not hb (by simp) (by simp [hx])
  · simp only [List.mem_cons, List.not_mem_nil, or_false] at e; exact hC x hs t cur hb (by rw [← e]; simp)
  · simp only [List.mem_cons, List.not_mem_nil, or_false] at e; exact hC x hs t cur hb (by rw [← e]; simp)
  · simp only [List.mem_cons, List.not_mem_nil, or_false] at e; exact hC x hs t cur hb (by rw [← e]; simp)
/-- one descriptor has gone a step -/
theorem MLie.desc (h : MLie base W G J M Ps Fs AL) {i p : Nat} {A : Option Addr} {cap : Nat} {d d' : De} {s' : St} (hi : Ps[i]? = some p) (hda : DeskAt W p A cap d) (ho : Only [p, G.gS] W W') (hd' : DeskAt W' p A cap d') (hs' : StoreAt W' WT G.ps G.gS s') (hl : s'.L.length = M.s.L.length) :
    MLie base W' G J { M with s := s', Ds := M.Ds.set i d' } Ps Fs AL := by
  have hC : Clear W [p, G.gS] [ET, WT, MT, LgT, PWT, JobsT, JobT, OpsT, WkT, IntT, 106] := (Clear.one hda.head (by decide)).app (S' := [G.gS]) (Clear.one h.store.body (by decide))
  have hM : ∀ x ∈ [p, G.gS], ∃ t cur, Blk W x t cur := fun x hx => by
    simp only [List.mem_cons, List.not_mem_nil, or_false] at hx
    rcases hx with rfl | rfl
    · exact ⟨_, _, hda.head⟩
    · exact ⟨_, _, h.store.body⟩
  have hb : ∀ x ∈ [p, G.gS], base ≤ x := fun x hx => by
    simp only [List.mem_cons, List.not_mem_nil, or_false] at hx
    rcases hx with rfl | rfl
    · exact h.own.2.2 _ (List.mem_of_getElem? hi)
    · exact h.own.2.1
  refine ⟨hs', by simpa [hl] using h.lim, ?_, ?_, owns_keep h.log ho (fun x hx => by
    obtain ⟨cur, hb⟩ := owns_blk h.log hx
    exact hC.not hb (by simp)), h.row.only ho (fun g cur hb => hC.not hb (by simp)), h.nodup, h.len, fun j u2 pw2 f2 fv2 js2 h1 h2 h3 h4 h5 => ?_, fun j fv2 js2 h1 h2 => ⟨(h.feed j fv2 js2 h1 h2).1.only ho (hC.less (by simp)) hb, (h.feed j fv2 js2 h1 h2).2⟩, h.apart, h.own, h.few⟩
  · exact h.crowd.step ho hi hda hd' h.store.body (by decide) (by decide) (by decide)
  · have := ho.blk h.mach (hC.not h.mach (by simp))
    simpa using this
  · obtain ⟨n1, n2⟩ := h.others (S := [p, G.gS]) (hC.less (by simp)) hM h1 h2 h3 h4 h5
    have hw2 := (h.wk j u2 pw2 f2 fv2 js2 h1 h2 h3 h4 h5).only ho (hC.less (by simp)) hb n1 n2
    rw [← hl] at hw2
    exact hw2
/-- the log has grown -/
theorem MLie.logged (h : MLie base W G J M Ps Fs AL) {x : Lg} {AL' : Value} (ho : Only (G.pm :: AL.ownBlock.toList) W W') (hm : Blk W' G.pm MT #[.pointer (some ⟨G.ps, 0, none⟩), .slice G.AW M.ws.length G.cW, .int .i64 M.Ds.length, AL'])
    (hlg : W'.ownsRow base LgT 4 AL' (M.log.length + 1) (M.log.flatMap Lg.row ++ x.row)) : MLie base W' G J { M with log := M.log ++ [x] } Ps Fs AL' := by
  have hC : Clear W (G.pm :: AL.ownBlock.toList) [WT, CellT, DT, ET, PWT, JobsT, JobT, OpsT, WkT, IntT, 106] := (Clear.one h.mach (by decide)).app (S' := AL.ownBlock.toList) (owns_clear h.log (by decide))
  have hM : ∀ x ∈ G.pm :: AL.ownBlock.toList, ∃ t cur, Blk W x t cur := fun x hx => by
    rcases List.mem_cons.1 hx with rfl | hx
    · exact ⟨_, _, h.mach⟩
    · obtain ⟨cur, hc⟩ := owns_blk h.log hx
      exact ⟨_, _, hc⟩
  have hb : ∀ x ∈ G.pm :: AL.ownBlock.toList, base ≤ x := fun x hx => by
    rcases List.mem_cons.1 hx with rfl | hx
    · exact h.own.1
    · exact (h.log.lt x (by simpa using hx)).1
  refine ⟨h.store.only ho (hC.not h.store.head (by simp)) (hC.not h.store.body (by simp)), h.lim, h.crowd.only ho (hC.less (by simp)), hm, by simpa using hlg, h.row.only ho (fun g cur hb => hC.not hb (by simp)), h.nodup, h.len, fun j u2 pw2 f2 fv2 js2 h1 h2 h3 h4 h5 => ?_, fun j fv2 js2 h1 h2 => ⟨(h.feed j fv2 js2 h1 h2).1.only ho (hC.less (by simp)) hb, (h.feed j fv2 js2 h1 h2).2⟩, h.apart, h.own, h.few⟩
  obtain ⟨n1, n2⟩ := h.others (S := G.pm :: AL.ownBlock.toList) (hC.less (by simp)) hM h1 h2 h3 h4 h5
  exact (h.wk j u2 pw2 f2 fv2 js2 h1 h2 h3 h4 h5).only ho (hC.less (by simp)) hb n1 n2
/-- a descriptor was made, and is a worker's -/
theorem MLie.pushed (h : MLie base W G J M Ps Fs AL) {k : Nat} {u u' : Wk} {pw : Nat} {f f' : Ft} {fv : Value} {js : List Jb} (hk : M.ws[k]? = some u) (hp : G.Pw[k]? = some pw) (hf : Fs[k]? = some f) (hv : G.F[k]? = some fv) (hj : J[k]? = some js) {p : Nat} {A : Option Addr} {cap : Nat} {d : De}
    (ho : Only [G.pm, pw] W W') (hm : Blk W' G.pm MT #[.pointer (some ⟨G.ps, 0, none⟩), .slice G.AW M.ws.length G.cW, .int .i64 ((M.Ds.length : Int) + 1), AL]) (hd : DeskAt W' p A cap d) (hpn : W.heap.size ≤ p) (hbase : base ≤ W.heap.size) (hw : WkAt base W' M.s.L.length (Ps ++ [p]) pw f' fv js u') (hf' : ∀ x ∈ f'.bl, x ∈ f.bl) :
    MLie base W' G J { setW M k u' with Ds := M.Ds ++ [d] } (Ps ++ [p]) (Fs.set k f') AL := by
  have h0 := h.wk k u pw f fv js hk hp hf hv hj
  obtain ⟨_, _, _, _, q0, _⟩ := h0.blk
  have hC : Clear W [G.pm, pw] [WT, CellT, DT, ET, LgT, PWT, JobsT, JobT, OpsT, IntT, 106] := (Clear.one h.mach (by decide)).app (S' := [pw]) (Clear.one q0 (by decide))
  have hb : ∀ x ∈ [G.pm, pw], base ≤ x := fun x hx => by
    simp only [List.mem_cons, List.not_mem_nil, or_false] at hx
    rcases hx with rfl | rfl
    · exact h.own.1
    · exact h0.own
  obtain ⟨l1, l2, l3, l4⟩ := h.len
  have hPs : ∀ (i q : Nat), Ps[i]? = some q → (Ps ++ [p])[i]? = some q := fun i q hq => by
    rw [List.getElem?_append_left (List.getElem?_eq_some_iff.1 hq).1]; exact hq
  have hlk : k < Fs.length := (List.getElem?_eq_some_iff.1 hf).1
  have hcr : Crowd W' DT ET En.row 5 (Ps ++ [p]) (M.Ds ++ [d]) := by
    have hc := h.crowd.only ho (hC.less (by simp))
    refine ⟨by simp [h.crowd.len], ?_, fun i q e hq he => ?_⟩
    · rw [List.nodup_append]
      refine ⟨h.crowd.nodup, by simp, fun a ha b hb => ?_⟩
      simp only [List.mem_cons, List.not_mem_nil, or_false] at hb
      have := h.crowd.lt ha
      omega
    · by_cases hl : i < Ps.length
      · rw [List.getElem?_append_left hl] at hq
        rw [List.getElem?_append_left (by rw [← h.crowd.len]; exact hl)] at he
        exact hc.at_ i q e hq he
      · rw [List.getElem?_append_right (by omega)] at hq
        rw [List.getElem?_append_right (by rw [← h.crowd.len]; omega)] at he
        have e0 : i - Ps.length = 0 := by
          have := (List.getElem?_eq_some_iff.1 hq).1
          simp at this
          omega
        rw [e0] at hq
        rw [← h.crowd.len, e0] at he
        simp at hq he
        subst hq he
        exact ⟨A, cap, hd⟩
  refine ⟨h.store.only ho (hC.not h.store.head (by simp)) (hC.not h.store.body (by simp)), h.lim, hcr, ?_, owns_keep h.log ho (fun x hx => by
    obtain ⟨cur, hb⟩ := owns_blk h.log hx
    exact hC.not hb (by simp)), h.row.only ho (fun g cur hb => hC.not hb (by simp)), h.nodup, by simp [setW, l1, l2, l3, l4], fun j u2 pw2 f2 fv2 js2 h1 h2 h3 h4 h5 => ?_, fun j fv2 js2 h1 h2 => ⟨(h.feed j fv2 js2 h1 h2).1.only ho (hC.less (by simp)) hb, (h.feed j fv2 js2 h1 h2).2⟩, fun a b f1 f2 hab h1 h2 x hx hx2 => ?_, ⟨h.own.1, h.own.2.1, fun q hq => ?_⟩, by simpa [setW] using h.few⟩
  · simpa [setW] using hm
  · by_cases hjk : j = k
    · subst hjk
      rw [hp] at h2
      rw [hv] at h4
      rw [hj] at h5
      have hl := (List.getElem?_eq_some_iff.1 hk).1
      simp only [setW, List.getElem?_set_self hl] at h1
      rw [List.getElem?_set_self hlk] at h3
      cases h1; cases h2; cases h3; cases h4; cases h5
      exact hw
    · simp only [setW, List.getElem?_set_ne (Ne.symm hjk)] at h1
      rw [List.getElem?_set_ne (Ne.symm hjk)] at h3
      have hw2 := h.wk j u2 pw2 f2 fv2 js2 h1 h2 h3 h4 h5
      obtain ⟨_, _, _, _, q1, _⟩ := hw2.blk
      refine (hw2.only ho (hC.less (by simp)) hb (fun hx => ?_) (fun x hx hs => ?_)).more hPs
      · simp only [List.mem_cons, List.not_mem_nil, or_false] at hx
        rcases hx with h6 | h6
        · rw [h6] at q1; exact absurd (q1.uniq h.mach).1 (by decide)
        · rw [h6] at h2; exact hjk (nodup_at h.nodup h2 hp)
      · simp only [List.mem_cons, List.not_mem_nil, or_false] at hs
        rcases hs with rfl | rfl
        · exact (hw2.clear (Ts := [MT]) (by decide) (by decide) (by decide)).not h.mach (by simp) (by simp [hx])
        · exact hw2.noHead q0 hx
  · by_cases ha : a = k
    · subst ha
      rw [List.getElem?_set_self hlk] at h1
      cases h1
      rw [List.getElem?_set_ne hab] at h2
      exact h.apart a b f f2 hab hf h2 x (hf' x hx) hx2
    · rw [List.getElem?_set_ne (Ne.symm ha)] at h1
      by_cases hbk : b = k
      · subst hbk
        rw [List.getElem?_set_self hlk] at h2
        cases h2
        exact h.apart a b f1 f hab h1 hf x hx (hf' x hx2)
      · rw [List.getElem?_set_ne (Ne.symm hbk)] at h2
        exact h.apart a b f1 f2 hab h1 h2 x hx hx2
  · rcases List.mem_append.1 hq with hq | hq
    · exact h.own.2.2 q hq
    · simp only [List.mem_cons, List.not_mem_nil, or_false] at hq
      omega
/-- what a machine's own turns leave of what was there below base -/
theorem MLie.base_le (h : MLie base W G J M Ps Fs AL) : base ≤ W.heap.size := Nat.le_trans h.own.1 (Nat.le_of_lt h.mach.lt)
end
end Go.Proofs.Ytleomgmhkoglmaa
