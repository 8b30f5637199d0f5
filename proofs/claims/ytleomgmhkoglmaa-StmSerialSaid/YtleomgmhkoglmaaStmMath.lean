/- The machine of layer 8 as mathematics: jobs, what a step does, what holds at each step, how far each gets. No dump is read here. -/
import Derived.Test.YtleomgmhkoglmaaStmInv
import Derived.Test.YtleomgmhkoglmaaEntM
namespace Go.Proofs.Ytleomgmhkoglmaa
section
open Go.RowKit
/-- a job: deeds of layer 6's statements, or the example's -/
inductive Jb where
  | ops (L : List O)
  | add
def numOf (x : Int) : Int := wrap64 (x.tmod 1000000)
/-- what a job tells, and does to a view -/
def Jb.run {σ : Type} (M : Mach σ) : Jb → σ → Int × σ
  | .ops L, s => (numOf (doL M L 0 s).1, (doL M L 0 s).2)
  | .add, s => (wrap64 (M.rd (M.wr (M.rd s 0).2 0 (put64 (M.rd s 0).1 1)) 0).1, (M.rd (M.wr (M.rd s 0).2 0 (put64 (M.rd s 0).1 1)) 0).2)
section
variable {cells : Int} {R : Int → Option Cl} {V : List Int}
theorem rdD_ok {s : Dt} (i : Int) (h : LkOk cells R s) : LkOk cells R (rdD cells R s i).2 := by
  intro y hy
  rw [rdD_lk] at hy
  exact stepLk_ok h y hy
theorem wrD_ok {s : Dt} (i v : Int) (h : LkOk cells R s) : LkOk cells R (wrD cells R s i v) := by
  intro y hy
  rw [wrD_lk] at hy
  exact stepLk_ok h y hy
theorem Jb.lacks (j : Jb) {s : Dt} (h : LkOk cells R s) : LkOk cells R (j.run (machD cells R) s).2 := by
  cases j with
  | ops L => exact doD_lacks L 0 h
  | add => exact rdD_ok 0 (wrD_ok 0 _ (rdD_ok 0 h))
theorem LkOk.new : LkOk cells R Dt.new := fun y hy => by cases hy
/-- a record without its versions -/
def zv (R : Int → Option Cl) : Int → Option Cl := fun i => (R i).map fun c => ⟨c.v, 0, c.mark⟩
theorem zv_none (i : Int) : (zv R i).isNone = (R i).isNone := by unfold zv; cases R i <;> rfl
theorem zv_v (i : Int) : ((zv R i).getD ⟨0, 0, 0⟩).v = ((R i).getD ⟨0, 0, 0⟩).v := by unfold zv; cases R i <;> rfl
theorem needD_zv (s : Dt) (i : Int) : needD (zv R) s i = needD R s i := by unfold needD; rw [zv_none]
theorem machD_zv : machD cells (zv R) = machD cells R := by
  unfold machD
  congr 1
  · funext s i
    unfold rdD valD'
    rw [needD_zv, zv_v]
  · funext s i v
    unfold wrD
    rw [needD_zv]
/-- what was learnt is what the values have -/
def Like (cells : Int) (V : List Int) (R : Int → Option Cl) : Prop := ∀ i c, R i = some c → inB cells i = true ∧ c.v = atL V i
theorem Like.learnt (h : Like cells V R) : Learnt cells V (zv R) := by
  intro i c hc
  unfold zv at hc
  cases hR : R i with
  | none => rw [hR] at hc; cases hc
  | some x =>
    rw [hR] at hc
    cases hc
    exact ⟨(h i x hR).1, (h i x hR).2, rfl⟩
/-- a job that lacks nothing has done what it does to the values -/
theorem Jb.sim (j : Jb) (h : Like cells V R) (hl : (V.length : Int) = cells) (hn : (j.run (machD cells R) Dt.new).2.lk = none) :
    (j.run machP V).1 = (j.run (machD cells R) Dt.new).1 ∧ Sim cells (zv R) V (j.run (machD cells R) Dt.new).2 (j.run machP V).2 := by
  rw [← machD_zv] at hn ⊢
  have h' := h.learnt
  cases j with
  | ops L =>
    have := doD_sim h' L.length L (Nat.le_refl _) 0 Dt.new V (sim_new V hl) hn
    exact ⟨by simp only [Jb.run]; rw [this.1], this.2⟩
  | add =>
    simp only [Jb.run, machD_rd, machD_wr, machP_rd, machP_wr] at hn ⊢
    have nr : ∀ {s : Dt} {i : Int}, (rdD cells (zv R) s i).2.lk = none → s.lk = none := fun {s i} h => by
      cases hs : s.lk with
      | none => rfl
      | some y => rw [rdD_keeps i hs] at h; cases h
    have nw : ∀ {s : Dt} {i v : Int}, (wrD cells (zv R) s i v).lk = none → s.lk = none := fun {s i v} h => by
      cases hs : s.lk with
      | none => rfl
      | some y => rw [wrD_keeps i v hs] at h; cases h
    have k1 := sim_rd h' (sim_new V hl) 0 (nw (nr hn))
    have k2 := sim_wr k1.2 0 (put64 (rdD cells (zv R) Dt.new 0).1 1) (nr hn)
    have k3 := sim_rd h' k2 0 hn
    rw [k1.1] at k2 k3 ⊢
    exact ⟨by rw [k3.1], k3.2⟩
end
/-- where a worker stands -/
inductive Ph where
  | idle
  | learn (R : Int → Option Cl)
  | desc (i : Nat) (num : Int)
structure Wk where
  told : List Int
  ph : Ph
/-- an entry of the log -/
structure Lg where
  wk : Nat
  job : Nat
  told : Int
  spent : Bool
structure Ma where
  s : St
  ws : List Wk
  Ds : List De
  log : List Lg
/-- the keys of a record -/
def keysOf (N : Nat) (R : Int → Option Cl) : List Int := ((List.range N).map Int.ofNat).filter fun x => (R x).isSome
/-- what a descriptor that is over tells -/
def toldBy (d : De) (n : Int) : Int := if d.st = 3 then -1 else n
/-- worker k, whose descriptor i has gone a step -/
def advM (M : Ma) (k : Nat) (u : Wk) (i : Nat) (n : Int) (d d' : De) (s' : St) : Ma :=
  { M with s := s', Ds := M.Ds.set i d', log := if d.st = 0 ∧ (d'.st = 1 ∨ d'.st = 3) then M.log ++ [⟨k, u.told.length, toldBy d' n, d'.st == 3⟩] else M.log }
def advance (M : Ma) (k : Nat) : Int × Ma :=
  match M.ws[k]? with
  | some u => match u.ph with
    | .desc i n => match M.Ds[i]? with
      | some d => ((stepD d M.s).1, advM M k u i n d (stepD d M.s).2.1 (stepD d M.s).2.2)
      | none => (0, M)
    | _ => (0, M)
  | none => (0, M)
def bears (Ds : List De) (mark : Int) (u : Wk) : Bool :=
  match u.ph with
  | .desc i _ => match Ds[i]? with
    | some d => d.mark == mark
    | none => false
  | _ => false
def helpM : Nat → Ma → Int → Ma
  | 0, M, _ => M
  | f + 1, M, mark => match M.ws.findIdx? (bears M.Ds mark) with
    | none => M
    | some k => if (advance M k).1 = 0 then (advance M k).2 else helpM f (advance M k).2 (advance M k).1
def jobOf (J : List (List Jb)) (k : Nat) (u : Wk) : Option Jb := (J.getD k [])[u.told.length]?
def setW (M : Ma) (k : Nat) (u : Wk) : Ma := { M with ws := M.ws.set k u }
/-- a step of a worker: what it tells, the machine -/
def stepM (J : List (List Jb)) (M : Ma) (k : Nat) : Bool × Ma :=
  match M.ws[k]? with
  | none => (false, M)
  | some u => match u.ph with
    | .idle => match jobOf J k u with
      | none => (false, M)
      | some _ => (true, setW M k ⟨u.told, .learn fun _ => none⟩)
    | .learn R => match jobOf J k u with
      | none => (true, M)
      | some j => match (j.run (machD M.s.L.length R) Dt.new).2.lk with
        | none => (true, { setW M k ⟨u.told, .desc M.Ds.length (j.run (machD M.s.L.length R) Dt.new).1⟩ with
            Ds := M.Ds ++ [⟨(M.Ds.length : Int) + 1, ents R (j.run (machD M.s.L.length R) Dt.new).2.wr (keysOf M.s.L.length R), 0, 0⟩] })
        | some i => match M.s.get i with
          | none => (true, M)
          | some c => if c.mark ≠ 0 then (true, helpM M.ws.length M c.mark) else (true, setW M k ⟨u.told, .learn (upd R i ⟨c.v, c.ver, c.mark⟩)⟩)
    | .desc i n => match M.Ds[i]? with
      | none => (true, M)
      | some d => if d.over = true then
          (if d.st = 2 then (true, setW M k ⟨u.told, .learn fun _ => none⟩) else (true, setW M k ⟨u.told ++ [toldBy d n], .idle⟩))
        else (true, helpM M.ws.length M d.mark)
end
section
open Go.RowKit
/-- all versions that entries have read are those that are wanted -/
def FreshL (W : List C) (L : List En) : Prop := ∀ (j : Nat) (e : En), L[j]? = some e → ∃ x, W[e.cell.toNat]? = some x ∧ x.ver = e.ver
def Fresh (W : List C) (R : Int → Option Cl) : Prop := ∀ (i : Int) (c : Cl), R i = some c → ∃ x, W[i.toNat]? = some x ∧ x.ver = c.ver
section
variable {N : Nat} {Ds : List De} {s : St} {W : List C} {k : Nat} {d : De}
theorem Inv.full (h : Inv N Ds s W) (hd : Ds[k]? = some d) (h0 : d.st = 0) (hp : d.pos = d.L.length) : FreshL W d.L := fun j e he => by
  have hj := (List.getElem?_eq_some_iff.1 he).1
  obtain ⟨c, h1, h2, h3, h4⟩ := h.held k d j e hd he (.inl ⟨h0, by omega⟩) (by omega)
  refine ⟨{ c with mark := 0 }, ?_, h3⟩
  rw [h.want _ _ h1, pend_at h2 hd, if_neg (by omega)]
/-- what a step comes to, of one that isn't over -/
theorem Inv.ways (h : Inv N Ds s W) (hd : Ds[k]? = some d) (ho : d.over = false) {d' : De} {s' : St} (hs : stepD d s = (0, d', s')) :
    (d.pos < d.L.length ∧ d' = { d with pos := d.pos + 1 }) ∨ (d.st = 0 ∧ d.pos < d.L.length ∧ d' = { d with st := 2, pos := 0 } ∧ ¬ FreshL W d.L) ∨
    (d.st = 0 ∧ d.pos < d.L.length ∧ d' = { d with st := 3, pos := 0 }) ∨ (d.st = 0 ∧ d.pos = d.L.length ∧ d' = { d with st := 1, pos := 0 }) := by
  have hok := h.ok k d hd
  by_cases hp : d.pos < d.L.length
  · obtain ⟨e, he⟩ : ∃ e, d.L[d.pos]? = some e := ⟨_, List.getElem?_eq_getElem hp⟩
    by_cases h0 : d.st = 0
    · obtain ⟨c, hc, hg⟩ := h.get hd he
      simp only [stepD, he, if_pos h0, rsvD, hg] at hs
      by_cases h4 : c.mark ≠ 0 ∧ c.mark ≠ d.mark
      · rw [if_pos h4] at hs
        exact absurd (congrArg Prod.fst hs) h4.1
      · rw [if_neg h4] at hs
        by_cases hv : c.ver = e.ver
        · rw [if_neg (not_not_intro hv)] at hs
          by_cases h3 : e.wr = true ∧ c.ver = s.lim
          · rw [if_pos h3] at hs
            cases hs
            exact .inr (.inr (.inl ⟨h0, hp, rfl⟩))
          · rw [if_neg h3] at hs
            cases hs
            exact .inl ⟨hp, rfl⟩
        · rw [if_pos hv] at hs
          cases hs
          refine .inr (.inl ⟨h0, hp, rfl, fun hf => ?_⟩)
          by_cases hm : c.mark = 0
          · obtain ⟨x, hx, hxv⟩ := hf _ _ he
            rw [h.want _ _ hc, pend_free hm] at hx
            cases hx
            exact hv hxv
          · obtain ⟨k0, d0, j, e0, h1, h2, h5, h6, h7⟩ := h.marks _ _ hc hm
            have hmk := h.mark k d hd
            have : k0 = k := by omega
            subst this
            rw [hd] at h1
            cases h1
            have hcell : e.cell = ((e.cell.toNat : Nat) : Int) := by have := (h.rise k0 d hd d.pos e he).1.1; omega
            have := (h.rise k0 d hd).inj h5 he (by omega)
            rcases h7 with ⟨_, h7⟩ | ⟨h7, _⟩
            · omega
            · exact h7 h0
    · simp only [stepD, he, if_neg h0] at hs
      cases hs
      exact .inl ⟨hp, rfl⟩
  · have hpl : d.pos = d.L.length := by have := hok.pos; omega
    have hn : d.L[d.pos]? = none := List.getElem?_eq_none (by omega)
    by_cases h0 : d.st = 0
    · simp only [stepD, hn, if_pos h0] at hs
      cases hs
      exact .inr (.inr (.inr ⟨h0, hpl, rfl⟩))
    · simp [De.over, h0, hpl] at ho
theorem stepD_stuck {d : De} {s : St} (h : (stepD d s).1 ≠ 0) : (stepD d s).2.1 = d ∧ (stepD d s).2.2 = s := by
  revert h
  unfold stepD rsvD
  repeat' split
  all_goals simp
/-- behind all entries of one: each cell is as it was, or one version on -/
theorem wantTo_ways {L : List En} (hr : Rising N L) (hW : W.length = N) (hf : FreshL W L) {i : Nat} {x : C} (hx : W[i]? = some x) : ∃ x', (wantTo W L L.length)[i]? = some x' ∧ (x' = x ∨ x'.ver = x.ver + 1) := by
  by_cases hin : ∃ (j : Nat) (e : En), L[j]? = some e ∧ e.cell.toNat = i
  · obtain ⟨j, e, he, rfl⟩ := hin
    rw [wantTo_in hr hW he _ (List.getElem?_eq_some_iff.1 he).1 (Nat.le_refl _)]
    obtain ⟨y, hy, hyv⟩ := hf j e he
    rw [hx] at hy
    cases hy
    split
    · exact ⟨_, rfl, .inr (by simp [hyv])⟩
    · exact ⟨x, hx, .inl rfl⟩
  · rw [wantTo_out _ (Nat.le_refl _) fun j' e h1 h2 h3 => hin ⟨j', e, h2, h3⟩]
    exact ⟨x, hx, .inl rfl⟩
end
/-- a record's cells: each version is no newer than the one that is wanted; alike, they have its value -/
structure RecOk (N : Nat) (W : List C) (R : Int → Option Cl) : Prop where
  in_ : ∀ (i : Int) (c : Cl), R i = some c → inB N i = true
  at_ : ∀ (i : Int) (c : Cl), R i = some c → ∃ x, W[i.toNat]? = some x ∧ c.ver ≤ x.ver ∧ (c.ver = x.ver → c.v = x.v)
section
variable {N : Nat} {W : List C} {R : Int → Option Cl}
theorem RecOk.empty (N : Nat) (W : List C) : RecOk N W fun _ => none := ⟨(by intro i c h; cases h), (by intro i c h; cases h)⟩
theorem RecOk.later (h : RecOk N W R) {L : List En} (hr : Rising N L) (hW : W.length = N) (hf : FreshL W L) : RecOk N (wantTo W L L.length) R := ⟨h.in_, fun i c hc => by
  obtain ⟨x, h1, h2, h3⟩ := h.at_ i c hc
  obtain ⟨x', h4, h5⟩ := wantTo_ways hr hW hf h1
  refine ⟨x', h4, ?_, fun he => ?_⟩
  · rcases h5 with rfl | h5
    · exact h2
    · omega
  · rcases h5 with rfl | h5
    · exact h3 he
    · omega⟩
theorem RecOk.more (h : RecOk N W R) {i : Int} {c : Cl} {x : C} (hi : inB N i = true) (hx : W[i.toNat]? = some x) (hv : c.ver = x.ver) (hw : c.v = x.v) : RecOk N W (upd R i c) := by
  refine ⟨fun j b hb => ?_, fun j b hb => ?_⟩
  · by_cases e : j = i
    · subst e; exact hi
    · rw [upd_other c e] at hb; exact h.in_ j b hb
  · by_cases e : j = i
    · subst e
      rw [upd_same] at hb
      cases hb
      exact ⟨x, hx, by omega, fun _ => hw⟩
    · rw [upd_other c e] at hb; exact h.at_ j b hb
theorem keysOf_mem {x : Int} : x ∈ keysOf N R ↔ (inB N x = true ∧ (R x).isSome = true) := by
  unfold keysOf
  rw [List.mem_filter]
  constructor
  · rintro ⟨h1, h2⟩
    obtain ⟨n, hn, rfl⟩ := List.mem_map.1 h1
    have := List.mem_range.1 hn
    exact ⟨inB_yes.2 ⟨by simp, by simpa using this⟩, h2⟩
  · rintro ⟨h1, h2⟩
    have := inB_yes.1 h1
    exact ⟨List.mem_map.2 ⟨x.toNat, List.mem_range.2 (by omega), by simp; omega⟩, h2⟩
theorem keysOf_rises : (keysOf N R).Pairwise (· < ·) := by
  unfold keysOf
  refine List.Pairwise.filter _ (List.pairwise_map.2 (List.pairwise_lt_range.imp fun h => ?_))
  exact Int.ofNat_lt.2 h
theorem keysOf_len : (keysOf N R).length ≤ N := by
  unfold keysOf
  refine Nat.le_trans (List.length_filter_le _ _) ?_
  simp
theorem keysOf_more {i : Int} (c : Cl) (hi : inB N i = true) (hR : R i = none) : (keysOf N R).length + 1 ≤ (keysOf N (upd R i c)).length := by
  unfold keysOf
  rw [← List.countP_eq_length_filter, ← List.countP_eq_length_filter]
  have hb := inB_yes.1 hi
  refine countP_less (y := i) (fun x _ hx => ?_) (List.mem_map.2 ⟨i.toNat, List.mem_range.2 (by omega), by simp; omega⟩) (by rw [upd_same]; rfl) (by rw [hR]; rfl)
  by_cases e : x = i
  · subst e; rw [upd_same]; rfl
  · rw [upd_other c e]; exact hx
/-- a record's entries -/
theorem ents_at {Wr : Int → Option Int} {ks : List Int} {j : Nat} {e : En} (h : (ents R Wr ks)[j]? = some e) : ∃ x, ks[j]? = some x ∧ e = ent Wr x (clOf R x) := by
  unfold ents at h
  rw [List.getElem?_map] at h
  cases hk : ks[j]? with
  | none => rw [hk] at h; cases h
  | some x => rw [hk] at h; cases h; exact ⟨x, rfl, rfl⟩
theorem ent_cell (Wr : Int → Option Int) (x : Int) (c : Cl) : (ent Wr x c).cell = x ∧ (ent Wr x c).ver = c.ver ∧ (ent Wr x c).old = c.v := by
  unfold ent
  split <;> exact ⟨rfl, rfl, rfl⟩
theorem ents_rising (Wr : Int → Option Int) : Rising N (ents R Wr (keysOf N R)) := by
  intro j e he
  obtain ⟨x, hx, rfl⟩ := ents_at he
  rw [(ent_cell Wr x _).1]
  refine ⟨inB_yes.1 (keysOf_mem.1 (List.mem_of_getElem? hx)).1, fun i e' hij he' => ?_⟩
  obtain ⟨y, hy, rfl⟩ := ents_at he'
  rw [(ent_cell Wr y _).1]
  have h1 := List.getElem?_eq_some_iff.1 hx
  have h2 := List.getElem?_eq_some_iff.1 hy
  have := List.pairwise_iff_getElem.1 (keysOf_rises (N := N) (R := R)) i j h2.1 h1.1 hij
  rw [h1.2, h2.2] at this
  exact this
theorem ents_len (Wr : Int → Option Int) : (ents R Wr (keysOf N R)).length = (keysOf N R).length := by simp [ents]
theorem clOf_some {x : Int} {c : Cl} (h : R x = some c) : clOf R x = c := by simp [clOf, h]
theorem ents_fresh {Wr : Int → Option Int} (h : Fresh W R) : FreshL W (ents R Wr (keysOf N R)) := fun j e he => by
  obtain ⟨x, hx, rfl⟩ := ents_at he
  obtain ⟨c, hc⟩ := Option.isSome_iff_exists.1 (keysOf_mem.1 (List.mem_of_getElem? hx)).2
  rw [(ent_cell Wr x _).1, (ent_cell Wr x _).2.1, clOf_some hc]
  exact h x c hc
/-- all held, a record has what the values are -/
theorem RecOk.like (h : RecOk N W R) {Wr : Int → Option Int} (hf : FreshL W (ents R Wr (keysOf N R))) : Like N (W.map C.v) R := fun i c hc => by
  have hi := h.in_ i c hc
  refine ⟨hi, ?_⟩
  obtain ⟨j, hj⟩ := List.getElem?_of_mem (keysOf_mem.2 ⟨hi, by rw [hc]; rfl⟩ : i ∈ keysOf N R)
  have he : (ents R Wr (keysOf N R))[j]? = some (ent Wr i (clOf R i)) := by simp [ents, hj]
  obtain ⟨x, hx, hxv⟩ := hf j _ he
  rw [(ent_cell Wr i _).1] at hx
  rw [(ent_cell Wr i _).2.1, clOf_some hc] at hxv
  obtain ⟨y, hy, _, h3⟩ := h.at_ i c hc
  rw [hx] at hy
  cases hy
  rw [h3 hxv.symm]
  have hb := inB_yes.1 hi
  have e : i = ((i.toNat : Nat) : Int) := by omega
  rw [e]
  exact (atL_in (by simp only [Int.toNat_natCast, List.getElem?_map, hx, Option.map_some])).symm
/-- what is wanted, once all entries are put, is what the run's view says -/
theorem done_vals (h : RecOk N W R) (hW : W.length = N) {s : Dt} {V' : List Int} (hf : FreshL W (ents R s.wr (keysOf N R))) (hs : Sim N (zv R) (W.map C.v) s V') :
    (wantTo W (ents R s.wr (keysOf N R)) (ents R s.wr (keysOf N R)).length).map C.v = V' := by
  have hr := ents_rising (N := N) (R := R) s.wr
  have hl := hs.len
  apply List.ext_getElem?
  intro i
  by_cases hi : i < N
  · have hib : inB (N : Int) (i : Int) = true := inB_yes.2 ⟨by omega, by omega⟩
    obtain ⟨x, hx⟩ : ∃ x, W[i]? = some x := ⟨_, List.getElem?_eq_getElem (by omega)⟩
    obtain ⟨y, hy⟩ : ∃ y, V'[i]? = some y := ⟨_, List.getElem?_eq_getElem (by omega)⟩
    have hVx : atL (W.map C.v) (i : Int) = x.v := atL_in (by simp [hx])
    have hat := hs.at_ i hib
    rw [atL_in hy, hVx] at hat
    rw [hy, List.getElem?_map]
    by_cases hin : ∃ (j : Nat) (e : En), (ents R s.wr (keysOf N R))[j]? = some e ∧ e.cell.toNat = i
    · obtain ⟨j, e, he, hec⟩ := hin
      rw [← hec, wantTo_in hr hW he _ (List.getElem?_eq_some_iff.1 he).1 (Nat.le_refl _)]
      obtain ⟨z, hz, rfl⟩ := ents_at he
      have hzm := keysOf_mem.1 (List.mem_of_getElem? hz)
      obtain ⟨c, hc⟩ := Option.isSome_iff_exists.1 hzm.2
      rw [clOf_some hc] at he ⊢
      rw [(ent_cell s.wr z _).1] at hec
      have hzi : z = (i : Int) := by have := inB_yes.1 hzm.1; omega
      subst hzi
      have hcv := (h.like hf i c hc).2
      rw [hVx] at hcv
      rw [(ent_cell s.wr _ _).1]
      simp only [Int.toNat_natCast, hx]
      unfold ent
      cases hw : s.wr (i : Int) with
      | none =>
        rw [hw] at hat
        simp only [Option.getD_none] at hat
        simp [hat]
      | some v =>
        rw [hw] at hat
        simp only [Option.getD_some] at hat
        by_cases hne : v = c.v
        · simp [hne, hat, hcv]
        · simp [hne, hat]
    · rw [wantTo_out _ (Nat.le_refl _) fun j' e h1 h2 h3 => hin ⟨j', e, h2, h3⟩, hx]
      cases hw : s.wr (i : Int) with
      | none =>
        rw [hw] at hat
        simp only [Option.getD_none] at hat
        simp [hat]
      | some v =>
        exfalso
        have h1 := hs.wrote i (by rw [hw]; rfl)
        have h2 : (R (i : Int)).isSome = true := by
          unfold zv at h1
          cases hR : R (i : Int) with
          | none => rw [hR] at h1; cases h1
          | some c => rfl
        obtain ⟨j, hj⟩ := List.getElem?_of_mem (keysOf_mem.2 ⟨hib, h2⟩)
        exact hin ⟨j, ent s.wr i (clOf R i), by simp [ents, hj], by rw [(ent_cell s.wr _ _).1]; simp⟩
  · rw [List.getElem?_eq_none, List.getElem?_eq_none]
    · omega
    · rw [List.length_map, wantTo_length]; omega
end
/-- what the log of a worker tells -/
def toldOf (log : List Lg) (k : Nat) : List Int := (log.filter fun x => x.wk == k).map Lg.told
def playV (J : List (List Jb)) (V : List Int) (x : Lg) : List Int := if x.spent = true then V else match (J.getD x.wk [])[x.job]? with
  | some j => (j.run machP V).2
  | none => V
/-- the values behind the log's jobs, one behind the other -/
def valsOf (J : List (List Jb)) (V : List Int) (l : List Lg) : List Int := l.foldl (playV J) V
/-- an entry behind those of l is as one behind the other -/
structure PlayedAt (J : List (List Jb)) (V : List Int) (l : List Lg) (x : Lg) : Prop where
  wk : x.wk < J.length
  job : x.job = (toldOf l x.wk).length
  told : ∃ j, (J.getD x.wk [])[x.job]? = some j ∧ x.told = if x.spent = true then -1 else (j.run machP (valsOf J V l)).1
def Played (J : List (List Jb)) (V : List Int) (log : List Lg) : Prop := ∀ (i : Nat) (x : Lg), log[i]? = some x → PlayedAt J V (log.take i) x
theorem Played.push {J : List (List Jb)} {V : List Int} {log : List Lg} (h : Played J V log) {x : Lg} (hx : PlayedAt J V log x) : Played J V (log ++ [x]) := by
  intro i y hy
  by_cases hi : i < log.length
  · rw [List.getElem?_append_left hi] at hy
    rw [List.take_append_of_le_length (by omega)]
    exact h i y hy
  · rw [List.getElem?_append_right (by omega)] at hy
    have e : i - log.length = 0 := by
      have := (List.getElem?_eq_some_iff.1 hy).1
      simp at this
      omega
    rw [e] at hy
    cases hy
    have : i = log.length := by omega
    subst this
    simpa using hx
theorem toldOf_push (log : List Lg) (x : Lg) (k : Nat) : toldOf (log ++ [x]) k = toldOf log k ++ (if x.wk = k then [x.told] else []) := by
  unfold toldOf
  rw [List.filter_append, List.map_append]
  congr 1
  by_cases e : x.wk = k <;> simp [e]
theorem valsOf_push (J : List (List Jb)) (V : List Int) (log : List Lg) (x : Lg) : valsOf J V (log ++ [x]) = playV J (valsOf J V log) x := by simp [valsOf]
/-- what the descriptor of a worker has told already -/
def tailOf (Ds : List De) (u : Wk) : List Int := match u.ph with
  | .desc i n => match Ds[i]? with
    | some d => if d.st = 1 ∨ d.st = 3 then [toldBy d n] else []
    | none => []
  | _ => []
structure MGood (N : Nat) (J : List (List Jb)) (M : Ma) (W : List C) : Prop where
  inv : Inv N M.Ds M.s W
  jl : J.length = M.ws.length
  lim : N ≤ 1000
  cur : ∀ (i : Nat) (d : De), M.Ds[i]? = some d → d.over = false → ∃ (k : Nat) (u : Wk) (n : Int), M.ws[k]? = some u ∧ u.ph = .desc i n
  uniq : ∀ (k k' : Nat) (u u' : Wk) (i : Nat) (n n' : Int), M.ws[k]? = some u → M.ws[k']? = some u' → u.ph = .desc i n → u'.ph = .desc i n' → k = k'
  has : ∀ (k : Nat) (u : Wk) (i : Nat) (n : Int), M.ws[k]? = some u → u.ph = .desc i n → i < M.Ds.length
  job : ∀ (k : Nat) (u : Wk), M.ws[k]? = some u → (u.ph ≠ .idle → ∃ j, jobOf J k u = some j) ∧ u.told.length ≤ (J.getD k []).length
  rec_ : ∀ (k : Nat) (u : Wk) (R : Int → Option Cl), M.ws[k]? = some u → u.ph = .learn R → RecOk N W R
  plan : ∀ (k : Nat) (u : Wk) (i : Nat) (n : Int) (d : De), M.ws[k]? = some u → u.ph = .desc i n → M.Ds[i]? = some d → d.st = 0 →
    ∃ j R, jobOf J k u = some j ∧ RecOk N W R ∧ (j.run (machD N R) Dt.new).1 = n ∧ (j.run (machD N R) Dt.new).2.lk = none ∧ d.L = ents R (j.run (machD N R) Dt.new).2.wr (keysOf N R)
  play : Played J (List.replicate N 0) M.log
  vals : W.map C.v = valsOf J (List.replicate N 0) M.log
  told : ∀ (k : Nat) (u : Wk), M.ws[k]? = some u → toldOf M.log k = u.told ++ tailOf M.Ds u
section
variable {N : Nat} {J : List (List Jb)} {M : Ma} {W : List C} {k i : Nat} {u : Wk} {n : Int} {d d' : De} {s' : St}
theorem tailOf_set (hne : ∀ (i' : Nat) (n' : Int), u.ph = .desc i' n' → i' ≠ i) : tailOf (M.Ds.set i d') u = tailOf M.Ds u := by
  unfold tailOf
  cases hp : u.ph with
  | idle => rfl
  | learn R => rfl
  | desc i' n' => simp only [List.getElem?_set_ne (Ne.symm (hne i' n' hp))]
/-- one descriptor has gone a step -/
theorem MGood.turn (h : MGood N J M W) (hk : M.ws[k]? = some u) (hp : u.ph = .desc i n) (hd : M.Ds[i]? = some d) {W' : List C} {log' : List Lg} (hI : Inv N (M.Ds.set i d') s' W') (hL : d'.L = d.L) (hst : d'.st = 0 → d.st = 0)
    (hW : ∀ R, RecOk N W R → RecOk N W' R) (hpl : Played J (List.replicate N 0) log') (hv : W'.map C.v = valsOf J (List.replicate N 0) log') (ht : toldOf log' k = u.told ++ tailOf (M.Ds.set i d') u)
    (ht' : ∀ k', k' ≠ k → toldOf log' k' = toldOf M.log k') (hov : d.over = false) : MGood N J { M with s := s', Ds := M.Ds.set i d', log := log' } W' := by
  refine ⟨hI, h.jl, h.lim, fun i' d2 hi ho => ?_, h.uniq, fun k' u' i' n' hk' hp' => ?_, h.job, fun k' u' R hk' hp' => hW R (h.rec_ k' u' R hk' hp'), fun k' u' i' n' d2 hk' hp' hd2 h0 => ?_, hpl, hv, fun k' u' hk' => ?_⟩
  · rcases set_at hi with ⟨rfl, rfl⟩ | ⟨hne, hi⟩
    · exact ⟨k, u, n, hk, hp⟩
    · exact h.cur i' d2 hi ho
  · rw [List.length_set]; exact h.has k' u' i' n' hk' hp'
  · rcases set_at hd2 with ⟨rfl, rfl⟩ | ⟨hne, hd2⟩
    · obtain ⟨j, R, h1, h2, h3, h4, h5⟩ := h.plan k' u' i' n' d hk' hp' hd (hst h0)
      exact ⟨j, R, h1, hW R h2, h3, h4, hL.trans h5⟩
    · obtain ⟨j, R, h1, h2, h3⟩ := h.plan k' u' i' n' d2 hk' hp' hd2 h0
      exact ⟨j, R, h1, hW R h2, h3⟩
  · by_cases hkk : k' = k
    · subst hkk
      rw [hk] at hk'
      cases hk'
      exact ht
    · rw [ht' k' hkk, h.told k' u' hk']
      congr 1
      refine (tailOf_set fun i' n' hi' => ?_).symm
      rintro rfl
      exact hkk (h.uniq k' k u' u i' n' n hk' hk hi' hp)
theorem MGood.inJ (h : MGood N J M W) (hk : M.ws[k]? = some u) : k < J.length := by
  rw [h.jl]; exact (List.getElem?_eq_some_iff.1 hk).1
theorem MGood.adv (h : MGood N J M W) (hk : M.ws[k]? = some u) (hp : u.ph = .desc i n) (hd : M.Ds[i]? = some d) (ho : d.over = false) (hs : stepD d M.s = (0, d', s')) :
    ∃ W', MGood N J (advM M k u i n d d' s') W' ∧ (¬ (d.st = 0 ∧ (d'.st = 1 ∨ d'.st = 3)) → W' = W) := by
  have htl := h.told k u hk
  have hlt := (List.getElem?_eq_some_iff.1 hd).1
  rcases h.inv.step hd hs with ⟨hx, _⟩ | ⟨_, hI, _⟩
  · exact absurd rfl hx
  have e0 : tailOf M.Ds u = if d.st = 1 ∨ d.st = 3 then [toldBy d n] else [] := by unfold tailOf; rw [hp]; simp only [hd]
  have e1 : tailOf (M.Ds.set i d') u = if d'.st = 1 ∨ d'.st = 3 then [toldBy d' n] else [] := by unfold tailOf; rw [hp]; simp only [List.getElem?_set_self hlt]
  rcases h.inv.ways hd ho hs with ⟨_, rfl⟩ | ⟨h0, _, rfl, _⟩ | ⟨h0, _, rfl⟩ | ⟨h0, hpos, rfl⟩
  · have hc : ¬ (d.st = 0 ∧ (d.st = 1 ∨ d.st = 3)) := by omega
    have hc' : ¬ (d.st = 0 ∧ d.st = 1) := by omega
    rw [if_neg hc'] at hI
    refine ⟨W, ?_, fun _ => rfl⟩
    unfold advM
    rw [if_neg hc]
    exact h.turn hk hp hd hI rfl id (fun _ h => h) h.play h.vals (by rw [htl, e0, e1]; rfl) (fun _ _ => rfl) ho
  · have hc' : ¬ (d.st = 0 ∧ (2 : Int) = 1) := by omega
    rw [if_neg hc'] at hI
    refine ⟨W, ?_, fun _ => rfl⟩
    unfold advM
    rw [if_neg (by simp)]
    exact h.turn hk hp hd hI rfl (fun _ => h0) (fun _ h => h) h.play h.vals (by rw [htl, e0, e1, if_neg (by omega), if_neg (by simp)]) (fun _ _ => rfl) ho
  · have hc' : ¬ (d.st = 0 ∧ (3 : Int) = 1) := by omega
    rw [if_neg hc'] at hI
    obtain ⟨j, R, h1, h2, h3, h4, h5⟩ := h.plan k u i n d hk hp hd h0
    refine ⟨W, ?_, fun _ => rfl⟩
    unfold advM
    rw [if_pos ⟨h0, .inr rfl⟩]
    rw [e0, if_neg (by omega), List.append_nil] at htl
    have hx : PlayedAt J (List.replicate N 0) M.log ⟨k, u.told.length, toldBy { d with st := 3, pos := 0 } n, (3 : Int) == 3⟩ :=
      ⟨h.inJ hk, by rw [htl], j, h1, by simp [toldBy]⟩
    refine h.turn hk hp hd hI rfl (fun _ => h0) (fun _ h => h) (h.play.push hx) ?_ ?_ (fun k' hk' => ?_) ho
    · rw [valsOf_push, h.vals]; simp [playV]
    · rw [toldOf_push, if_pos rfl, htl, e1, if_pos (.inr rfl)]
    · rw [toldOf_push, if_neg (Ne.symm hk')]; simp
  · rw [if_pos ⟨h0, rfl⟩] at hI
    have hf := h.inv.full hd h0 hpos
    have hr := h.inv.rise i d hd
    obtain ⟨j, R, h1, h2, h3, h4, h5⟩ := h.plan k u i n d hk hp hd h0
    have hWl := h.inv.wlen
    have hlk : (W.map C.v).length = N := by simp [hWl]
    have hf' := hf
    rw [h5] at hf'
    have hsim := j.sim (h2.like hf') (by rw [hlk]) h4
    have hvals := done_vals h2 hWl hf' hsim.2
    rw [← h5] at hvals
    refine ⟨wantTo W d.L d.L.length, ?_, fun hc => absurd ⟨h0, .inl rfl⟩ hc⟩
    unfold advM
    rw [if_pos ⟨h0, .inl rfl⟩]
    rw [e0, if_neg (by omega), List.append_nil] at htl
    have hx : PlayedAt J (List.replicate N 0) M.log ⟨k, u.told.length, toldBy { d with st := 1, pos := 0 } n, (1 : Int) == 3⟩ :=
      ⟨h.inJ hk, by rw [htl], j, h1, by simp [toldBy]; rw [← h3, ← hsim.1, h.vals]⟩
    refine h.turn hk hp hd hI rfl (fun _ => h0) (fun R hR => hR.later hr hWl hf) (h.play.push hx) ?_ ?_ (fun k' hk' => ?_) ho
    · have h1' : (J.getD k [])[u.told.length]? = some j := h1
      rw [valsOf_push, ← h.vals, hvals]
      simp [playV, h1']
      rw [List.getD_eq_getElem?_getD] at h1'
      rw [h1']
    · rw [toldOf_push, if_pos rfl, htl, e1, if_pos (.inl rfl)]
    · rw [toldOf_push, if_neg (Ne.symm hk')]; simp
end
end
section
open Go.RowKit
theorem sum_one {α : Type} {l : List α} {f g : α → Nat} : ∀ {k : Nat} {a : α}, l[k]? = some a → (∀ (j : Nat) (b : α), j ≠ k → l[j]? = some b → f b = g b) → (l.map f).sum + g a = (l.map g).sum + f a := by
  induction l with
  | nil => intro k a h; simp at h
  | cons x l ih =>
    intro k a h hs
    cases k with
    | zero =>
      simp only [List.getElem?_cons_zero, Option.some.injEq] at h
      subst h
      have : l.map f = l.map g := List.map_congr_left fun b hb => by
        obtain ⟨j, hj⟩ := List.getElem?_of_mem hb
        exact hs (j + 1) b (by omega) (by simpa using hj)
      simp [this]
      omega
    | succ k =>
      simp only [List.getElem?_cons_succ] at h
      have := ih h fun j b hj hb => hs (j + 1) b (by omega) (by simpa using hb)
      have h0 := hs 0 x (by omega) rfl
      simp only [List.map_cons, List.sum_cons, h0]
      omega
theorem sum_set {α : Type} {l : List α} {f : α → Nat} : ∀ {k : Nat} {a : α} (a' : α), l[k]? = some a → ((l.set k a').map f).sum + f a = (l.map f).sum + f a' := by
  induction l with
  | nil => intro k a a' h; simp at h
  | cons x l ih =>
    intro k a a' h
    cases k with
    | zero =>
      simp only [List.getElem?_cons_zero, Option.some.injEq] at h
      subst h
      simp
      omega
    | succ k =>
      simp only [List.getElem?_cons_succ] at h
      have := ih a' h
      simp only [List.set_cons_succ, List.map_cons, List.sum_cons]
      omega
theorem sum_le {α : Type} {l : List α} {f : α → Nat} {B : Nat} (h : ∀ a, a ∈ l → f a ≤ B) : (l.map f).sum ≤ l.length * B := by
  induction l with
  | nil => simp
  | cons x l ih =>
    have h1 := h x (by simp)
    have h2 := ih fun a ha => h a (by simp [ha])
    simp only [List.map_cons, List.sum_cons, List.length_cons, Nat.succ_mul]
    omega
theorem sum_mem {α : Type} {l : List α} {f : α → Nat} {a : α} (h : a ∈ l) : f a ≤ (l.map f).sum := by
  induction l with
  | nil => simp at h
  | cons x l ih =>
    simp only [List.map_cons, List.sum_cons]
    rcases List.mem_cons.1 h with rfl | h
    · omega
    · have := ih h; omega
theorem findIdx_at {α : Type} {p : α → Bool} {l : List α} {k : Nat} {a : α} (hk : l[k]? = some a) (ha : p a = true) (hu : ∀ (j : Nat) (b : α), l[j]? = some b → p b = true → j = k) : l.findIdx? p = some k := by
  induction l generalizing k with
  | nil => simp at hk
  | cons x l ih =>
    rw [List.findIdx?_cons]
    cases hx : p x with
    | true =>
      have := hu 0 x rfl hx
      subst this
      rfl
    | false =>
      cases k with
      | zero =>
        simp only [List.getElem?_cons_zero, Option.some.injEq] at hk
        subst hk
        rw [ha] at hx
        cases hx
      | succ k =>
        simp only [List.getElem?_cons_succ] at hk
        have := ih hk fun j b hb hp => by have := hu (j + 1) b (by simpa using hb) hp; omega
        rw [this]
        rfl
theorem findIdx_is {α : Type} {p : α → Bool} {l : List α} {k : Nat} (h : l.findIdx? p = some k) : ∃ a, l[k]? = some a ∧ p a = true := by
  induction l generalizing k with
  | nil => simp at h
  | cons x l ih =>
    rw [List.findIdx?_cons] at h
    cases hx : p x with
    | true =>
      rw [hx] at h
      simp only [if_true, Option.some.injEq] at h
      subst h
      exact ⟨x, rfl, hx⟩
    | false =>
      rw [hx] at h
      simp only [Bool.false_eq_true, if_false] at h
      cases hf : l.findIdx? p with
      | none => rw [hf] at h; cases h
      | some j =>
        rw [hf] at h
        simp only [Option.map_some, Option.some.injEq] at h
        subst h
        obtain ⟨a, h1, h2⟩ := ih hf
        exact ⟨a, by simpa using h1, h2⟩
/-- is one not over, and, if it reserves still, does it look at a cell beyond b? -/
def nx (b : Int) (d : De) : Bool := !d.over && (if d.st = 0 then (match d.L[d.pos]? with
  | some e => decide (b < e.cell)
  | none => true) else true)
def nxw (Ds : List De) (b : Int) (u : Wk) : Bool := match u.ph with
  | .desc i _ => match Ds[i]? with
    | some d => nx b d
    | none => false
  | _ => false
section
variable {N : Nat} {J : List (List Jb)} {M : Ma} {W : List C} {k i : Nat} {u : Wk} {n : Int} {d d' : De} {s' : St}
theorem MGood.mark (h : MGood N J M W) (hd : M.Ds[i]? = some d) : d.mark = (i : Int) + 1 := h.inv.mark i d hd
theorem MGood.find (h : MGood N J M W) (hk : M.ws[k]? = some u) (hp : u.ph = .desc i n) (hd : M.Ds[i]? = some d) : M.ws.findIdx? (bears M.Ds d.mark) = some k := by
  refine findIdx_at hk (by simp [bears, hp, hd]) fun j b hb hbp => ?_
  unfold bears at hbp
  cases hq : b.ph with
  | idle => rw [hq] at hbp; cases hbp
  | learn R => rw [hq] at hbp; cases hbp
  | desc i' n' =>
    rw [hq] at hbp
    simp only at hbp
    cases hd' : M.Ds[i']? with
    | none => rw [hd'] at hbp; cases hbp
    | some d2 =>
      rw [hd'] at hbp
      simp only [beq_iff_eq] at hbp
      have h1 := h.mark hd
      have h2 := h.mark hd'
      have : i' = i := by omega
      subst this
      exact h.uniq j k b u i' n' n hb hk hq hp
theorem advance_is (hk : M.ws[k]? = some u) (hp : u.ph = .desc i n) (hd : M.Ds[i]? = some d) : advance M k = ((stepD d M.s).1, advM M k u i n d (stepD d M.s).2.1 (stepD d M.s).2.2) := by
  unfold advance
  simp only [hk, hp, hd]
theorem advM_stuck (hd : M.Ds[i]? = some d) : advM M k u i n d d M.s = M := by
  unfold advM
  rw [if_neg (by omega), set_same hd]
/-- a step of a mark's descriptor, or of what is in its way, is one of one that isn't over -/
theorem MGood.helps (h : MGood N J M W) : ∀ (f hh : Nat) (b : Int) (k i : Nat) (u : Wk) (n : Int) (d : De), M.ws[k]? = some u → u.ph = .desc i n → M.Ds[i]? = some d → d.over = false →
    M.ws.countP (nxw M.Ds b) + hh ≤ M.ws.length → f + hh = M.ws.length → (b = -1 ∨ ∃ j e, d.L[j]? = some e ∧ e.cell = b ∧ d.holds j) →
    ∃ k' i' u' n' d2 d' s', M.ws[k']? = some u' ∧ u'.ph = .desc i' n' ∧ M.Ds[i']? = some d2 ∧ d2.over = false ∧ stepD d2 M.s = (0, d', s') ∧ helpM f M d.mark = advM M k' u' i' n' d2 d' s' := by
  intro f
  induction f with
  | zero =>
    intro hh b k i u n d hk hp hd ho hc hf hb
    exfalso
    have : 0 < M.ws.countP (nxw M.Ds b) := by
      refine List.countP_pos_iff.2 ⟨u, List.mem_of_getElem? hk, ?_⟩
      simp only [nxw, hp, hd, nx, ho, Bool.not_false, Bool.true_and]
      by_cases h0 : d.st = 0
      · rw [if_pos h0]
        cases he : d.L[d.pos]? with
        | none => rfl
        | some e =>
          simp only [decide_eq_true_eq]
          rcases hb with rfl | ⟨j, e2, g1, g2, g3⟩
          · have := (h.inv.rise i d hd d.pos e he).1.1; omega
          · rcases g3 with ⟨_, g3⟩ | ⟨g3, _⟩
            · have := (h.inv.rise i d hd d.pos e he).2 j e2 g3 g1; omega
            · exact absurd h0 g3
      · rw [if_neg h0]
    omega
  | succ f ih =>
    intro hh b k i u n d hk hp hd ho hc hf hb
    unfold helpM
    rw [h.find hk hp hd]
    simp only [advance_is hk hp hd]
    by_cases hx : (stepD d M.s).1 = 0
    · rw [if_pos hx]
      exact ⟨k, i, u, n, d, _, _, hk, hp, hd, ho, Prod.ext hx rfl, rfl⟩
    · rw [if_neg hx]
      obtain ⟨e1, e2⟩ := stepD_stuck hx
      rw [e1, e2, advM_stuck hd]
      obtain ⟨x, hxx⟩ : ∃ x, (stepD d M.s).1 = x := ⟨_, rfl⟩
      have hstep : stepD d M.s = (x, d, M.s) := Prod.ext hxx (Prod.ext e1 e2)
      rw [hxx] at hx ⊢
      rcases h.inv.step hd hstep with ⟨_, _, _, h0, e, c, he, hcc, hm⟩ | ⟨h1, _⟩
      · obtain ⟨k0, d2, j, e0, g1, g2, g3, g4, g5⟩ := h.inv.marks _ c hcc (by omega)
        have hj := (List.getElem?_eq_some_iff.1 g3).1
        have ho2 : d2.over = false := by
          rcases g5 with ⟨g5, _⟩ | ⟨g5, g6⟩
          · simp [De.over, g5]
          · simp [De.over]; intro _; omega
        obtain ⟨k2, u2, n2, f1, f2⟩ := h.cur k0 d2 g1 ho2
        have hr := h.inv.rise i d hd
        have hcell : e.cell = ((e.cell.toNat : Nat) : Int) := by have := (hr d.pos e he).1.1; omega
        have hb2 : b < e.cell := by
          rcases hb with rfl | ⟨j3, e3, q1, q2, q3⟩
          · have := (hr d.pos e he).1.1; omega
          · rcases q3 with ⟨_, q3⟩ | ⟨q3, _⟩
            · have := (hr d.pos e he).2 j3 e3 q3 q1; omega
            · exact absurd h0 q3
        have hless : M.ws.countP (nxw M.Ds e.cell) + 1 ≤ M.ws.countP (nxw M.Ds b) := by
          refine countP_less (fun y _ hy => ?_) (List.mem_of_getElem? hk) (by simp [nxw, hp, hd, nx, ho, h0, he, hb2]) (by simp [nxw, hp, hd, nx, h0, he])
          unfold nxw at hy ⊢
          cases hq : y.ph with
          | idle => rw [hq] at hy; exact hy
          | learn R => rw [hq] at hy; exact hy
          | desc i' n' =>
            rw [hq] at hy
            simp only at hy ⊢
            cases hd' : M.Ds[i']? with
            | none => rw [hd'] at hy; exact hy
            | some d3 =>
              rw [hd'] at hy
              simp only [nx, Bool.and_eq_true] at hy ⊢
              refine ⟨hy.1, ?_⟩
              by_cases h3 : d3.st = 0
              · rw [if_pos h3] at hy ⊢
                cases hz : d3.L[d3.pos]? with
                | none => rfl
                | some y3 =>
                  rw [hz] at hy
                  have := hy.2
                  simp only [decide_eq_true_eq] at this ⊢
                  omega
              · rw [if_neg h3]
        have hmk := h.mark g1
        have : x = d2.mark := by omega
        subst this
        exact ih (hh + 1) e.cell k2 k0 u2 n2 d2 f1 f2 g1 ho2 (by omega) (by omega) (.inr ⟨j, e0, g3, by omega, g5⟩)
      · exact absurd h1 hx
theorem MGood.help (h : MGood N J M W) (hd : M.Ds[i]? = some d) (ho : d.over = false) :
    ∃ k' i' u' n' d2 d' s', M.ws[k']? = some u' ∧ u'.ph = .desc i' n' ∧ M.Ds[i']? = some d2 ∧ d2.over = false ∧ stepD d2 M.s = (0, d', s') ∧ helpM M.ws.length M d.mark = advM M k' u' i' n' d2 d' s' := by
  obtain ⟨k, u, n, h1, h2⟩ := h.cur i d hd ho
  exact h.helps _ 0 (-1) k i u n d h1 h2 hd ho (by simpa using List.countP_le_length) (by omega) (.inl rfl)
/-- a worker has turned, and a descriptor was made, perhaps -/
theorem MGood.turnW (h : MGood N J M W) (hk : M.ws[k]? = some u) {u' : Wk} {Ds' : List De} (hI : Inv N Ds' M.s W) (hDs : ∀ (i : Nat) (d : De), M.Ds[i]? = some d → Ds'[i]? = some d) (hback : ∀ (i : Nat) (d : De), i < M.Ds.length → Ds'[i]? = some d → M.Ds[i]? = some d)
    (hnew : ∀ (i : Nat) (d : De), Ds'[i]? = some d → M.Ds.length ≤ i → ∃ n, u'.ph = .desc i n) (hold : ∀ (i : Nat) (n : Int) (d : De), u.ph = .desc i n → M.Ds[i]? = some d → d.over = true)
    (hid : ∀ (i : Nat) (n : Int), u'.ph = .desc i n → M.Ds.length ≤ i ∧ i < Ds'.length) (hjob : (u'.ph ≠ .idle → ∃ j, jobOf J k u' = some j) ∧ u'.told.length ≤ (J.getD k []).length)
    (hrec : ∀ R, u'.ph = .learn R → RecOk N W R) (hplan : ∀ (i : Nat) (n : Int) (d : De), u'.ph = .desc i n → Ds'[i]? = some d → d.st = 0 → ∃ j R, jobOf J k u' = some j ∧ RecOk N W R ∧ (j.run (machD N R) Dt.new).1 = n ∧ (j.run (machD N R) Dt.new).2.lk = none ∧ d.L = ents R (j.run (machD N R) Dt.new).2.wr (keysOf N R))
    (ht : toldOf M.log k = u'.told ++ tailOf Ds' u') : MGood N J { M with ws := M.ws.set k u', Ds := Ds' } W := by
  have hkl := (List.getElem?_eq_some_iff.1 hk).1
  have hs : ∀ {j : Nat} {x : Wk}, (M.ws.set k u')[j]? = some x → (j = k ∧ x = u') ∨ (j ≠ k ∧ M.ws[j]? = some x) := fun {j x} hj => by
    rw [List.getElem?_set] at hj
    split at hj
    · next e => cases hj; exact .inl ⟨e.symm, rfl⟩
    · next e => exact .inr ⟨fun q => e q.symm, hj⟩
  refine ⟨hI, by rw [List.length_set]; exact h.jl, h.lim, fun i d hi ho => ?_, fun k1 k2 u1 u2 i n1 n2 h1 h2 p1 p2 => ?_, fun k1 u1 i n1 h1 p1 => ?_, fun k1 u1 h1 => ?_, fun k1 u1 R h1 p1 => ?_, fun k1 u1 i n1 d h1 p1 hd h0 => ?_, h.play, h.vals, fun k1 u1 h1 => ?_⟩
  · by_cases hl : i < M.Ds.length
    · have hi' := hback i d hl hi
      obtain ⟨k1, u1, n1, h1, h2⟩ := h.cur i d hi' ho
      by_cases hkk : k1 = k
      · subst hkk
        rw [hk] at h1
        cases h1
        rw [hold i n1 d h2 hi'] at ho
        cases ho
      · exact ⟨k1, u1, n1, by rw [List.getElem?_set_ne (Ne.symm hkk)]; exact h1, h2⟩
    · obtain ⟨n, hn⟩ := hnew i d hi (by omega)
      exact ⟨k, u', n, List.getElem?_set_self hkl, hn⟩
  · rcases hs h1 with ⟨rfl, rfl⟩ | ⟨n1', h1⟩
    · rcases hs h2 with ⟨rfl, rfl⟩ | ⟨n2', h2⟩
      · rfl
      · have := hid i n1 p1
        have := h.has k2 u2 i n2 h2 p2
        omega
    · rcases hs h2 with ⟨e1, e2⟩ | ⟨n2', g2⟩
      · rw [e2] at p2
        have := hid i n2 p2
        have := h.has k1 u1 i n1 h1 p1
        omega
      · exact h.uniq k1 k2 u1 u2 i n1 n2 h1 g2 p1 p2
  · rcases hs h1 with ⟨rfl, rfl⟩ | ⟨n1', h1⟩
    · exact (hid i n1 p1).2
    · have hl := h.has k1 u1 i n1 h1 p1
      exact (List.getElem?_eq_some_iff.1 (hDs i _ (List.getElem?_eq_getElem hl))).1
  · rcases hs h1 with ⟨rfl, rfl⟩ | ⟨n1', h1⟩
    · exact hjob
    · exact h.job k1 u1 h1
  · rcases hs h1 with ⟨rfl, rfl⟩ | ⟨n1', h1⟩
    · exact hrec R p1
    · exact h.rec_ k1 u1 R h1 p1
  · rcases hs h1 with ⟨rfl, rfl⟩ | ⟨n1', h1⟩
    · exact hplan i n1 d p1 hd h0
    · exact h.plan k1 u1 i n1 d h1 p1 (hback i d (h.has k1 u1 i n1 h1 p1) hd) h0
  · rcases hs h1 with ⟨rfl, rfl⟩ | ⟨n1', h1⟩
    · exact ht
    · rw [h.told k1 u1 h1]
      congr 1
      unfold tailOf
      cases hq : u1.ph with
      | idle => rfl
      | learn R => rfl
      | desc i n =>
        have hl := h.has k1 u1 i n h1 hq
        simp only [List.getElem?_eq_getElem hl, hDs i _ (List.getElem?_eq_getElem hl)]
/-- the same, where no descriptor is made -/
theorem MGood.turnS (h : MGood N J M W) (hk : M.ws[k]? = some u) {u' : Wk} (hold : ∀ (i : Nat) (n : Int) (d : De), u.ph = .desc i n → M.Ds[i]? = some d → d.over = true) (hid : ∀ (i : Nat) (n : Int), u'.ph ≠ .desc i n)
    (hjob : (u'.ph ≠ .idle → ∃ j, jobOf J k u' = some j) ∧ u'.told.length ≤ (J.getD k []).length) (hrec : ∀ R, u'.ph = .learn R → RecOk N W R) (ht : toldOf M.log k = u'.told) : MGood N J (setW M k u') W :=
  h.turnW hk h.inv (fun _ _ h => h) (fun _ _ _ h => h) (fun i d hd hl => by have := (List.getElem?_eq_some_iff.1 hd).1; omega) hold (fun i n hp => absurd hp (hid i n)) hjob hrec (fun i n d hp => absurd hp (hid i n)) (by
    rw [ht]
    unfold tailOf
    cases hq : u'.ph with
    | idle => simp
    | learn R => simp
    | desc i n => exact absurd hq (hid i n))
/-- a new descriptor holds nothing -/
theorem Inv.push {Ds : List De} {s : St} (h : Inv N Ds s W) (hN : N ≤ 1000) {L : List En} (hr : Rising N L) : Inv N (Ds ++ [⟨(Ds.length : Int) + 1, L, 0, 0⟩]) s W := by
  have hat : ∀ {j : Nat} {x : De}, (Ds ++ [⟨(Ds.length : Int) + 1, L, 0, 0⟩])[j]? = some x → (j = Ds.length ∧ x = ⟨(Ds.length : Int) + 1, L, 0, 0⟩) ∨ Ds[j]? = some x := fun {j x} hj => by
    by_cases hl : j < Ds.length
    · rw [List.getElem?_append_left hl] at hj; exact .inr hj
    · rw [List.getElem?_append_right (by omega)] at hj
      have e : j - Ds.length = 0 := by
        have := (List.getElem?_eq_some_iff.1 hj).1
        simp at this
        omega
      rw [e] at hj
      cases hj
      exact .inl ⟨by omega, rfl⟩
  have hold : ∀ {j : Nat} {x : De}, Ds[j]? = some x → (Ds ++ [⟨(Ds.length : Int) + 1, L, 0, 0⟩])[j]? = some x := fun {j x} hj => by
    rw [List.getElem?_append_left (List.getElem?_eq_some_iff.1 hj).1]; exact hj
  refine ⟨fun j e hj => ?_, fun j e hj => ?_, fun j e hj => ?_, h.len, h.lim, h.wlen, fun i c hc hm => ?_, fun k' d' j e hk' hj hh hst => ?_, fun i c hc => ?_⟩
  · rcases hat hj with ⟨rfl, rfl⟩ | hj
    · rfl
    · exact h.mark j e hj
  · rcases hat hj with ⟨rfl, rfl⟩ | hj
    · have := hr.length
      exact ⟨by simp; omega, by simp, by simp, by simp, by simp; omega⟩
    · exact h.ok j e hj
  · rcases hat hj with ⟨rfl, rfl⟩ | hj
    · exact hr
    · exact h.rise j e hj
  · obtain ⟨k0, d0, j, e, h1, h2⟩ := h.marks i c hc hm
    exact ⟨k0, d0, j, e, hold h1, h2⟩
  · rcases hat hk' with ⟨rfl, rfl⟩ | hk'
    · rcases hh with ⟨_, hh⟩ | ⟨hh, _⟩
      · exact absurd hh (by simp)
      · exact absurd rfl hh
    · exact h.held k' d' j e hk' hj hh hst
  · rw [h.want i c hc]
    by_cases hm : c.mark = 0
    · rw [pend_free hm, pend_free hm]
    · obtain ⟨k0, d0, j, e, h1, h2, _⟩ := h.marks i c hc hm
      rw [pend_at h2 h1, pend_at h2 (hold h1)]
end
end
section
open Go.RowKit
open Classical in
/-- how many steps a descriptor takes, at most, till it is Done, or over -/
noncomputable def psiD (N : Nat) (W : List C) (d : De) : Nat :=
  if d.st = 0 then (if FreshL W d.L then d.L.length - d.pos + 2 else d.L.length - d.pos + (3 * N + 5))
  else if d.st = 2 then d.L.length - d.pos + (2 * N + 4) else d.L.length - d.pos + 1
open Classical in
noncomputable def psiR (N : Nat) (W : List C) (R : Int → Option Cl) : Nat :=
  if Fresh W R then 2 * N + 3 - (keysOf N R).length else 5 * N + 6 - (keysOf N R).length
noncomputable def psi (N : Nat) (W : List C) (Ds : List De) (u : Wk) : Nat := match u.ph with
  | .idle => 2 * N + 4
  | .learn R => psiR N W R
  | .desc i _ => match Ds[i]? with
    | some d => psiD N W d
    | none => 1
/-- what is left of a job that is under way -/
def cph (N Wn : Nat) (Ds : List De) (u : Wk) : Nat := match u.ph with
  | .idle => 0
  | .learn _ => (Wn + 1) * (5 * N + 6)
  | .desc i _ => match Ds[i]? with
    | some d => if d.st = 1 ∨ d.st = 3 then 5 * N + 6 else (Wn + 1) * (5 * N + 6)
    | none => (Wn + 1) * (5 * N + 6)
noncomputable def Psi (N : Nat) (W : List C) (M : Ma) : Nat := (M.ws.map (psi N W M.Ds)).sum
def Cph (N : Nat) (M : Ma) : Nat := (M.ws.map (cph N M.ws.length M.Ds)).sum
def toldSum (M : Ma) : Nat := (M.ws.map fun u => u.told.length).sum
def prog (M : Ma) : Nat := M.log.length + toldSum M
theorem psiR_le {N : Nat} {W : List C} {R : Int → Option Cl} : psiR N W R ≤ 5 * N + 6 := by
  unfold psiR
  split <;> omega
theorem psiR_pos {N : Nat} {W : List C} {R : Int → Option Cl} : 1 ≤ psiR N W R := by
  have := keysOf_len (N := N) (R := R)
  unfold psiR
  split <;> omega
theorem psiR_empty {N : Nat} {W : List C} : psiR N W (fun _ => none) ≤ 2 * N + 3 := by
  unfold psiR
  have hf : Fresh W fun _ => none := fun i c h => by cases h
  rw [if_pos hf]
  omega
theorem psiD_pos {N : Nat} {W : List C} {d : De} : 1 ≤ psiD N W d := by
  unfold psiD
  split
  · split <;> omega
  · split <;> omega
theorem psiD_le {N : Nat} {W : List C} {d : De} (h : d.L.length ≤ N) : psiD N W d ≤ 5 * N + 6 := by
  unfold psiD
  split
  · split <;> omega
  · split <;> omega
theorem sum_set_one {α : Type} {l : List α} {f g : α → Nat} {k : Nat} {a : α} (a' : α) (hk : l[k]? = some a) (h : ∀ (j : Nat) (b : α), j ≠ k → l[j]? = some b → f b = g b) : ((l.set k a').map f).sum + g a = (l.map g).sum + f a' := by
  have h1 := sum_set (f := f) a' hk
  have h2 := sum_one hk h
  omega
section
variable {N : Nat} {J : List (List Jb)} {M : Ma} {W : List C} {k i : Nat} {u : Wk} {n : Int} {d d' : De} {s' : St}
theorem MGood.psi_le (h : MGood N J M W) {u : Wk} : psi N W M.Ds u ≤ 5 * N + 6 := by
  unfold psi
  cases u.ph with
  | idle => simp only; omega
  | learn R => exact psiR_le
  | desc i n =>
    simp only
    cases hd : M.Ds[i]? with
    | none => simp only; omega
    | some d => exact psiD_le (h.inv.rise i d hd).length
theorem psi_pos {Ds : List De} {u : Wk} : 1 ≤ psi N W Ds u := by
  unfold psi
  cases u.ph with
  | idle => simp only; omega
  | learn R => exact psiR_pos
  | desc i n =>
    simp only
    cases hd : Ds[i]? with
    | none => simp only; omega
    | some d => exact psiD_pos
theorem MGood.Psi_le (h : MGood N J M W) : Psi N W M ≤ M.ws.length * (5 * N + 6) := sum_le fun _ _ => h.psi_le
theorem Cph_le : Cph N M ≤ M.ws.length * ((M.ws.length + 1) * (5 * N + 6)) := sum_le fun u _ => by
  have h1 : 5 * N + 6 ≤ (M.ws.length + 1) * (5 * N + 6) := Nat.le_mul_of_pos_left _ (by omega)
  unfold cph
  cases u.ph with
  | idle => exact Nat.zero_le _
  | learn R => exact Nat.le_refl _
  | desc i n =>
    simp only
    cases hd : M.Ds[i]? with
    | none => exact Nat.le_refl _
    | some d =>
      simp only
      split
      · exact h1
      · exact Nat.le_refl _
/-- what a step comes to -/
structure Moved (N : Nat) (M : Ma) (W : List C) (r : Ma) (W' : List C) : Prop where
  yes : (prog r = prog M ∧ Psi N W' r + 1 ≤ Psi N W M) ∨ prog M + 1 ≤ prog r
  ds : r.Ds.length ≤ M.Ds.length + 1
  lg : r.log.length ≤ M.log.length + 1
  wsl : r.ws.length = M.ws.length
theorem psi_other (h : MGood N J M W) (hk : M.ws[k]? = some u) (hp : u.ph = .desc i n) : ∀ (j : Nat) (b : Wk), j ≠ k → M.ws[j]? = some b → psi N W (M.Ds.set i d') b = psi N W M.Ds b := fun j b hj hb => by
  unfold psi
  cases hq : b.ph with
  | idle => rfl
  | learn R => rfl
  | desc i' n' => simp only [List.getElem?_set_ne (fun (e : i = i') => hj (h.uniq j k b u i' n' n hb hk hq (by rw [hp, e])))]
theorem cph_other {Wn : Nat} (h : MGood N J M W) (hk : M.ws[k]? = some u) (hp : u.ph = .desc i n) : ∀ (j : Nat) (b : Wk), j ≠ k → M.ws[j]? = some b → cph N Wn (M.Ds.set i d') b = cph N Wn M.Ds b := fun j b hj hb => by
  unfold cph
  cases hq : b.ph with
  | idle => rfl
  | learn R => rfl
  | desc i' n' => simp only [List.getElem?_set_ne (fun (e : i = i') => hj (h.uniq j k b u i' n' n hb hk hq (by rw [hp, e])))]
theorem MGood.adv_moves (h : MGood N J M W) (hk : M.ws[k]? = some u) (hp : u.ph = .desc i n) (hd : M.Ds[i]? = some d) (ho : d.over = false) (hs : stepD d M.s = (0, d', s')) :
    ∃ W', MGood N J (advM M k u i n d d' s') W' ∧ Moved N M W (advM M k u i n d d' s') W' ∧ Psi N W' (advM M k u i n d d' s') + Cph N (advM M k u i n d d' s') + 1 ≤ Psi N W M + Cph N M := by
  obtain ⟨W', hG, hW⟩ := h.adv hk hp hd ho hs
  have hlt := (List.getElem?_eq_some_iff.1 hd).1
  have hlen := (h.inv.rise i d hd).length
  have hdl : (advM M k u i n d d' s').Ds.length ≤ M.Ds.length + 1 := by simp [advM]
  have hll : (advM M k u i n d d' s').log.length ≤ M.log.length + 1 := by
    unfold advM
    simp only
    split <;> simp
  have hself : psi N W' (M.Ds.set i d') u = psiD N W' d' := by unfold psi; rw [hp]; simp only [List.getElem?_set_self hlt]
  have hself0 : psi N W M.Ds u = psiD N W d := by unfold psi; rw [hp]; simp only [hd]
  have hc : cph N M.ws.length (M.Ds.set i d') u = if d'.st = 1 ∨ d'.st = 3 then 5 * N + 6 else (M.ws.length + 1) * (5 * N + 6) := by unfold cph; rw [hp]; simp only [List.getElem?_set_self hlt]
  have hc0 : cph N M.ws.length M.Ds u = if d.st = 1 ∨ d.st = 3 then 5 * N + 6 else (M.ws.length + 1) * (5 * N + 6) := by unfold cph; rw [hp]; simp only [hd]
  have hCs : Cph N (advM M k u i n d d' s') + cph N M.ws.length M.Ds u = Cph N M + cph N M.ws.length (M.Ds.set i d') u := sum_one (f := cph N M.ws.length (M.Ds.set i d')) (g := cph N M.ws.length M.Ds) hk (cph_other h hk hp)
  have hways := h.inv.ways hd ho hs
  by_cases hg : d.st = 0 ∧ (d'.st = 1 ∨ d'.st = 3)
  · have hpr : prog (advM M k u i n d d' s') = prog M + 1 := by
      simp only [prog, toldSum, advM]
      rw [if_pos hg]
      simp
      omega
    refine ⟨W', hG, ⟨.inr (by omega), hdl, hll, rfl⟩, ?_⟩
    rw [hc0, if_neg (by omega), hc, if_pos hg.2] at hCs
    have h1 := hG.Psi_le
    have h2 : 1 ≤ Psi N W M := Nat.le_trans psi_pos (sum_mem (List.mem_of_getElem? hk))
    have h3 : (M.ws.length + 1) * (5 * N + 6) = M.ws.length * (5 * N + 6) + (5 * N + 6) := Nat.succ_mul _ _
    have h4 : (advM M k u i n d d' s').ws.length = M.ws.length := rfl
    rw [h4] at h1
    omega
  · have hWW := hW hg
    subst hWW
    have hPs : Psi N W' (advM M k u i n d d' s') + psi N W' M.Ds u = Psi N W' M + psi N W' (M.Ds.set i d') u := sum_one (f := psi N W' (M.Ds.set i d')) (g := psi N W' M.Ds) hk (psi_other h hk hp)
    rw [hself, hself0] at hPs
    have hpr : prog (advM M k u i n d d' s') = prog M := by
      simp only [prog, toldSum, advM]
      rw [if_neg hg]
    have hdec : psiD N W' d' + 1 ≤ psiD N W' d ∧ cph N M.ws.length (M.Ds.set i d') u = cph N M.ws.length M.Ds u := by
      rw [hc, hc0]
      rcases hways with ⟨hpos, rfl⟩ | ⟨h0, hpos, rfl, hnf⟩ | ⟨h0, _, rfl⟩ | ⟨h0, _, rfl⟩
      · refine ⟨?_, rfl⟩
        unfold psiD
        simp only
        split
        · split <;> omega
        · split <;> omega
      · refine ⟨?_, by rw [if_neg (by simp), if_neg (by omega)]⟩
        unfold psiD
        simp only
        rw [if_neg (by omega), if_pos trivial, if_pos h0, if_neg hnf]
        omega
      · exact absurd ⟨h0, .inr rfl⟩ hg
      · exact absurd ⟨h0, .inl rfl⟩ hg
    exact ⟨W', hG, ⟨.inl ⟨hpr, by omega⟩, hdl, hll, rfl⟩, by omega⟩
/-- one worker has turned -/
theorem moved_set (h : MGood N J M W) (hk : M.ws[k]? = some u) {u' : Wk} {Ds' : List De} (hDs : ∀ (i : Nat) (d : De), M.Ds[i]? = some d → Ds'[i]? = some d) (hl : Ds'.length ≤ M.Ds.length + 1) (ht : u'.told = u.told) (hpsi : psi N W Ds' u' + 1 ≤ psi N W M.Ds u) :
    Moved N M W { M with ws := M.ws.set k u', Ds := Ds' } W ∧ (cph N M.ws.length Ds' u' = cph N M.ws.length M.Ds u → Psi N W { M with ws := M.ws.set k u', Ds := Ds' } + Cph N { M with ws := M.ws.set k u', Ds := Ds' } + 1 ≤ Psi N W M + Cph N M) := by
  have ho : ∀ (j : Nat) (b : Wk), j ≠ k → M.ws[j]? = some b → psi N W Ds' b = psi N W M.Ds b := fun j b hj hb => by
    unfold psi
    cases hq : b.ph with
    | idle => rfl
    | learn R => rfl
    | desc i n =>
      have hl := h.has j b i n hb hq
      simp only [hDs i _ (List.getElem?_eq_getElem hl), List.getElem?_eq_getElem hl]
  have hoc : ∀ (j : Nat) (b : Wk), j ≠ k → M.ws[j]? = some b → cph N M.ws.length Ds' b = cph N M.ws.length M.Ds b := fun j b hj hb => by
    unfold cph
    cases hq : b.ph with
    | idle => rfl
    | learn R => rfl
    | desc i n =>
      have hl := h.has j b i n hb hq
      simp only [hDs i _ (List.getElem?_eq_getElem hl), List.getElem?_eq_getElem hl]
  have h1 : Psi N W { M with ws := M.ws.set k u', Ds := Ds' } + psi N W M.Ds u = Psi N W M + psi N W Ds' u' := sum_set_one (f := psi N W Ds') (g := psi N W M.Ds) u' hk ho
  have h2 : toldSum { M with ws := M.ws.set k u', Ds := Ds' } + u.told.length = toldSum M + u'.told.length := sum_set (f := fun u : Wk => u.told.length) u' hk
  have h3 : Cph N { M with ws := M.ws.set k u', Ds := Ds' } + cph N M.ws.length M.Ds u = Cph N M + cph N M.ws.length Ds' u' := by
    have := sum_set_one (f := cph N M.ws.length Ds') (g := cph N M.ws.length M.Ds) u' hk hoc
    simpa [Cph] using this
  rw [ht] at h2
  refine ⟨⟨.inl ⟨?_, by omega⟩, hl, by simp, by simp⟩, fun hc => by omega⟩
  simp only [prog]
  omega
theorem jobOf_told {u u' : Wk} (h : u'.told = u.told) : jobOf J k u' = jobOf J k u := by unfold jobOf; rw [h]
/-- a step keeps what holds, and gets on -/
theorem MGood.step (h : MGood N J M W) (hkl : k < M.ws.length) (hb : (stepM J M k).1 = true) : ∃ W', MGood N J (stepM J M k).2 W' ∧ Moved N M W (stepM J M k).2 W' ∧
    ((∃ u, M.ws[k]? = some u ∧ u.ph ≠ .idle) → Psi N W' (stepM J M k).2 + Cph N (stepM J M k).2 + 1 ≤ Psi N W M + Cph N M) := by
  obtain ⟨u, hk⟩ : ∃ u, M.ws[k]? = some u := ⟨_, List.getElem?_eq_getElem hkl⟩
  have hsl : (M.s.L.length : Int) = (N : Int) := by rw [h.inv.len]
  have hsn : M.s.L.length = N := h.inv.len
  have htold := h.told k u hk
  have hjb := h.job k u hk
  unfold stepM at hb ⊢
  rw [hk] at hb ⊢
  simp only at hb ⊢
  cases hp : u.ph with
  | idle =>
    rw [hp] at hb
    simp only at hb ⊢
    cases hj : jobOf J k u with
    | none => rw [hj] at hb; cases hb
    | some j =>
      simp only
      have htl : toldOf M.log k = u.told := by rw [htold]; unfold tailOf; rw [hp]; simp
      have hG := h.turnS (u' := ⟨u.told, .learn fun _ => none⟩) hk (fun i n d hq => by rw [hp] at hq; cases hq) (fun i n => by simp) ⟨fun _ => ⟨j, (jobOf_told rfl).trans hj⟩, hjb.2⟩ (fun R hR => by cases hR; exact RecOk.empty N W) htl
      refine ⟨W, hG, (moved_set h hk (u' := ⟨u.told, .learn fun _ => none⟩) (Ds' := M.Ds) (fun _ _ h => h) (by omega) rfl ?_).1, fun ⟨u2, g1, g2⟩ => ?_⟩
      · have : psi N W M.Ds u = 2 * N + 4 := by unfold psi; rw [hp]
        have h2 : psi N W M.Ds ⟨u.told, .learn fun _ => none⟩ = psiR N W fun _ => none := rfl
        have := psiR_empty (N := N) (W := W)
        omega
      · cases g1; exact absurd hp g2
  | learn R =>
    have htl : toldOf M.log k = u.told := by rw [htold]; unfold tailOf; rw [hp]; simp
    have hR := h.rec_ k u R hk hp
    obtain ⟨j, hj⟩ := hjb.1 (by rw [hp]; simp)
    simp only [hj, hsl, hsn]
    have hpsi0 : psi N W M.Ds u = psiR N W R := by unfold psi; rw [hp]
    have hcp0 : cph N M.ws.length M.Ds u = (M.ws.length + 1) * (5 * N + 6) := by unfold cph; rw [hp]
    have hkn := keysOf_len (N := N) (R := R)
    cases hlk : (j.run (machD N R) Dt.new).2.lk with
    | none =>
      simp only
      have hr := ents_rising (N := N) (R := R) (j.run (machD N R) Dt.new).2.wr
      have hI := h.inv.push h.lim hr
      have hold : ∀ (i : Nat) (d : De), M.Ds[i]? = some d → (M.Ds ++ [⟨(M.Ds.length : Int) + 1, ents R (j.run (machD N R) Dt.new).2.wr (keysOf N R), 0, 0⟩])[i]? = some d := fun i d hi => by
        rw [List.getElem?_append_left (List.getElem?_eq_some_iff.1 hi).1]; exact hi
      have hnew : (M.Ds ++ [(⟨(M.Ds.length : Int) + 1, ents R (j.run (machD N R) Dt.new).2.wr (keysOf N R), 0, 0⟩ : De)])[M.Ds.length]? = some ⟨(M.Ds.length : Int) + 1, ents R (j.run (machD N R) Dt.new).2.wr (keysOf N R), 0, 0⟩ := by simp
      have hG := h.turnW (u' := ⟨u.told, .desc M.Ds.length (j.run (machD N R) Dt.new).1⟩) hk hI hold (fun i d hl hi => by rw [List.getElem?_append_left hl] at hi; exact hi)
        (fun i d hi hl => ⟨_, by
          have := (List.getElem?_eq_some_iff.1 hi).1
          simp at this
          rw [show M.Ds.length = i by omega]⟩) (fun i n d hq => by rw [hp] at hq; cases hq) (fun i n hq => by cases hq; simp) ⟨fun _ => ⟨j, (jobOf_told rfl).trans hj⟩, hjb.2⟩ (fun R hq => by cases hq)
        (fun i n d hq hd _ => by
          cases hq
          rw [hnew] at hd
          cases hd
          exact ⟨j, R, (jobOf_told rfl).trans hj, hR, rfl, hlk, rfl⟩)
        (by rw [htl]; unfold tailOf; simp only [hnew]; simp)
      have hm := moved_set h hk (u' := ⟨u.told, .desc M.Ds.length (j.run (machD N R) Dt.new).1⟩) hold (by simp) rfl (by
        have h2 : psi N W (M.Ds ++ [⟨(M.Ds.length : Int) + 1, ents R (j.run (machD N R) Dt.new).2.wr (keysOf N R), 0, 0⟩]) ⟨u.told, .desc M.Ds.length (j.run (machD N R) Dt.new).1⟩ = psiD N W ⟨(M.Ds.length : Int) + 1, ents R (j.run (machD N R) Dt.new).2.wr (keysOf N R), 0, 0⟩ := by
          unfold psi; simp only [hnew]
        rw [h2, hpsi0]
        unfold psiD psiR
        simp only [ents_len]
        rw [if_pos trivial]
        by_cases hf : Fresh W R
        · rw [if_pos hf, if_pos (ents_fresh hf)]; omega
        · rw [if_neg hf]
          split <;> omega)
      exact ⟨W, hG, hm.1, fun _ => hm.2 (by rw [hcp0]; unfold cph; simp only [hnew]; simp)⟩
    | some i =>
      simp only
      obtain ⟨hi, hRi⟩ := j.lacks LkOk.new i hlk
      have hib := inB_yes.1 hi
      obtain ⟨c, hc⟩ : ∃ c, M.s.L[i.toNat]? = some c := ⟨_, List.getElem?_eq_getElem (by omega)⟩
      have hg : M.s.get i = some c := by rw [St.get_pos (by omega)]; exact hc
      simp only [hg]
      by_cases hm : c.mark ≠ 0
      · rw [if_pos hm]
        obtain ⟨k0, d0, j0, e0, g1, g2, g3, g4, g5⟩ := h.inv.marks _ c hc hm
        have hj0 := (List.getElem?_eq_some_iff.1 g3).1
        have ho : d0.over = false := by
          rcases g5 with ⟨g5, _⟩ | ⟨g5, g6⟩
          · simp [De.over, g5]
          · simp [De.over]; intro _; omega
        have hmk := h.mark g1
        obtain ⟨k', i', u', n', d2, d', s', f1, f2, f3, f4, f5, f6⟩ := h.help g1 ho
        rw [show c.mark = d0.mark by omega, f6]
        obtain ⟨W', q1, q2, q3⟩ := h.adv_moves f1 f2 f3 f4 f5
        exact ⟨W', q1, q2, fun _ => q3⟩
      · have hm0 : c.mark = 0 := by omega
        rw [if_neg hm]
        have hw := h.inv.want _ c hc
        rw [pend_free hm0] at hw
        have hG := h.turnS (u' := ⟨u.told, .learn (upd R i ⟨c.v, c.ver, c.mark⟩)⟩) hk (fun i n d hq => by rw [hp] at hq; cases hq) (fun i n => by simp) ⟨fun _ => ⟨j, (jobOf_told rfl).trans hj⟩, hjb.2⟩ (fun R' hq => by cases hq; exact hR.more hi hw rfl rfl) htl
        have hkm := keysOf_more ⟨c.v, c.ver, c.mark⟩ hi hRi
        have hkn' := keysOf_len (N := N) (R := upd R i ⟨c.v, c.ver, c.mark⟩)
        have hmv := moved_set h hk (u' := ⟨u.told, .learn (upd R i ⟨c.v, c.ver, c.mark⟩)⟩) (Ds' := M.Ds) (fun _ _ h => h) (by omega) rfl (by
          rw [hpsi0]
          show psiR N W (upd R i ⟨c.v, c.ver, c.mark⟩) + 1 ≤ psiR N W R
          unfold psiR
          by_cases hf : Fresh W R
          · have hf' : Fresh W (upd R i ⟨c.v, c.ver, c.mark⟩) := fun x b hb => by
              by_cases e : x = i
              · subst e; rw [upd_same] at hb; cases hb; exact ⟨c, hw, rfl⟩
              · rw [upd_other _ e] at hb; exact hf x b hb
            rw [if_pos hf, if_pos hf']
            omega
          · rw [if_neg hf]
            split <;> omega)
        exact ⟨W, hG, hmv.1, fun _ => hmv.2 (by rw [hcp0]; rfl)⟩
  | desc i n =>
    obtain ⟨j, hj⟩ := hjb.1 (by rw [hp]; simp)
    have hil := h.has k u i n hk hp
    obtain ⟨d, hd⟩ : ∃ d, M.Ds[i]? = some d := ⟨_, List.getElem?_eq_getElem hil⟩
    simp only [hd]
    have hpsi0 : psi N W M.Ds u = psiD N W d := by unfold psi; rw [hp]; simp only [hd]
    have hcp0 : cph N M.ws.length M.Ds u = if d.st = 1 ∨ d.st = 3 then 5 * N + 6 else (M.ws.length + 1) * (5 * N + 6) := by unfold cph; rw [hp]; simp only [hd]
    have etl : tailOf M.Ds u = if d.st = 1 ∨ d.st = 3 then [toldBy d n] else [] := by unfold tailOf; rw [hp]; simp only [hd]
    by_cases ho : d.over = true
    · rw [if_pos ho]
      have hov : d.st ≠ 0 ∧ d.pos = d.L.length := by simpa [De.over] using ho
      by_cases h2 : d.st = 2
      · rw [if_pos h2]
        have htl : toldOf M.log k = u.told := by rw [htold, etl, if_neg (by omega)]; simp
        have hG := h.turnS (u' := ⟨u.told, .learn fun _ => none⟩) hk (fun i' n' d2 hq hd2 => by rw [hp] at hq; cases hq; rw [hd] at hd2; cases hd2; exact ho) (fun i n => by simp) ⟨fun _ => ⟨j, (jobOf_told rfl).trans hj⟩, hjb.2⟩ (fun R hR => by cases hR; exact RecOk.empty N W) htl
        have hm := moved_set h hk (u' := ⟨u.told, .learn fun _ => none⟩) (Ds' := M.Ds) (fun _ _ h => h) (by omega) rfl (by
          have h3 : psi N W M.Ds ⟨u.told, .learn fun _ => none⟩ = psiR N W fun _ => none := rfl
          have := psiR_empty (N := N) (W := W)
          have h4 : psiD N W d = d.L.length - d.pos + (2 * N + 4) := by unfold psiD; rw [if_neg (by omega), if_pos h2]
          omega)
        exact ⟨W, hG, hm.1, fun _ => hm.2 (by rw [hcp0, if_neg (by omega)]; rfl)⟩
      · rw [if_neg h2]
        have hok := h.inv.ok i d hd
        have hst : d.st = 1 ∨ d.st = 3 := by have := hok.st0; have := hok.st1; omega
        have htl : toldOf M.log k = u.told ++ [toldBy d n] := by rw [htold, etl, if_pos hst]
        have hjl : u.told.length < (J.getD k []).length := (List.getElem?_eq_some_iff.1 hj).1
        have hG := h.turnS (u' := ⟨u.told ++ [toldBy d n], .idle⟩) hk (fun i' n' d2 hq hd2 => by rw [hp] at hq; cases hq; rw [hd] at hd2; cases hd2; exact ho) (fun i n => by simp) ⟨fun hq => absurd rfl hq, Nat.le_trans (Nat.le_of_eq (by simp)) (Nat.succ_le_of_lt hjl)⟩ (fun R hR => by cases hR) htl
        have e1 : toldSum (setW M k ⟨u.told ++ [toldBy d n], .idle⟩) + u.told.length = toldSum M + (u.told ++ [toldBy d n]).length := sum_set (f := fun u : Wk => u.told.length) ⟨u.told ++ [toldBy d n], .idle⟩ hk
        have e2 : Psi N W (setW M k ⟨u.told ++ [toldBy d n], .idle⟩) + psi N W M.Ds u = Psi N W M + (2 * N + 4) := sum_set (f := psi N W M.Ds) ⟨u.told ++ [toldBy d n], .idle⟩ hk
        have e3 : Cph N (setW M k ⟨u.told ++ [toldBy d n], .idle⟩) + cph N M.ws.length M.Ds u = Cph N M + 0 := by
          have := sum_set (f := cph N M.ws.length M.Ds) ⟨u.told ++ [toldBy d n], .idle⟩ hk
          simpa [Cph, setW, cph] using this
        rw [hcp0, if_pos hst] at e3
        have := psi_pos (N := N) (W := W) (Ds := M.Ds) (u := u)
        refine ⟨W, hG, ⟨.inr ?_, by simp [setW], by simp [setW], by simp [setW]⟩, fun _ => by
          show Psi N W (setW M k ⟨u.told ++ [toldBy d n], .idle⟩) + Cph N (setW M k ⟨u.told ++ [toldBy d n], .idle⟩) + 1 ≤ Psi N W M + Cph N M
          omega⟩
        have e4 : (setW M k ⟨u.told ++ [toldBy d n], .idle⟩).log = M.log := rfl
        simp only [prog, e4]
        simp only [List.length_append, List.length_cons, List.length_nil] at e1
        omega
    · rw [if_neg ho]
      obtain ⟨k', i', u', n', d2, d', s', f1, f2, f3, f4, f5, f6⟩ := h.help hd (by simpa using ho)
      simp only [f6]
      obtain ⟨W', q1, q2, q3⟩ := h.adv_moves f1 f2 f3 f4 f5
      exact ⟨W', q1, q2, fun _ => q3⟩
/-- a worker whose job is under way goes a step -/
theorem stepM_busy (hk : M.ws[k]? = some u) (hp : u.ph ≠ .idle) : (stepM J M k).1 = true := by
  unfold stepM
  rw [hk]
  simp only
  cases hq : u.ph with
  | idle => exact absurd hq hp
  | learn R =>
    simp only
    repeat' split
    all_goals rfl
  | desc i n =>
    simp only
    repeat' split
    all_goals rfl
theorem stepM_no (h : (stepM J M k).1 = false) : (stepM J M k).2 = M := by
  revert h
  unfold stepM
  repeat' split
  all_goals simp
theorem stepM_out (h : M.ws.length ≤ k) : stepM J M k = (false, M) := by
  unfold stepM
  rw [List.getElem?_eq_none h]
end
end
end Go.Proofs.Ytleomgmhkoglmaa
