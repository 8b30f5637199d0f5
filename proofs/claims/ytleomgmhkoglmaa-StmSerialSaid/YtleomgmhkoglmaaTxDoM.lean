/- What a function of deeds does to whatever view, and that it does to a record what it does to the values (layer 6). No dump is read here. -/
import Derived.Test.YtleomgmhkoglmaaOpsA
import Derived.Test.YtleomgmhkoglmaaTxM
import Derived.Test.YtleomgmhkoglmaaViewM
import Derived.Test.YtleomgmhkoglmaaTxFirstM
namespace Go.Proofs.Ytleomgmhkoglmaa
open Go.RowKit
/-- what is read and written of a view, as mathematics -/
structure Mach (σ : Type) where
  rd : σ → Int → Int × σ
  wr : σ → Int → Int → σ
/-- the sum, behind a word that was read -/
def mix (sum x : Int) : Int := IntKind.u64.wrap (IntKind.u64.wrap (sum * 3) + x)
/-- the word that is written -/
def put64 (x n : Int) : Int := IntKind.u64.wrap (x + n)
def oddB (x : Int) : Bool := x.tmod 2 == 1
/-- deed by deed: the sum of what is read, the view behind -/
def doL {σ : Type} (M : Mach σ) : List O → Int → σ → Int × σ
  | [], sum, s => (sum, s)
  | o :: l, sum, s =>
    if (o.jump && oddB (M.rd s o.src).1) = true then doL M (l.drop (o.n % 4).toNat) (mix sum (M.rd s o.src).1) (M.rd s o.src).2
    else doL M l (mix sum (M.rd s o.src).1) (if o.look = true then (M.rd s o.src).2 else M.wr (M.rd s o.src).2 o.to (put64 (M.rd s o.src).1 o.n))
termination_by l => l.length
decreasing_by
  · simp [List.length_drop]; omega
  · simp
section
variable {σ : Type} {M : Mach σ} {l : List O} {o : O} {sum : Int} {s : σ}
theorem doL_nil : doL M [] sum s = (sum, s) := by rw [doL]
theorem doL_jump (h : (o.jump && oddB (M.rd s o.src).1) = true) : doL M (o :: l) sum s = doL M (l.drop (o.n % 4).toNat) (mix sum (M.rd s o.src).1) (M.rd s o.src).2 := by rw [doL, if_pos h]
theorem doL_look (h : (o.jump && oddB (M.rd s o.src).1) = false) (h2 : o.look = true) : doL M (o :: l) sum s = doL M l (mix sum (M.rd s o.src).1) (M.rd s o.src).2 := by rw [doL, if_neg (by simp [h]), if_pos h2]
theorem doL_put (h : (o.jump && oddB (M.rd s o.src).1) = false) (h2 : o.look = false) : doL M (o :: l) sum s = doL M l (mix sum (M.rd s o.src).1) (M.wr (M.rd s o.src).2 o.to (put64 (M.rd s o.src).1 o.n)) := by rw [doL, if_neg (by simp [h]), if_neg (by simp [h2])]
theorem drop_at {L : List O} {k : Nat} (h : L[k]? = some o) : L.drop k = o :: L.drop (k + 1) := by
  have hk := (List.getElem?_eq_some_iff.1 h).1
  rw [List.drop_eq_getElem_cons hk, (List.getElem?_eq_some_iff.1 h).2]
/-- what holds ahead, and of each step, holds behind -/
theorem doL_ind {Q : σ → Prop} (hr : ∀ s i, Q s → Q (M.rd s i).2) (hw : ∀ s i v, Q s → Q (M.wr s i v)) : ∀ (n : Nat) (l : List O), l.length ≤ n → ∀ sum s, Q s → Q (doL M l sum s).2 := by
  intro n
  induction n with
  | zero =>
    intro l hl sum s hs
    obtain rfl : l = [] := List.length_eq_zero_iff.1 (by omega)
    rw [doL_nil]; exact hs
  | succ n ih =>
    intro l hl sum s hs
    cases l with
    | nil => rw [doL_nil]; exact hs
    | cons o l =>
      have hl' : l.length ≤ n := by simpa using hl
      by_cases hj : (o.jump && oddB (M.rd s o.src).1) = true
      · rw [doL_jump hj]
        exact ih _ (by simp [List.length_drop]; omega) _ _ (hr _ _ hs)
      · replace hj : (o.jump && oddB (M.rd s o.src).1) = false := by simpa using hj
        cases hk : o.look with
        | true => rw [doL_look hj hk]; exact ih _ hl' _ _ (hr _ _ hs)
        | false => rw [doL_put hj hk]; exact ih _ hl' _ _ (hw _ _ _ (hr _ _ hs))
end
/-- a record's run -/
def machD (cells : Int) (R : Int → Option Cl) : Mach Dt := ⟨rdD cells R, wrD cells R⟩
/-- plain words -/
def machP : Mach (List Int) := ⟨fun L i => (atL L i, L), setL⟩
section
variable {cells : Int} {R : Int → Option Cl} {V : List Int}
theorem rdD_keeps {s : Dt} {y : Int} (i : Int) (h : s.lk = some y) : (rdD cells R s i).2.lk = some y := by rw [rdD_lk, h, stepLk_some]
theorem wrD_keeps {s : Dt} {y : Int} (i v : Int) (h : s.lk = some y) : (wrD cells R s i v).lk = some y := by rw [wrD_lk, h, stepLk_some]
theorem doD_keeps {l : List O} {sum : Int} {s : Dt} {y : Int} (h : s.lk = some y) : (doL (machD cells R) l sum s).2.lk = some y :=
  doL_ind (Q := fun s => s.lk = some y) (fun s i h => rdD_keeps i h) (fun s i v h => wrD_keeps i v h) l.length l (Nat.le_refl _) sum s h
/-- what a run lacks is a cell that wasn't learnt -/
def LkOk (cells : Int) (R : Int → Option Cl) (s : Dt) : Prop := ∀ y, s.lk = some y → inB cells y = true ∧ R y = none
theorem stepLk_ok {lk : Option Int} {x : Int} (h : ∀ y, lk = some y → inB cells y = true ∧ R y = none) : ∀ y, stepLk cells R lk x = some y → inB cells y = true ∧ R y = none := by
  intro y hy
  unfold stepLk at hy
  split at hy
  · next hc =>
    cases hy
    simp only [wants, Bool.and_eq_true] at hc
    exact ⟨hc.1.1, by simpa using hc.1.2⟩
  · exact h y hy
theorem doD_lacks (l : List O) (sum : Int) {s : Dt} (h : LkOk cells R s) : LkOk cells R (doL (machD cells R) l sum s).2 :=
  doL_ind (Q := LkOk cells R) (fun s i h => by intro y hy; change (rdD cells R s i).2.lk = _ at hy; rw [rdD_lk] at hy; exact stepLk_ok h y hy)
    (fun s i v h => by intro y hy; change (wrD cells R s i v).lk = _ at hy; rw [wrD_lk] at hy; exact stepLk_ok h y hy) l.length l (Nat.le_refl _) sum s h
theorem machD_rd (s : Dt) (i : Int) : (machD cells R).rd s i = rdD cells R s i := rfl
theorem machD_wr (s : Dt) (i v : Int) : (machD cells R).wr s i v = wrD cells R s i v := rfl
theorem machP_rd (L : List Int) (i : Int) : machP.rd L i = (atL L i, L) := rfl
theorem machP_wr (L : List Int) (i v : Int) : machP.wr L i v = setL L i v := rfl
/-- what was learnt is what the values have -/
def Learnt (cells : Int) (V : List Int) (R : Int → Option Cl) : Prop := ∀ i c, R i = some c → inB cells i = true ∧ c.v = atL V i ∧ c.ver = 0
/-- a run's view, and the plain words beside it -/
structure Sim (cells : Int) (R : Int → Option Cl) (V : List Int) (s : Dt) (L : List Int) : Prop where
  none : s.lk = none
  len : (L.length : Int) = cells
  at_ : ∀ i, inB cells i = true → atL L i = (s.wr i).getD (atL V i)
  wrote : ∀ i, (s.wr i).isSome = true → (R i).isSome = true
theorem stepLk_none {lk : Option Int} {x : Int} (h : stepLk cells R lk x = none) (hx : inB cells x = true) : (R x).isSome = true := by
  cases lk with
  | some y => rw [stepLk_some] at h; cases h
  | none =>
    cases hR : R x with
    | none => rw [stepLk_new hx hR] at h; cases h
    | some c => rfl
theorem hasB_inB {L : List Int} {i : Int} (hl : (L.length : Int) = cells) : hasB L.length i = inB cells i := by simp [hasB, inB, hl]
theorem sim_rd (hR : Learnt cells V R) {s : Dt} {L : List Int} (h : Sim cells R V s L) (i : Int) (hn : (rdD cells R s i).2.lk = none) :
    (rdD cells R s i).1 = atL L i ∧ Sim cells R V (rdD cells R s i).2 L := by
  cases hi : inB cells i with
  | false =>
    rw [rdD_out hi]
    refine ⟨?_, h⟩
    have := inB_no.1 hi
    exact (atL_out (by rw [h.len]; exact this)).symm
  | true =>
    have e : rdD cells R s i = (valD' R s i, needD R s i) := by simp [rdD, hi]
    have hs := stepLk_none (by rw [← rdD_lk]; exact hn) hi
    obtain ⟨c, hc⟩ := Option.isSome_iff_exists.1 hs
    have hne : needD R s i = s := by simp [needD, hc]
    rw [e, hne]
    refine ⟨?_, h⟩
    rw [h.at_ i hi, valD', hc]
    simp only [Option.getD_some]
    rw [(hR i c hc).2.1]
theorem sim_wr {s : Dt} {L : List Int} (h : Sim cells R V s L) (i v : Int) (hn : (wrD cells R s i v).lk = none) : Sim cells R V (wrD cells R s i v) (setL L i v) := by
  cases hi : inB cells i with
  | false =>
    have e : wrD cells R s i v = s := by simp [wrD, hi]
    rw [e, setL_out v (by rw [hasB_inB h.len]; exact hi)]
    exact h
  | true =>
    have hs := stepLk_none (by rw [← wrD_lk (v := v)]; exact hn) hi
    obtain ⟨c, hc⟩ := Option.isSome_iff_exists.1 hs
    have hne : needD R s i = s := by simp [needD, hc]
    have e : wrD cells R s i v = { s with wr := upd s.wr i v } := by simp [wrD, hi, hne]
    rw [e]
    refine ⟨h.none, by rw [setL_length]; exact h.len, fun j hj => ?_, fun j hj => ?_⟩
    · rw [atL_setL]
      by_cases ej : j = i
      · subst ej
        rw [if_pos ⟨by rw [hasB_inB h.len]; exact hi, rfl⟩]
        simp [upd]
      · rw [if_neg (fun hh => ej hh.2)]
        simp only [upd_other _ ej]
        exact h.at_ j hj
    · by_cases ej : j = i
      · subst ej; exact hs
      · simp only [upd_other _ ej] at hj
        exact h.wrote j hj
/-- run till it lacks none, it has done what the function does to the values -/
theorem doD_sim (hR : Learnt cells V R) : ∀ (n : Nat) (l : List O), l.length ≤ n → ∀ sum s L, Sim cells R V s L → (doL (machD cells R) l sum s).2.lk = none →
    (doL machP l sum L).1 = (doL (machD cells R) l sum s).1 ∧ Sim cells R V (doL (machD cells R) l sum s).2 (doL machP l sum L).2 := by
  have nn : ∀ {l : List O} {sum : Int} {s : Dt}, (doL (machD cells R) l sum s).2.lk = none → s.lk = none := fun {l sum s} h => by
    cases hs : s.lk with
    | none => rfl
    | some y => rw [doD_keeps hs] at h; cases h
  have nr : ∀ {s : Dt} {i : Int}, (rdD cells R s i).2.lk = none → s.lk = none := fun {s i} h => by
    cases hs : s.lk with
    | none => rfl
    | some y => rw [rdD_keeps i hs] at h; cases h
  have nw : ∀ {s : Dt} {i v : Int}, (wrD cells R s i v).lk = none → s.lk = none := fun {s i v} h => by
    cases hs : s.lk with
    | none => rfl
    | some y => rw [wrD_keeps i v hs] at h; cases h
  intro n
  induction n with
  | zero =>
    intro l hl sum s L h _
    obtain rfl : l = [] := List.length_eq_zero_iff.1 (by omega)
    rw [doL_nil, doL_nil]; exact ⟨rfl, h⟩
  | succ n ih =>
    intro l hl sum s L h hn
    cases l with
    | nil => rw [doL_nil, doL_nil]; exact ⟨rfl, h⟩
    | cons o l =>
      have hl' : l.length ≤ n := by simpa using hl
      have key : (rdD cells R s o.src).2.lk = none → (rdD cells R s o.src).1 = atL L o.src ∧ Sim cells R V (rdD cells R s o.src).2 L := sim_rd hR h o.src
      by_cases hj : (o.jump && oddB ((machD cells R).rd s o.src).1) = true
      · rw [doL_jump hj] at hn ⊢
        obtain ⟨k1, k2⟩ := key (nn hn)
        have hjp : (o.jump && oddB (machP.rd L o.src).1) = true := by change (o.jump && oddB (atL L o.src)) = true; rw [← k1]; exact hj
        rw [doL_jump hjp]
        simp only [machD_rd, machP_rd] at hn ⊢
        rw [← k1]
        exact ih _ (show (l.drop (o.n % 4).toNat).length ≤ n by simp [List.length_drop]; omega) _ _ L k2 hn
      · replace hj : (o.jump && oddB ((machD cells R).rd s o.src).1) = false := by simpa using hj
        cases hk : o.look with
        | true =>
          rw [doL_look hj hk] at hn ⊢
          obtain ⟨k1, k2⟩ := key (nn hn)
          have hjp : (o.jump && oddB (machP.rd L o.src).1) = false := by change (o.jump && oddB (atL L o.src)) = false; rw [← k1]; exact hj
          rw [doL_look hjp hk]
          simp only [machD_rd, machP_rd] at hn ⊢
          rw [← k1]
          exact ih _ hl' _ _ L k2 hn
        | false =>
          rw [doL_put hj hk] at hn ⊢
          have hw := nn hn
          obtain ⟨k1, k2⟩ := key (nw hw)
          have hjp : (o.jump && oddB (machP.rd L o.src).1) = false := by change (o.jump && oddB (atL L o.src)) = false; rw [← k1]; exact hj
          rw [doL_put hjp hk]
          have k3 := sim_wr k2 o.to (put64 (rdD cells R s o.src).1 o.n) hw
          simp only [machD_rd, machP_rd, machD_wr, machP_wr] at hn ⊢
          rw [← k1]
          exact ih _ hl' _ _ _ k3 hn
/-- a record's run begins as the values -/
theorem sim_new (V : List Int) (hl : (V.length : Int) = cells) : Sim cells R V Dt.new V := ⟨rfl, hl, fun i _ => rfl, fun i h => by cases h⟩
end
end Go.Proofs.Ytleomgmhkoglmaa
