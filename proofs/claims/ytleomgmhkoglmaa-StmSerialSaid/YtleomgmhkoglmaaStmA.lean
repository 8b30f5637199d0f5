/- The machine of layer 8 as it lies: its store, its log, its workers, their jobs, records, descriptors; what each piece bears. -/
import Derived.Test.YtleomgmhkoglmaaStmMath
import Derived.Test.YtleomgmhkoglmaaDescA
import Derived.Test.YtleomgmhkoglmaaDescL
import Derived.Test.YtleomgmhkoglmaaTxCB
namespace Go.Proofs.Ytleomgmhkoglmaa
open Go.RowKit
abbrev MT : TypeId := 66
abbrev WkT : TypeId := 72
abbrev PWT : TypeId := 67
abbrev LgT : TypeId := 44
abbrev JobT : TypeId := 68
abbrev JobsT : TypeId := 59
abbrev OpsT : TypeId := 48
abbrev CellT : TypeId := 84
abbrev IntT : TypeId := 3
def irow (n : Int) : List Value := [.int .i64 n]
theorem irow_len (n : Int) : (irow n).length = 1 := rfl
def Lg.row (x : Lg) : List Value := [.int .i64 x.wk, .int .i64 x.job, .int .i64 x.told, .bool x.spent]
theorem Lg.row_len (x : Lg) : x.row.length = 4 := rfl
/-- no block of S is of one of these types -/
def Clear (W : World) (S : List Nat) (Ts : List TypeId) : Prop := ∀ x ∈ S, ∀ t cur, Blk W x t cur → t ∉ Ts
section
variable {W W' : World} {S S' : List Nat} {Ts : List TypeId}
theorem Clear.nil : Clear W [] Ts := fun x hx => by simp at hx
theorem Clear.not (h : Clear W S Ts) {x : Nat} {t : TypeId} {cur : Array Value} (hb : Blk W x t cur) (ht : t ∈ Ts) : x ∉ S := fun hx => h x hx t cur hb ht
theorem Clear.one {x : Nat} {t : TypeId} {cur : Array Value} (hb : Blk W x t cur) (ht : t ∉ Ts) : Clear W [x] Ts := fun y hy t' cur' hb' => by
  simp at hy
  subst hy
  rw [(hb'.uniq hb).1]
  exact ht
theorem Clear.app (h : Clear W S Ts) (h' : Clear W S' Ts) : Clear W (S ++ S') Ts := fun x hx => by
  rcases List.mem_append.1 hx with hx | hx
  · exact h x hx
  · exact h' x hx
theorem Clear.new {x : Nat} (h : W.heap.size ≤ x) : Clear W [x] Ts := fun y hy t cur hb => by
  simp at hy
  subst hy
  have := hb.lt
  omega
theorem Clear.map {α : Type} {E : Elm α} {P : Program} {kt : TypeId} {b n sz : Nat} {F : Int → Option α} (h : MapIn E P kt W b n F sz) : Clear W [b] Ts := fun y hy t cur hb => by
  simp at hy
  subst hy
  exact absurd rfl (h.ne_blk hb)
theorem Clear.less {Ts' : List TypeId} (h : Clear W S Ts) (hT : ∀ t ∈ Ts', t ∈ Ts) : Clear W S Ts' := fun x hx t cur hb ht => h x hx t cur hb (hT t ht)
theorem Clear.part (h : Clear W S Ts) (hS : ∀ x ∈ S', x ∈ S) : Clear W S' Ts := fun x hx => h x (hS x hx)
theorem owns_clear {base size n : Nat} {e : TypeId} {v : Value} {xs : List Value} (h : W.ownsRow base e size v n xs) (ht : e ∉ Ts) : Clear W v.ownBlock.toList Ts := fun x hx t cur hb => by
  rcases h.2 with ⟨rfl, _⟩ | ⟨g, cap, cur', rfl, _, hg, _⟩
  · simp [Value.ownBlock] at hx
  · simp [Value.ownBlock] at hx
    subst hx
    rw [(Blk.uniq hb hg).1]
    exact ht
theorem owns_blk {base size n : Nat} {e : TypeId} {v : Value} {xs : List Value} (h : W.ownsRow base e size v n xs) {x : Nat} (hx : x ∈ v.ownBlock.toList) : ∃ cur, Blk W x e cur := by
  rcases h.2 with ⟨rfl, _⟩ | ⟨g, cap, cur', rfl, _, hg, _⟩
  · simp [Value.ownBlock] at hx
  · simp [Value.ownBlock] at hx
    subst hx
    exact ⟨_, hg⟩
theorem owns_keep {base size n : Nat} {e : TypeId} {v : Value} {xs : List Value} (h : W.ownsRow base e size v n xs) (ho : Only S W W') (hS : ∀ x ∈ v.ownBlock.toList, x ∉ S) : W'.ownsRow base e size v n xs := by
  refine ⟨h.1, h.2.imp id ?_⟩
  rintro ⟨g, cap, cur, rfl, hB, hg, r⟩
  exact ⟨g, cap, cur, rfl, hB, (ho.block g (Array.getElem?_eq_some_iff.1 hg).1 (hS g (by simp [Value.ownBlock]))).trans hg, r⟩
theorem grown_S {v : Value} (hg : W.grownBy W' v.ownBlock) : Only v.ownBlock.toList W W' :=
  ⟨hg.os, hg.tape, hg.output, hg.size, fun k hk hn => hg.block k hk (fun e => hn (by rw [← e]; simp))⟩
end
/-- a job, as a function's value -/
def JobAt (base : Nat) (W : World) (v : Value) : Jb → Prop
  | .ops L => ∃ pb A cap, v = .func (.func 22) #[] #[.pointer (some ⟨pb, 0, none⟩)] ∧ Blk W pb OpsT #[.slice A L.length cap] ∧ Ops W A L ∧ (∀ x ∈ blkO A L, x < base) ∧ L.length ≤ 12
  | .add => v = .func (.func 20) #[] #[]
/-- a feed: that of List, over its jobs -/
def FeedAt (base : Nat) (W : World) (v : Value) (js : List Jb) : Prop :=
  ∃ pb A cap, v = .func (.func 39) #[] #[.pointer (some ⟨pb, 0, none⟩)] ∧ Blk W pb JobsT #[.slice A js.length cap] ∧
    ∀ (i : Nat) (j : Jb), js[i]? = some j → ∃ g cur x, A = some ⟨g, 0, none⟩ ∧ Blk W g JobT cur ∧ cur[i]? = some x ∧ JobAt base W x j
section
variable {base : Nat} {W W' : World} {S : List Nat} {v : Value}
theorem JobAt.only {j : Jb} (h : JobAt base W v j) (ho : Only S W W') (hC : Clear W S [OpsT]) (hb : ∀ x ∈ S, base ≤ x) : JobAt base W' v j := by
  cases j with
  | add => exact h
  | ops L =>
    obtain ⟨pb, A, cap, rfl, h1, h2, h3, h4⟩ := h
    refine ⟨pb, A, cap, rfl, ho.blk h1 (hC.not h1 (by simp)), h2.only ho (fun k hk hs => ?_), h3, h4⟩
    have := h3 k hk
    have := hb k hs
    omega
theorem FeedAt.only {js : List Jb} (h : FeedAt base W v js) (ho : Only S W W') (hC : Clear W S [JobsT, JobT, OpsT]) (hb : ∀ x ∈ S, base ≤ x) : FeedAt base W' v js := by
  obtain ⟨pb, A, cap, rfl, h1, h2⟩ := h
  refine ⟨pb, A, cap, rfl, ho.blk h1 (hC.not h1 (by simp)), fun i j hj => ?_⟩
  obtain ⟨g, cur, x, hA, h3, h4, h5⟩ := h2 i j hj
  exact ⟨g, cur, x, hA, ho.blk h3 (hC.not h3 (by simp)), h4, h5.only ho (hC.less (by simp)) hb⟩
end
/-- what a worker's own blocks are, but its head -/
structure Ft where
  tv : Value
  rc : List (Nat × Nat)
def Ft.bl (f : Ft) : List Nat := f.tv.ownBlock.toList ++ f.rc.flatMap fun x => [x.1, x.2]
/-- where a worker stands, as it lies -/
def PhAt (base : Nat) (W : World) (N : Nat) (Ps : List Nat) (f : Ft) (js : List Jb) (told : List Int) (jv rv dv : Value) (num : Int) : Ph → Prop
  | .idle => jv = .nilFunc ∧ dv = .pointer none ∧ f.rc = []
  | .learn R => (∃ j, js[told.length]? = some j ∧ JobAt base W jv j) ∧ dv = .pointer none ∧ (∀ i c, R i = some c → inB N i = true) ∧
      ∃ bt bm last, f.rc = [(bt, bm)] ∧ rv = .pointer (some ⟨bt, 0, none⟩) ∧ base ≤ bt ∧ base ≤ bm ∧ RecAt W bt bm (keysOf N R).length N last R (keysOf N R).length
  | .desc i n => (∃ j, js[told.length]? = some j ∧ JobAt base W jv j) ∧ (∃ p, dv = .pointer (some ⟨p, 0, none⟩) ∧ Ps[i]? = some p) ∧ num = n ∧ f.rc = []
/-- a worker as it lies -/
structure WkAt (base : Nat) (W : World) (N : Nat) (Ps : List Nat) (pw : Nat) (f : Ft) (fv : Value) (js : List Jb) (u : Wk) : Prop where
  blk : ∃ jv rv dv num, Blk W pw WkT #[fv, f.tv, jv, rv, dv, .int .i64 num] ∧ PhAt base W N Ps f js u.told jv rv dv num u.ph
  told : W.ownsRow base IntT 1 f.tv u.told.length (u.told.flatMap irow)
  own : base ≤ pw
section
variable {base : Nat} {W W' : World} {S : List Nat} {N : Nat} {Ps : List Nat} {pw : Nat} {f : Ft} {fv : Value} {js : List Jb} {u : Wk}
theorem PhAt.only {jv rv dv : Value} {num : Int} {told : List Int} {ph : Ph} (h : PhAt base W N Ps f js told jv rv dv num ph) (ho : Only S W W') (hC : Clear W S [OpsT]) (hb : ∀ x ∈ S, base ≤ x) (hf : ∀ x ∈ f.bl, x ∉ S) : PhAt base W' N Ps f js told jv rv dv num ph := by
  cases ph with
  | idle => exact h
  | learn R =>
    obtain ⟨⟨j, h1, h2⟩, h3, h4, bt, bm, last, h5, h6, h7, h8, h9⟩ := h
    exact ⟨⟨j, h1, h2.only ho hC hb⟩, h3, h4, bt, bm, last, h5, h6, h7, h8, h9.only ho (hf bt (by simp [Ft.bl, h5])) (hf bm (by simp [Ft.bl, h5]))⟩
  | desc i n =>
    obtain ⟨⟨j, h1, h2⟩, h3⟩ := h
    exact ⟨⟨j, h1, h2.only ho hC hb⟩, h3⟩
theorem WkAt.only (h : WkAt base W N Ps pw f fv js u) (ho : Only S W W') (hC : Clear W S [OpsT]) (hb : ∀ x ∈ S, base ≤ x) (hp : pw ∉ S) (hf : ∀ x ∈ f.bl, x ∉ S) : WkAt base W' N Ps pw f fv js u := by
  obtain ⟨jv, rv, dv, num, h1, h2⟩ := h.blk
  exact ⟨⟨jv, rv, dv, num, ho.blk h1 hp, h2.only ho hC hb hf⟩, owns_keep h.told ho (fun x hx => hf x (by simp [Ft.bl, hx])), h.own⟩
theorem WkAt.more (h : WkAt base W N Ps pw f fv js u) {Ps' : List Nat} (hP : ∀ (i p : Nat), Ps[i]? = some p → Ps'[i]? = some p) : WkAt base W N Ps' pw f fv js u := by
  obtain ⟨jv, rv, dv, num, h1, h2⟩ := h.blk
  refine ⟨⟨jv, rv, dv, num, h1, ?_⟩, h.told, h.own⟩
  cases hp : u.ph with
  | idle => rw [hp] at h2; exact h2
  | learn R => rw [hp] at h2; exact h2
  | desc i n =>
    rw [hp] at h2
    obtain ⟨a, ⟨p, b, c⟩, d⟩ := h2
    exact ⟨a, ⟨p, b, hP i p c⟩, d⟩
theorem WkAt.lt (h : WkAt base W N Ps pw f fv js u) : pw < W.heap.size ∧ ∀ x ∈ f.bl, base ≤ x ∧ x < W.heap.size := by
  obtain ⟨jv, rv, dv, num, h1, h2⟩ := h.blk
  refine ⟨h1.lt, fun x hx => ?_⟩
  unfold Ft.bl at hx
  rcases List.mem_append.1 hx with hx | hx
  · exact h.told.lt x (by simpa using hx)
  · cases hp : u.ph with
    | idle => rw [hp] at h2; rw [h2.2.2] at hx; simp at hx
    | learn R =>
      rw [hp] at h2
      obtain ⟨_, _, _, bt, bm, last, h5, h6, h7, h8, h9⟩ := h2
      rw [h5] at hx
      simp at hx
      rcases hx with rfl | rfl
      · exact ⟨h7, h9.blk.lt⟩
      · exact ⟨h8, h9.own.lt⟩
    | desc i n => rw [hp] at h2; rw [h2.2.2.2] at hx; simp at hx
/-- a worker's own blocks are of few types -/
theorem WkAt.clear (h : WkAt base W N Ps pw f fv js u) {Ts : List TypeId} (h1 : WkT ∉ Ts) (h2 : IntT ∉ Ts) (h3 : 106 ∉ Ts) : Clear W (pw :: f.bl) Ts := by
  obtain ⟨jv, rv, dv, num, k1, k2⟩ := h.blk
  refine (Clear.one k1 h1).app ((owns_clear h.told h2).app ?_)
  cases hp : u.ph with
  | idle => rw [hp] at k2; rw [k2.2.2]; exact Clear.nil
  | learn R =>
    rw [hp] at k2
    obtain ⟨_, _, _, bt, bm, last, h5, h6, h7, h8, h9⟩ := k2
    rw [h5]
    exact (Clear.one h9.blk h3).app (Clear.map h9.own)
  | desc i n => rw [hp] at k2; rw [k2.2.2.2]; exact Clear.nil
end
/-- what of a machine never turns -/
structure Geo where
  pm : Nat
  ps : Nat
  gS : Nat
  AW : Option Addr
  cW : Nat
  Pw : List Nat
  F : List Value
/-- all of a machine, as it lies, its own blocks from base on -/
structure MLie (base : Nat) (W : World) (G : Geo) (J : List (List Jb)) (M : Ma) (Ps : List Nat) (Fs : List Ft) (AL : Value) : Prop where
  store : StoreAt W WT G.ps G.gS M.s
  lim : M.s.L.length ≤ 1000
  crowd : Crowd W DT ET En.row 5 Ps M.Ds
  mach : Blk W G.pm MT #[.pointer (some ⟨G.ps, 0, none⟩), .slice G.AW M.ws.length G.cW, .int .i64 M.Ds.length, AL]
  log : W.ownsRow base LgT 4 AL M.log.length (M.log.flatMap Lg.row)
  row : RowN W G.AW PWT ptr 1 G.Pw
  nodup : G.Pw.Nodup
  len : G.Pw.length = M.ws.length ∧ Fs.length = M.ws.length ∧ G.F.length = M.ws.length ∧ J.length = M.ws.length
  wk : ∀ (k : Nat) (u : Wk) (pw : Nat) (f : Ft) (fv : Value) (js : List Jb), M.ws[k]? = some u → G.Pw[k]? = some pw → Fs[k]? = some f → G.F[k]? = some fv → J[k]? = some js → WkAt base W M.s.L.length Ps pw f fv js u
  feed : ∀ (k : Nat) (fv : Value) (js : List Jb), G.F[k]? = some fv → J[k]? = some js → FeedAt base W fv js ∧ js.length ≤ 8
  apart : ∀ (k k' : Nat) (f f' : Ft), k ≠ k' → Fs[k]? = some f → Fs[k']? = some f' → ∀ x ∈ f.bl, x ∉ f'.bl
  own : base ≤ G.pm ∧ base ≤ G.gS ∧ ∀ p ∈ Ps, base ≤ p
  few : M.ws.length ≤ 8
/-- a machine as it lies -/
def MAt (base : Nat) (W : World) (G : Geo) (J : List (List Jb)) (M : Ma) : Prop := ∃ Ps Fs AL, MLie base W G J M Ps Fs AL
section
variable {base : Nat} {W W' : World} {G : Geo} {J : List (List Jb)} {M : Ma} {Ps : List Nat} {Fs : List Ft} {AL : Value} {S : List Nat}
theorem Crowd.only {ty et : TypeId} {f : En → List Value} {n : Nat} {Ds : List De} (h : Crowd W ty et f n Ps Ds) (ho : Only S W W') (hC : Clear W S [ty, et]) : Crowd W' ty et f n Ps Ds :=
  ⟨h.len, h.nodup, fun k p d hp hd => by
    obtain ⟨A, cap, h1⟩ := h.at_ k p d hp hd
    exact ⟨A, cap, h1.only ho (hC.not h1.head (by simp)) (fun g cur hb => hC.not hb (by simp))⟩⟩
/-- a worker and its parts -/
theorem MLie.at_ (h : MLie base W G J M Ps Fs AL) {k : Nat} {u : Wk} (hk : M.ws[k]? = some u) : ∃ pw f fv js, G.Pw[k]? = some pw ∧ Fs[k]? = some f ∧ G.F[k]? = some fv ∧ J[k]? = some js ∧ WkAt base W M.s.L.length Ps pw f fv js u := by
  have hl := (List.getElem?_eq_some_iff.1 hk).1
  obtain ⟨l1, l2, l3, l4⟩ := h.len
  refine ⟨_, _, _, _, List.getElem?_eq_getElem (by omega), List.getElem?_eq_getElem (by omega), List.getElem?_eq_getElem (by omega), List.getElem?_eq_getElem (by omega), ?_⟩
  exact h.wk k u _ _ _ _ hk (List.getElem?_eq_getElem (by omega)) (List.getElem?_eq_getElem (by omega)) (List.getElem?_eq_getElem (by omega)) (List.getElem?_eq_getElem (by omega))
/-- nothing of it has turned -/
theorem MLie.only (h : MLie base W G J M Ps Fs AL) (ho : Only S W W') (hC : Clear W S [WT, CellT, DT, ET, MT, LgT, PWT, JobsT, JobT, OpsT, WkT]) (hb : ∀ x ∈ S, base ≤ x) (hf : ∀ (k : Nat) (f : Ft), Fs[k]? = some f → ∀ x ∈ f.bl, x ∉ S) : MLie base W' G J M Ps Fs AL :=
  ⟨h.store.only ho (hC.not h.store.head (by simp)) (hC.not h.store.body (by simp)), h.lim, h.crowd.only ho (hC.less (by simp)), ho.blk h.mach (hC.not h.mach (by simp)), owns_keep h.log ho (fun x hx => by
    obtain ⟨cur, hb⟩ := owns_blk h.log hx
    exact hC.not hb (by simp)), h.row.only ho (fun g cur hb => hC.not hb (by simp)), h.nodup, h.len, fun k u pw f fv js h1 h2 h3 h4 h5 => by
    have hw := h.wk k u pw f fv js h1 h2 h3 h4 h5
    obtain ⟨_, _, _, _, q, _⟩ := hw.blk
    exact hw.only ho (hC.less (by simp)) hb (hC.not q (by simp)) (hf k f h3), fun k fv js h1 h2 => ⟨(h.feed k fv js h1 h2).1.only ho (hC.less (by simp)) hb, (h.feed k fv js h1 h2).2⟩, h.apart, h.own, h.few⟩
theorem MAt.only0 (h : MAt base W G J M) (ho : Only [] W W') : MAt base W' G J M := by
  obtain ⟨Ps, Fs, AL, h⟩ := h
  exact ⟨Ps, Fs, AL, h.only ho Clear.nil (by simp) (by simp)⟩
end
end Go.Proofs.Ytleomgmhkoglmaa
