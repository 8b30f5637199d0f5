/- What Replace of package cdt does and answers (layer 10), to any view. -/
import Derived.Test.YtlhcigpllkigdaaCdtLink
import Derived.Test.YtlhcigpllkigdaaCdtKids
namespace Go.Proofs.Ytlhcigpllkigdaa
open Go.RowKit
section
variable {σ : Type} {M : Mach σ} {T : TypeId} {v : Value} {fR fW : FuncId} {Mem : World → σ → Prop} {Ok : σ → Prop} {S R : List Nat} {w : World} {s : σ}
theorem downP_step {b : Int} {L : List Int} {m : Nat} {k : Int} {sr s1 s2 : σ} (hx : L[m]? = some k) (h : (downP b (L.drop m)).run M sr = ((), s2)) (h1 : (tellP k 1 b).run M sr = ((), s1)) : (downP b (L.drop (m + 1))).run M s1 = ((), s2) := by
  obtain ⟨hk, e⟩ := List.getElem?_eq_some_iff.1 hx
  rw [List.drop_eq_getElem_cons hk, e] at h
  rw [show downP b (k :: L.drop (m + 1)) = (tellP k 1 b).bind fun _ => downP b (L.drop (m + 1)) from rfl, Vp.run_bind_is h1] at h
  exact h
set_option maxHeartbeats 1000000 in
theorem replace_err (V : VOk M T v fR fW Mem Ok S R) (hm : Mem w s) {a b n : Int} {s1 : σ} (h : (replaceP a b).run M s = (n, s1)) (hn : n ≠ 0) :
    Calls Try.prog 56 #[.iface T v, .int .i64 a, .int .i64 b] w fun e w' => e = .returned (errV n) ∧ Mem w' s1 ∧ Only S w w' := by
  unfold replaceP at h
  by_cases h1 : slotB a 0 = false ∨ slotB b 0 = false
  · rw [Vp.run_yes h1, Vp.run_ret] at h
    cases h
    have h2 : slotB a 0 = false ∨ (slotB a 0 = true ∧ slotB b 0 = false) := by
      rcases h1 with h | h
      · exact .inl h
      · cases slotB a 0 with
        | false => exact .inl rfl
        | true => exact .inr ⟨rfl, h⟩
    rcases h2 with h2 | ⟨h2, h3⟩
    · have c1 := Lib.hid (cis_is h2)
      obtain ⟨q, hq⟩ : ∃ q, slotB b 0 = q := ⟨_, rfl⟩
      have c2 := Lib.hid (cis_is hq)
      clear h1 h2 hq
      go_enter Try.func56, Try.ntmps56
      go_wp2_with (first | ((with_reducible refine (c1.out _).mono ?_); rintro e w1 ⟨rfl, rfl⟩) | ((with_reducible refine (c2.out _).mono ?_); rintro e w1 ⟨rfl, rfl⟩))
      go_ret
      exact ⟨rfl, hm, Only.refl _ _⟩
    · have c1 := Lib.hid (cis_is h2)
      have c2 := Lib.hid (cis_is h3)
      clear h1 h2 h3
      go_enter Try.func56, Try.ntmps56
      go_wp2_with (first | ((with_reducible refine (c1.out _).mono ?_); rintro e w1 ⟨rfl, rfl⟩) | ((with_reducible refine (c2.out _).mono ?_); rintro e w1 ⟨rfl, rfl⟩))
      go_ret
      exact ⟨rfl, hm, Only.refl _ _⟩
  rw [Vp.run_no h1] at h
  have hk : slotB a 0 = true := by cases hh : slotB a 0 <;> simp_all
  have hp : slotB b 0 = true := by cases hh : slotB b 0 <;> simp_all
  have c1 := Lib.hid (cis_is hk)
  have c2 := Lib.hid (cis_is hp)
  clear h1 hk hp
  by_cases hkp : a = b
  · rw [Vp.run_yes hkp, Vp.run_ret] at h
    cases h
    have hb : (a == b) = true := by simp [hkp]
    clear hkp
    go_enter Try.func56, Try.ntmps56
    go_wp2_with (first | ((with_reducible refine (c1.out _).mono ?_); rintro e w1 ⟨rfl, rfl⟩) | ((with_reducible refine (c2.out _).mono ?_); rintro e w1 ⟨rfl, rfl⟩))
    go_ret
    exact ⟨rfl, hm, Only.refl _ _⟩
  rw [Vp.run_no hkp] at h
  have hb : (a == b) = false := by simp [hkp]
  obtain ⟨x, s2, h2⟩ : ∃ x s2, (toldP b 1).run M s = (x, s2) := ⟨_, _, rfl⟩
  rw [Vp.run_bind_is h2] at h
  have c3 := cparent_is V hm h2
  clear hkp hm h2
  by_cases hx : x ≠ -1
  · rw [Vp.run_yes hx, Vp.run_ret] at h
    cases h
    have hxb : (x != -1) = true := by simp [hx]
    clear hx
    go_enter Try.func56, Try.ntmps56
    go_wp2_with (first | ((with_reducible refine (c1.out _).mono ?_); rintro e w1 ⟨rfl, rfl⟩) | ((with_reducible refine (c2.out _).mono ?_); rintro e w1 ⟨rfl, rfl⟩) | ((with_reducible refine c3.mono ?_); clear c3; rintro e w1 ⟨rfl, hm1, ho1⟩))
    go_ret
    exact ⟨rfl, hm1, ho1⟩
  rw [Vp.run_no hx] at h
  obtain rfl : x = -1 := by simpa using hx
  obtain ⟨y, s3, h3⟩ : ∃ y s3, (toldP b 2).run M s2 = (y, s3) := ⟨_, _, rfl⟩
  rw [Vp.run_bind_is h3] at h
  have HV := Lib.hid V
  have H3 := Lib.hid h3
  by_cases hy : y ≠ -1
  · rw [Vp.run_yes hy, Vp.run_ret] at h
    cases h
    have hxb : (y != -1) = true := by simp [hy]
    clear hy hx h3
    go_enter Try.func56, Try.ntmps56
    go_wp2_with (first | ((with_reducible refine (c1.out _).mono ?_); rintro e w1 ⟨rfl, rfl⟩) | ((with_reducible refine (c2.out _).mono ?_); rintro e w1 ⟨rfl, rfl⟩) | ((with_reducible refine c3.mono ?_); clear c3; rintro e w1 ⟨rfl, hm1, ho1⟩) | ((with_reducible refine (told_is HV.out hm1 H3.out).mono ?_); clear hm1; rintro e w2 ⟨rfl, hm2, ho2⟩))
    go_ret
    exact ⟨rfl, hm2, ho1.trans ho2⟩
  rw [Vp.run_no hy] at h
  exfalso
  apply hn
  clear hn c1 c2 c3 H3 HV
  simp only [Vp.run_bind, Vp.run_ret] at h
  cases h
  rfl
set_option maxRecDepth 100000 in
set_option maxHeartbeats 2000000 in
theorem replace_ok (V : VOk M T v fR fW Mem Ok S R) (hm : Mem w s) {a b : Int} {s1 : σ} (h : (replaceP a b).run M s = (0, s1)) :
    Calls Try.prog 56 #[.iface T v, .int .i64 a, .int .i64 b] w fun e w' => e = .returned (errV 0) ∧ Mem w' s1 ∧ Only S w w' := by
  unfold replaceP at h
  by_cases h1 : slotB a 0 = false ∨ slotB b 0 = false
  · rw [Vp.run_yes h1, Vp.run_ret] at h
    cases h
  rw [Vp.run_no h1] at h
  have hk : slotB a 0 = true := by cases hh : slotB a 0 <;> simp_all
  have hp : slotB b 0 = true := by cases hh : slotB b 0 <;> simp_all
  have ib := slotB0_yes.1 hp
  have c1 := Lib.hid (cis_is hk)
  have c2 := Lib.hid (cis_is hp)
  clear h1 hk hp
  by_cases hkp : a = b
  · rw [Vp.run_yes hkp, Vp.run_ret] at h
    cases h
  rw [Vp.run_no hkp] at h
  have hb : (a == b) = false := by simp [hkp]
  obtain ⟨x, s2, h2⟩ : ∃ x s2, (toldP b 1).run M s = (x, s2) := ⟨_, _, rfl⟩
  rw [Vp.run_bind_is h2] at h
  have hs2 := told_ok V (V.ok w s hm) h2
  have c3 := cparent_is V hm h2
  by_cases hx : x ≠ -1
  · rw [Vp.run_yes hx, Vp.run_ret] at h
    cases h
  rw [Vp.run_no hx] at h
  obtain rfl : x = -1 := by simpa using hx
  obtain ⟨y, s3, h3⟩ : ∃ y s3, (toldP b 2).run M s2 = (y, s3) := ⟨_, _, rfl⟩
  rw [Vp.run_bind_is h3] at h
  have hs3 := told_ok V hs2 h3
  by_cases hy : y ≠ -1
  · rw [Vp.run_yes hy, Vp.run_ret] at h
    cases h
  rw [Vp.run_no hy] at h
  obtain rfl : y = -1 := by simpa using hy
  obtain ⟨pa, pn, pq, s4, h4⟩ : ∃ pa pn pq s4, (placeP a).run M s3 = ((pa, pn, pq), s4) := ⟨_, _, _, _, rfl⟩
  rw [Vp.run_bind_is h4] at h
  have r4 := place_rng V hs3 h4
  obtain ⟨f, s5, h5⟩ : ∃ f s5, (toldP a 2).run M s4 = (f, s5) := ⟨_, _, rfl⟩
  rw [Vp.run_bind_is h5] at h
  have hs4 := place_ok V hs3 h4
  have r5 := told_rng V hs4 h5
  obtain ⟨L, s6, h6⟩ : ∃ L s6, (kidsP a).run M s5 = (L, s6) := ⟨_, _, rfl⟩
  rw [Vp.run_bind_is h6] at h
  obtain ⟨s7, h7⟩ : ∃ s7, (downP b L).run M s6 = ((), s7) := ⟨_, rfl⟩
  rw [Vp.run_bind_is h7] at h
  obtain ⟨s8, h8⟩ : ∃ s8, (besideP pa pn pq b b).run M s7 = ((), s8) := ⟨_, rfl⟩
  rw [Vp.run_bind_is h8] at h
  obtain ⟨s9, h9⟩ : ∃ s9, (standP b pa pn pq).run M s8 = ((), s9) := ⟨_, rfl⟩
  rw [Vp.run_bind_is h9] at h
  obtain ⟨s10, h10⟩ : ∃ s10, (tellP b 2 f).run M s9 = ((), s10) := ⟨_, rfl⟩
  rw [Vp.run_bind_is h10] at h
  obtain ⟨s11, h11⟩ : ∃ s11, (standP a (-1) (-1) (-1)).run M s10 = ((), s11) := ⟨_, rfl⟩
  rw [Vp.run_bind_is h11] at h
  obtain ⟨s12, h12⟩ : ∃ s12, (tellP a 2 (-1)).run M s11 = ((), s12) := ⟨_, rfl⟩
  rw [Vp.run_bind_is h12, Vp.run_ret] at h
  cases h
  have HV := Lib.hid V
  have HS := Lib.hid (fun k (hk : k ∈ S) => V.lt w s k hm (V.sub k hk))
  have hlen := kids_len h6
  have HI := Lib.hid (And.intro ib (And.intro r4 r5))
  have H3 := Lib.hid h3
  have H4 := Lib.hid h4
  have H5 := Lib.hid h5
  have H6 := Lib.hid h6
  have H7 := Lib.hid h7
  have H8 := Lib.hid h8
  have H9 := Lib.hid h9
  have H10 := Lib.hid h10
  have H11 := Lib.hid h11
  have H12 := Lib.hid h12
  clear V h2 h3 h4 h5 h6 h7 h8 h9 h10 h11 h12 ib r4 r5 hs2 hs3 hs4 hx hy hkp hm
  go_enter Try.func56, Try.ntmps56
  go_wp2_with (first | ((with_reducible refine (c1.out _).mono ?_); rintro e w1 ⟨rfl, rfl⟩) | ((with_reducible refine (c2.out _).mono ?_); rintro e w1 ⟨rfl, rfl⟩) | ((with_reducible refine c3.mono ?_); clear c3; rintro e w1 ⟨rfl, hm1, ho1⟩))
  (with_reducible refine (told_is HV.out hm1 H3.out).mono ?_)
  rintro e w2 ⟨rfl, hm2, ho2⟩
  go_wp2_with fail
  (with_reducible refine (place_is HV.out hm2 H4.out).mono ?_)
  rintro e w3 ⟨rfl, hm3, ho3⟩
  go_wp2_with fail
  (with_reducible refine (told_is HV.out hm3 H5.out).mono ?_)
  rintro e w4 ⟨rfl, hm4, ho4⟩
  have ho := ((ho1.trans ho2).trans ho3).trans ho4
  clear ho1 ho2 ho3 ho4 hm1 hm2 hm3
  obtain ⟨g0, hg0⟩ : ∃ g0, w4.heap.size = g0 := ⟨_, rfl⟩
  have hb4 := Blk.new w4 PlT (plArr pa pn pq)
  have hm4' := HV.out.only0 hm4 ((Only.refl [] _).alloc (.cells (plArr pa pn pq) PlT))
  have ho' := ho.alloc (.cells (plArr pa pn pq) PlT)
  have hgw : w.heap.size ≤ w4.heap.size := ho.size
  obtain ⟨w5, hw5⟩ : ∃ w5, w5 = w4.alloc (.cells (plArr pa pn pq) PlT) := ⟨_, rfl⟩
  have HG := Lib.hid (show g0 ∉ S from fun hk => by have := HS.out _ hk; omega)
  rw [hg0, ← hw5] at hb4
  rw [← hw5] at hm4' ho'
  go_wp2_with fail
  rw [← hw5]
  (with_reducible refine (kids_is HV.out hm4' H6.out).mono ?_)
  rintro e w6 ⟨u, rfl, hu6, hm6, ho6⟩
  have hb6 := ho6.blk hb4 HG.out
  obtain ⟨A, cp, rfl, -⟩ : ∃ A cp, u = .slice A L.length cp ∧ True := by obtain ⟨A, cp, e, -⟩ := hu6; exact ⟨A, cp, e, trivial⟩
  have hgw5 : w.heap.size ≤ w5.heap.size := ho'.size
  have hoo := ho'.trans ho6
  clear hb4 hm4' ho' hm4 ho ho6 hw5 hgw hg0
  go_wp2_with fail
  go_loopw [10, 46] (fun _ i wr => ∃ (m : Nat) (sr : σ), m ≤ L.length ∧ i = .int .i64 m ∧ Mem wr sr ∧ Only S w wr ∧ Blk wr g0 PlT (plArr pa pn pq) ∧ MadeV wr w5.heap.size (.slice A L.length cp) L ∧ (downP b (L.drop m)).run M sr = ((), s7)) (fun _ i _ => L.length - (intOf i).toNat)
  case atStart => exact ⟨0, s6, by omega, rfl, hm6, hoo, hb6, hu6, by simpa using H7.out⟩
  case round =>
    clear hb6 hu6 hm6 hoo
    obtain ⟨m, sr, hml, rfl, hm, ho, hb0, hu, hd⟩ := hrel
    by_cases hlt : m < L.length
    · obtain ⟨k, hk⟩ : ∃ k, L[m]? = some k := ⟨_, List.getElem?_eq_getElem hlt⟩
      obtain ⟨g, rfl, hg, cc⟩ := hu.cell rfl hk
      obtain ⟨sn, hn⟩ : ∃ sn, (tellP k 1 b).run M sr = ((), sn) := ⟨_, rfl⟩
      have c5 := tell_is HV.out hm (by have := HI.out.1; omega) HI.out.1.2 hn
      have HH := Lib.hid (And.intro ho (And.intro hb0 (And.intro hu (downP_step hk hd hn))))
      have HLT := Lib.hid hlt
      clear hk hn hm ho hb0 hu hd
      go_wp2_with ((with_reducible refine c5.mono ?_); clear c5; rintro e w7 ⟨rfl, hm7, ho7⟩)
      go_roundw
      case rel =>
        exact ⟨m + 1, sn, HLT.out, by go_num, hm7, HH.out.1.trans ho7, ho7.blk HH.out.2.1 HG.out, HH.out.2.2.1.only ho7 (fun k hk => Nat.lt_of_lt_of_le (HS.out k hk) hgw5), HH.out.2.2.2⟩
      case measure => have := HLT.out; simp [intOf]; omega
    · obtain rfl : m = L.length := by omega
      rw [List.drop_length] at hd
      have e7 : sr = s7 := by cases hd; rfl
      subst e7
      clear hlt hd hu H7
      obtain ⟨k0, k1, k2⟩ := hb0.three
      obtain ⟨ib, ⟨ra, rb, rc⟩, rf⟩ := HI.out
      have hgz := hb0.lt
      go_wp2_with fail
      (with_reducible refine (beside_is HV.out hm ⟨by omega, ib.2⟩ ⟨by omega, ib.2⟩ H8.out).mono ?_)
      rintro e w8 ⟨rfl, hm8, ho8⟩
      have hb8 := ho8.blk hb0 HG.out
      have ho := ho.trans ho8
      clear k0 k1 k2 hb0 hm ho8
      obtain ⟨k0, k1, k2⟩ := hb8.three
      go_wp2_with fail
      (with_reducible refine (stand_is HV.out hm8 ra rb rc H9.out).mono ?_)
      rintro e w9 ⟨rfl, hm9, ho9⟩
      have ho := ho.trans ho9
      clear k0 k1 k2 hb8 hm8 ho9
      go_wp2_with fail
      (with_reducible refine (tell_is HV.out hm9 rf.1 rf.2 H10.out).mono ?_)
      rintro e w10 ⟨rfl, hm10, ho10⟩
      have ho := ho.trans ho10
      clear hm9 ho10
      go_wp2_with fail
      (with_reducible refine (nowhere_any _).mono ?_)
      rintro e w11 ⟨rfl, ho11⟩
      have hm11 := HV.out.only0 hm10 ho11
      have ho := ho.trans (ho11.more (S' := S) (fun _ _ hx => absurd hx List.not_mem_nil))
      clear hm10 ho11
      go_wp2_with fail
      (with_reducible refine (stand_is HV.out hm11 ⟨by omega, by omega⟩ ⟨by omega, by omega⟩ ⟨by omega, by omega⟩ H11.out).mono ?_)
      rintro e w12 ⟨rfl, hm12, ho12⟩
      have ho := ho.trans ho12
      clear hm11 ho12
      go_wp2_with fail
      (with_reducible refine (tell_is HV.out hm12 (by omega) (by omega) H12.out).mono ?_)
      rintro e w13 ⟨rfl, hm13, ho13⟩
      have ho := ho.trans ho13
      clear hm12 ho13 ra rb rc rf ib
      go_wp2_with fail
      go_ret
      exact ⟨rfl, hm13, ho⟩
theorem replace_is (V : VOk M T v fR fW Mem Ok S R) (hm : Mem w s) {a b n : Int} {s1 : σ} (h : (replaceP a b).run M s = (n, s1)) :
    Calls Try.prog 56 #[.iface T v, .int .i64 a, .int .i64 b] w fun e w' => e = .returned (errV n) ∧ Mem w' s1 ∧ Only S w w' := by
  by_cases hn : n = 0
  · subst hn
    exact replace_ok V hm h
  · exact replace_err V hm h hn
end
end Go.Proofs.Ytlhcigpllkigdaa
