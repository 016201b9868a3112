import Derived.Test.YtfccelbmacjifaaGreatP28
set_option linter.unusedSimpArgs false
namespace Go.Proofs.YtfccelbmacjifaaGreat
open Go.RowKit
/-- A turn of the threads, so far. -/
structure Turning (f N : Nat) (D : PlD) (k m s : Nat) (D1 : PlD) : Prop where
  pot : ∀ n, Pot N D n → ∃ n', n' + m ≤ n ∧ Pot N D1 n'
  still : m = 0 → D1.P = D.P ∧ ∀ j u, f ≤ j → j < k → D.P.ts[j]? = some u → u.busy = true → (D.P.step j u).2 = 2
  none_ : s = 0 → D1.P = D.P ∧ m = 0 ∧ ∀ j u, f ≤ j → j < k → D.P.ts[j]? = some u → u.busy = false
  some_ : s ≠ 0 → m = 0 → ∃ j u, f ≤ j ∧ D.P.ts[j]? = some u ∧ u.busy = true
  le : m ≤ k ∧ s ≤ k
section
variable {own : Own} {z : Nat} {w w' : World} {pb : Nat} {D D1 D2 : PlD} {i f k m s N b : Nat} {t : PThread} {J : PlD → Prop} {T Nn E L : Int}
theorem Turning.start : Turning f N D f 0 0 D := ⟨fun n h => ⟨n, by omega, h⟩, fun _ => ⟨rfl, fun j u h1 h2 => by omega⟩, fun _ => ⟨rfl, rfl, fun j u h1 h2 => by omega⟩, fun h => absurd rfl h, by omega⟩
theorem Turning.skip (h : Turning f N D k m s D1) (hk : D1.P.ts[k]? = some t) (hb : t.busy = false) : Turning f N D (k + 1) m s D1 := by
  refine ⟨h.pot, ?_, ?_, h.some_, by have := h.le; omega⟩
  · intro hm
    obtain ⟨h1, h2⟩ := h.still hm
    refine ⟨h1, ?_⟩
    intro j u hj hjk hu hub
    rcases (show j < k ∨ j = k by omega) with e | e
    · exact h2 j u hj e hu hub
    · subst e; rw [← h1, hk] at hu; injection hu with hu; subst hu; rw [hb] at hub; cases hub
  · intro hs
    obtain ⟨h1, h2, h3⟩ := h.none_ hs
    refine ⟨h1, h2, ?_⟩
    intro j u hj hjk hu
    rcases (show j < k ∨ j = k by omega) with e | e
    · exact h3 j u hj e hu
    · subst e; rw [← h1, hk] at hu; injection hu with hu; subst hu; exact hb
theorem Turning.wait (h : Turning f N D k m s D1) (hf : f ≤ k) (hp : ∃ C, Inv C D1.P) (hk : D1.P.ts[k]? = some t) (hb : t.busy = true) (hs : Stepped D1 k t D2) (h2 : (D1.P.step k t).2 = 2) : Turning f N D (k + 1) m (s + 1) D2 := by
  obtain ⟨C, hC⟩ := hp
  have hP2 : D2.P = D1.P := by rw [hs.P, (hC.waits hk hb h2).1]
  refine ⟨?_, ?_, fun e => by omega, ?_, by have := h.le; omega⟩
  · intro n hn
    obtain ⟨n', q1, q2⟩ := h.pot n hn
    exact ⟨n', q1, (q2.wait hk hb hs h2).1⟩
  · intro hm
    obtain ⟨g1, g2⟩ := h.still hm
    refine ⟨hP2.trans g1, ?_⟩
    intro j u hj hjk hu hub
    rcases (show j < k ∨ j = k by omega) with e | e
    · exact g2 j u hj e hu hub
    · subst e; rw [← g1, hk] at hu; injection hu with hu; subst hu; rw [← g1]; exact h2
  · intro _ hm
    obtain ⟨g1, _⟩ := h.still hm
    exact ⟨k, t, hf, by rw [← g1]; exact hk, hb⟩
theorem Turning.move (h : Turning f N D k m s D1) (hk : D1.P.ts[k]? = some t) (hb : t.busy = true) (hs : Stepped D1 k t D2) (h2 : (D1.P.step k t).2 ≠ 2) : Turning f N D (k + 1) (m + 1) (s + 1) D2 := by
  refine ⟨?_, fun e => by omega, fun e => by omega, fun _ e => by omega, by have := h.le; omega⟩
  intro n hn
  obtain ⟨n', q1, q2⟩ := h.pot n hn
  obtain ⟨n'', q3, q4⟩ := q2.move hk hb hs h2
  exact ⟨n'', by omega, q4⟩
/-- A turn without a move has nothing to do. -/
theorem Turning.done (hJ : Plays f T Nn E L J) (hj : J D) (h : Turning f N D D.P.ts.length m s D1) (hm : m = 0) : s = 0 := by
  by_cases hs : s = 0
  · exact hs
  · exfalso
    obtain ⟨j, u, h1, h2, h3⟩ := h.some_ hs hm
    obtain ⟨C, hC⟩ := hJ.inv hj
    obtain ⟨j', u', g1, g2, g3, g4⟩ := hC.live h2 h3
    have hf : f ≤ j' := by
      rcases Nat.lt_or_ge j' f with hlt | hge
      · have hl := hJ.low hj hlt g1 g2
        rcases g4 with e | e
        · omega
        · omega
      · exact hge
    exact g3 ((h.still hm).2 j' u' hf (List.getElem?_eq_some_iff.1 g1).1 g1 g2)
/-- A step of a thread that is busy. -/
theorem Psteps_busy (h : PlAt own z w pb D) (hb : D.bs[i]? = some true) (ht : D.P.ts[i]? = some t) (htb : t.busy = true) (hN : D.N < 2 ^ 39) (hdl : D.deeds.length ≤ 2 ^ 38) :
    Calls Tryz.prog 56 #[pv pb, .int .i64 i] w fun r w' => r = .returned (.tuple #[.int .i64 (D.P.step i t).2, .bool true]) ∧ PlGoes own z w pb w' (Stepped D i t) := by
  by_cases h3 : (D.P.step i t).2 = 3
  · rw [h3]; exact Psteps_end h hb ht htb hN hdl h3
  · exact Psteps_on h hb ht htb hN h3
set_option maxHeartbeats 1000000 in
set_option maxRecDepth 100000 in
theorem Pturn_calls (hJ : Plays f T Nn E L J) (h : PlAt own z w pb D) (hj : J D) (hS : Sz b D) (hb : b ≤ 2 ^ 37) (hf : (f : Int) < T) :
    Calls Tryz.prog 80 #[pv pb, .int .i64 f] w fun r w' => ∃ m s : Nat, r = .returned (.tuple #[.int .i64 m, .int .i64 s, .bool true]) ∧ m ≤ 8 ∧ PlGoes own z w pb w' (fun D1 => J D1 ∧ Sz (b + 8) D1 ∧ Turning f Nn.toNat D D.P.ts.length m s D1) := by
  have hT8 := h.fit.thr
  have hTt : D.t = D.P.ts.length := h.thr
  obtain ⟨q, hq⟩ : ∃ q : Nat, Hid (q = D.P.ts.length) := ⟨_, rfl⟩
  have hTq : Hid (T = q) := by show T = q; rw [← (hJ.cfg hj).2.1, hTt, hq.out]
  have hq8 : q ≤ 8 := by have := hq.out; omega
  have hfq : f < q := by have := hTq.out; omega
  have H := (show Hid (PlAt own z w pb D ∧ J D ∧ Sz b D) from ⟨h, hj, hS⟩)
  have HJ := (show Hid (Plays f T Nn E L J) from hJ)
  have HL := (show Hid (∀ (own1 : Own) (w1 : World) (D1 : PlD), PlAt own1 z w1 pb D1 → J D1 → D1.P.ts.length = q ∧ D1.t = q) from by
    intro own1 w1 D1 h1 j1
    have h2 := h1.thr
    have h3 := (hJ.cfg j1).2.1
    have h4 := hTq.out
    have : (D1.P.ts.length : Int) = q := by rw [← h2, h3, h4]
    exact ⟨by omega, by rw [h3, h4]⟩)
  have HQ := (show Hid (∀ (w' : World) (m s : Nat), PlGoes own z w pb w' (fun D1 => J D1 ∧ Sz (b + 8) D1 ∧ Turning f Nn.toNat D q m s D1) → PlGoes own z w pb w' (fun D1 => J D1 ∧ Sz (b + 8) D1 ∧ Turning f Nn.toNat D D.P.ts.length m s D1)) from by
    intro w' m s hh; rw [hq.out] at hh; exact hh)
  clear h hj hS hT8 hTt hJ hq hTq hf
  unfold pv
  go_enter Tryz.func80, Tryz.ntmps80
  go_wp2
  go_loopw [7, 8, 9] (fun v1 v2 v3 wr => ∃ k m s : Nat, f ≤ k ∧ k ≤ q ∧ m ≤ 8 ∧ s ≤ 8 ∧ v1 = .int .i64 m ∧ v2 = .int .i64 s ∧ v3 = .int .i64 k ∧ Hid (PlGoes own z w pb wr (fun D1 => J D1 ∧ Sz (b + k) D1 ∧ Turning f Nn.toNat D k m s D1))) (fun _ _ v3 _ => q - (intOf v3).toNat)
  case atStart => exact ⟨f, 0, 0, Nat.le_refl _, by omega, by omega, by omega, rfl, rfl, rfl, own, D, H.out.1, Ext.refl _ _, Fr.refl _ _, H.out.2.1, H.out.2.2.mono (by omega), Turning.start⟩
  case round =>
    clear H
    obtain ⟨k, m, s, hfk, hkq, hm8, hs8, rfl, rfl, rfl, HG⟩ := hrel
    obtain ⟨own1, D1, hP, hE, hF, hj1, hS1, hTu⟩ := HG.out
    obtain ⟨l1, l2⟩ := HL.out own1 wr D1 hP hj1
    have HP := (show Hid (PlAt own1 z wr pb D1 ∧ J D1 ∧ Sz (b + k) D1 ∧ Turning f Nn.toNat D k m s D1) from ⟨hP, hj1, hS1, hTu⟩)
    have HX := (show Hid (Ext own own1 w ∧ FrP own z w wr) from ⟨hE, hF⟩)
    have hok : D1.ok := HJ.out.ok hj1
    by_cases hlt : k < q
    · have hkl : k < D1.P.ts.length := by omega
      have ht1 : D1.P.ts[k]? = some D1.P.ts[k] := List.getElem?_eq_getElem hkl
      generalize D1.P.ts[k] = t1 at ht1
      have hbs : D1.bs[k]? = some t1.busy := by
        have hok' : D1.bs = D1.P.ts.map (·.busy) := hok
        rw [hok', List.getElem?_map, ht1]; rfl
      obtain ⟨g, gc, hv, hc, hz, hg, hgl⟩ := hP.busyRow hbs
      have ha := hP.at_.cell
      rw [l1] at hv
      simp only [PlD.cells, hv, l2, pv] at ha
      have HT := (show Hid (D1.P.ts[k]? = some t1 ∧ D1.bs[k]? = some t1.busy) from ⟨ht1, hbs⟩)
      have hle := hTu.le
      clear hP hE hF hj1 hS1 hTu HG hok ht1 hbs hv hg
      cases hbz : t1.busy
      · rw [hbz] at hc
        have HG2 := (show Hid (PlGoes own z w pb wr (fun D1 => J D1 ∧ Sz (b + (k + 1)) D1 ∧ Turning f Nn.toNat D (k + 1) m s D1)) from ⟨own1, D1, HP.out.1, HX.out.1, HX.out.2, HP.out.2.1, HP.out.2.2.1.mono (by omega), HP.out.2.2.2.skip HT.out.1 hbz⟩)
        clear HT hbz
        go_wp2
        go_roundw
        case rel => exact ⟨k + 1, m, s, by omega, by omega, hm8, hs8, rfl, rfl, by go_num, HG2⟩
        case measure => simp [intOf]; omega
      · rw [hbz] at hc
        have HT2 := (show Hid (t1.busy = true ∧ D1.bs[k]? = some true) from ⟨hbz, by rw [← hbz]; exact HT.out.2⟩)
        clear hbz
        have HN := (show Hid (D1.N < 2 ^ 39 ∧ D1.deeds.length ≤ 2 ^ 38) from by have := HP.out.2.2.1; unfold Sz at this; exact ⟨by omega, by omega⟩)
        go_wp2_with fail
        refine (Psteps_busy HP.out.1 HT2.out.2 HT.out.1 HT2.out.1 HN.out.1 HN.out.2).mono ?_
        rintro r w2 ⟨rfl, own2, D2, hP2, hE2, hF2, hS2⟩
        have HS2 := (show Hid (PlGoes own z w pb w2 (fun D2 => J D2 ∧ Sz (b + (k + 1)) D2 ∧ Stepped D1 k t1 D2)) from PlGoes.trans HX.out.1 HX.out.2 ⟨own2, D2, hP2, hE2, hF2, HJ.out.step HP.out.2.1 HP.out.1.fit HT.out.1 HT2.out.1 hfk hS2, HP.out.2.2.1.step hS2, hS2⟩)
        have hrg := (HP.out.1.fit.turn HT.out.1 HT2.out.1).how
        clear hP2 hE2 hF2 hS2 ha hc hz
        by_cases h2 : (D1.P.step k t1).2 = 2
        · have HG2 := (show Hid (PlGoes own z w pb w2 (fun D2 => J D2 ∧ Sz (b + (k + 1)) D2 ∧ Turning f Nn.toNat D (k + 1) m (s + 1) D2)) from by
            obtain ⟨o, d, y1, y2, y3, y4, y5, y6⟩ := HS2.out
            exact ⟨o, d, y1, y2, y3, y4, y5, HP.out.2.2.2.wait hfk (HJ.out.inv HP.out.2.1) HT.out.1 HT2.out.1 y6 h2⟩)
          rw [h2]
          clear h2 HS2 hrg
          go_wp2
          go_roundw
          case rel => exact ⟨k + 1, m, s + 1, by omega, by omega, hm8, by omega, rfl, by go_num, by go_num, HG2⟩
          case measure => simp [intOf]; omega
        · have HG2 := (show Hid (PlGoes own z w pb w2 (fun D2 => J D2 ∧ Sz (b + (k + 1)) D2 ∧ Turning f Nn.toNat D (k + 1) (m + 1) (s + 1) D2)) from by
            obtain ⟨o, d, y1, y2, y3, y4, y5, y6⟩ := HS2.out
            exact ⟨o, d, y1, y2, y3, y4, y5, HP.out.2.2.2.move HT.out.1 HT2.out.1 y6 h2⟩)
          generalize (D1.P.step k t1).2 = hw at h2 hrg ⊢
          have h2' : (hw == 2) = false := by simpa using h2
          clear HS2 h2
          go_wp2
          go_roundw
          case rel => exact ⟨k + 1, m + 1, s + 1, by omega, by omega, by omega, by omega, by go_num, by go_num, by go_num, HG2⟩
          case measure => simp [intOf]; omega
    · have hkq' : Hid (k = q) := by show k = q; omega
      have ha := hP.at_.cell
      simp only [PlD.cells, l2, pv] at ha
      have HF := (show Hid (PlGoes own z w pb wr (fun D1 => J D1 ∧ Sz (b + 8) D1 ∧ Turning f Nn.toNat D q m s D1)) from ⟨own1, D1, hP, hE, hF, hj1, hS1.mono (by omega), by rw [← hkq'.out]; exact hTu⟩)
      clear hP hE hF hj1 hS1 hTu HG hok HP HX
      go_wp2
      go_ret3
      exact ⟨m, s, rfl, hm8, HQ.out _ _ _ HF.out⟩
end
end Go.Proofs.YtfccelbmacjifaaGreat

set_option linter.unusedSimpArgs false
namespace Go.Proofs.YtfccelbmacjifaaGreat
open Go.RowKit
section
variable {own : Own} {z : Nat} {w w' : World} {pb : Nat} {D D1 D2 : PlD} {i f k m s N b : Nat} {t : PThread} {J : PlD → Prop} {T Nn E L : Int}
theorem Plays.pot (hJ : Plays f T Nn E L J) (hj : J D) (hT : (D.P.ts.length : Int) = T) (hN : 0 ≤ Nn) : Pot Nn.toNat D (T * (T + 2) * (Nn + 16)).toNat := by
  obtain ⟨C, hC⟩ := hJ.inv hj
  refine ⟨C, hC, hJ.len hj, ?_⟩
  have := hC.bound Nn.toNat
  have e : (T * (T + 2) * (Nn + 16)).toNat = D.P.ts.length * ((D.P.ts.length + 2) * (Nn.toNat + 16)) := by
    rw [← hT]
    have : ((D.P.ts.length : Int) * (D.P.ts.length + 2) * (Nn + 16)) = ((D.P.ts.length * ((D.P.ts.length + 2) * (Nn.toNat + 16)) : Nat) : Int) := by
      rw [← Nat.mul_assoc]
      simp only [Int.natCast_mul, Int.natCast_add]
      rw [Int.toNat_of_nonneg hN]; rfl
    rw [this]; rfl
  rw [e]; exact this
/-- Nothing is under way from the f-th thread on. -/
def Still (f : Nat) (D : PlD) : Prop := ∀ j u, f ≤ j → D.P.ts[j]? = some u → u.busy = false
theorem most_le {T Nn : Int} (hT : 1 ≤ T ∧ T ≤ 8) (hN : 0 ≤ Nn ∧ Nn ≤ 64) : (0 ≤ T * (T + 2) ∧ T * (T + 2) ≤ 80) ∧ 0 ≤ T * (T + 2) * (Nn + 16) ∧ T * (T + 2) * (Nn + 16) ≤ 6400 := by
  have h1 : T * (T + 2) ≤ 8 * 10 := Int.mul_le_mul hT.2 (by omega) (by omega) (by omega)
  have h2 : 0 ≤ T * (T + 2) := Int.mul_nonneg (by omega) (by omega)
  have h3 : T * (T + 2) * (Nn + 16) ≤ 80 * 80 := Int.mul_le_mul (by omega) (by omega) (by omega) (by omega)
  have h4 : 0 ≤ T * (T + 2) * (Nn + 16) := Int.mul_nonneg h2 (by omega)
  omega
set_option maxHeartbeats 1000000 in
set_option maxRecDepth 100000 in
theorem Pfinish_calls (hJ : Plays f T Nn E L J) (h : PlAt own z w pb D) (hj : J D) (hS : Sz b D) (hb : b ≤ 2 ^ 36) (hf : (f : Int) < T) (hNn : 0 ≤ Nn ∧ Nn ≤ 64) :
    Calls Tryz.prog 48 #[pv pb, .int .i64 f] w fun r w' => r = .returned (.bool true) ∧ PlGoes own z w pb w' (fun D1 => J D1 ∧ Sz (b + 60000) D1 ∧ Still f D1) := by
  have hT8 := h.fit.thr
  have hTt : D.t = D.P.ts.length := h.thr
  have hT1 : (1 : Int) ≤ T ∧ T ≤ 8 := by have := (hJ.cfg hj).2.1; omega
  obtain ⟨⟨m1, m2⟩, m3, m4⟩ := most_le hT1 hNn
  obtain ⟨n1, n2⟩ := hNn
  obtain ⟨t1, t2⟩ := hT1
  have hpot := hJ.pot hj (by rw [← hTt]; exact (hJ.cfg hj).2.1) n1
  have H := (show Hid (PlAt own z w pb D ∧ J D ∧ Sz b D) from ⟨h, hj, hS⟩)
  have HJ := (show Hid (Plays f T Nn E L J) from hJ)
  have HF := (show Hid ((f : Int) < T) from hf)
  have ha := h.at_.cell
  simp only [PlD.cells, (hJ.cfg hj).2.1, (hJ.cfg hj).2.2.1, pv] at ha
  obtain ⟨M, hM⟩ : ∃ M : Nat, Hid (T * (T + 2) * (Nn + 16) = M) := ⟨(T * (T + 2) * (Nn + 16)).toNat, by show _ = _; omega⟩
  have hM6 : M ≤ 6400 := by have := hM.out; omega
  have HPot := (show Hid (Pot Nn.toNat D M) from by
    show Pot Nn.toNat D M
    rw [hM.out] at hpot; simpa using hpot)
  clear h hj hS hT8 hTt hJ hf hpot
  unfold pv
  go_enter Tryz.func48, Tryz.ntmps48
  go_wp2
  go_region
  rw [hM.out]
  have HD := (show Hid (PlAt own z w.drew pb D) from H.out.1.calm ((Fr.refl _ _).drew))
  have HW := (show Hid (FrP own z w w.drew) from (Fr.refl _ _).drew)
  clear ha
  generalize w.drew = w0 at HD HW ⊢
  go_wp2
  go_loopw [6] (fun v wr => ∃ j : Nat, j ≤ M ∧ v = .int .i64 j ∧ Hid (PlGoes own z w pb wr (fun D1 => J D1 ∧ Sz (b + 8 * j) D1 ∧ ∃ n, n + j ≤ M ∧ Pot Nn.toNat D1 n))) (fun v _ => M + 1 - (intOf v).toNat)
  case atStart => exact ⟨0, by omega, rfl, own, D, HD.out, Ext.refl _ _, HW.out, H.out.2.1, H.out.2.2, M, by omega, HPot.out⟩
  case round =>
    clear H HD HW HPot
    obtain ⟨j, hjM, rfl, HG⟩ := hrel
    obtain ⟨own1, D1, hP, hE, hF, hj1, hS1, n, hn, hpt⟩ := HG.out
    have HP := (show Hid (PlAt own1 z wr pb D1 ∧ J D1 ∧ Sz (b + 8 * j) D1 ∧ n + j ≤ M ∧ Pot Nn.toNat D1 n) from ⟨hP, hj1, hS1, hn, hpt⟩)
    have HX := (show Hid (Ext own own1 w ∧ FrP own z w wr) from ⟨hE, hF⟩)
    clear hP hE hF hj1 hS1 hn hpt HG
    have HB := (show Hid (b + 8 * j ≤ 2 ^ 37) from by show b + 8 * j ≤ 2 ^ 37; omega)
    go_wp2_with fail
    refine (Pturn_calls HJ.out HP.out.1 HP.out.2.1 HP.out.2.2.1 HB.out HF.out).mono ?_
    rintro r w2 ⟨mm, ss, rfl, hm8, own2, D2, hP2, hE2, hF2, hj2, hS2, hTu⟩
    have HG2 := (show Hid (PlGoes own z w pb w2 (fun D2 => J D2 ∧ Sz (b + 8 * (j + 1)) D2 ∧ Turning f Nn.toNat D1 D1.P.ts.length mm ss D2)) from PlGoes.trans HX.out.1 HX.out.2 ⟨own2, D2, hP2, hE2, hF2, hj2, hS2.mono (by omega), hTu⟩)
    clear hP2 hE2 hF2 hj2 hS2 hTu hm8
    by_cases hs : ss = 0
    · have HR := (show Hid (PlGoes own z w pb w2 (fun D1 => J D1 ∧ Sz (b + 60000) D1 ∧ Still f D1)) from by
        obtain ⟨o, d, y1, y2, y3, y4, y5, y6⟩ := HG2.out
        obtain ⟨z1, z2, z3⟩ := y6.none_ hs
        refine ⟨o, d, y1, y2, y3, y4, y5.mono (by omega), ?_⟩
        intro q u hq hu
        rw [z1] at hu
        exact z3 q u hq (List.getElem?_eq_some_iff.1 hu).1 hu)
      subst hs
      clear HG2
      go_wp2
      go_ret
      exact ⟨rfl, HR.out⟩
    · have hm : mm ≠ 0 := by
        intro e
        obtain ⟨o, d, y1, y2, y3, y4, y5, y6⟩ := HG2.out
        exact hs (y6.done HJ.out HP.out.2.1 e)
      have HG3 := (show Hid (j + 1 ≤ M ∧ PlGoes own z w pb w2 (fun D2 => J D2 ∧ Sz (b + 8 * (j + 1)) D2 ∧ ∃ n, n + (j + 1) ≤ M ∧ Pot Nn.toNat D2 n)) from by
        obtain ⟨o, d, y1, y2, y3, y4, y5, y6⟩ := HG2.out
        obtain ⟨n', q1, q2⟩ := y6.pot n HP.out.2.2.2.2
        have := HP.out.2.2.2.1
        exact ⟨by omega, o, d, y1, y2, y3, y4, y5, n', by omega, q2⟩)
      have hs' : ((ss : Int) == 0) = false := by simp; exact hs
      have hm' : ((mm : Int) == 0) = false := by simp; exact hm
      have hj1 := HG3.out.1
      have HG4 := (show Hid (PlGoes own z w pb w2 (fun D2 => J D2 ∧ Sz (b + 8 * (j + 1)) D2 ∧ ∃ n, n + (j + 1) ≤ M ∧ Pot Nn.toNat D2 n)) from HG3.out.2)
      clear HG2 HG3 hs hm
      go_wp2
      go_roundw
      case rel => exact ⟨j + 1, hj1, by go_num, HG4⟩
      case measure => simp [intOf]; omega
end
end Go.Proofs.YtfccelbmacjifaaGreat

set_option linter.unusedSimpArgs false
namespace Go.Proofs.YtfccelbmacjifaaGreat
open Go.RowKit
section
variable {own : Own} {z : Nat} {w w' : World} {pb : Nat} {D D1 D2 : PlD} {i f k m s N b : Nat} {t : PThread} {J : PlD → Prop} {T Nn E L : Int}
theorem Plays.busy (hJ : Plays f T Nn E L J) (hj : J D) (hi : i < D.P.ts.length) : ∃ t, D.P.ts[i]? = some t ∧ D.bs[i]? = some t.busy := by
  have ht : D.P.ts[i]? = some D.P.ts[i] := List.getElem?_eq_getElem hi
  refine ⟨D.P.ts[i], ht, ?_⟩
  have hok : D.bs = D.P.ts.map (·.busy) := hJ.ok hj
  rw [hok, List.getElem?_map, ht]; rfl
/-- A step of any thread. -/
theorem Psteps_any (hJ : Plays f T Nn E L J) (h : PlAt own z w pb D) (hj : J D) (hS : Sz b D) (hb : b ≤ 2 ^ 37) (hi : i < D.P.ts.length) (hf : f ≤ i) :
    ∃ how : Int, 0 ≤ how ∧ how ≤ 3 ∧ Calls Tryz.prog 56 #[pv pb, .int .i64 i] w fun r w' => r = .returned (.tuple #[.int .i64 how, .bool true]) ∧ PlGoes own z w pb w' (fun D1 => J D1 ∧ Sz (b + 1) D1) := by
  obtain ⟨t, ht, hbs⟩ := hJ.busy hj hi
  cases hbz : t.busy
  · rw [hbz] at hbs
    refine ⟨0, by omega, by omega, (Psteps_idle h hbs ht hbz).mono ?_⟩
    rintro r w1 ⟨rfl, rfl⟩
    exact ⟨rfl, own, D, h, Ext.refl _ _, Fr.refl _ _, hj, hS.mono (by omega)⟩
  · rw [hbz] at hbs
    have hrg := (h.fit.turn ht hbz).how
    refine ⟨(D.P.step i t).2, by omega, by omega, (Psteps_busy h hbs ht hbz (by unfold Sz at hS; omega) (by unfold Sz at hS; omega)).mono ?_⟩
    rintro r w1 ⟨rfl, own1, D1, hP, hE, hF, hs⟩
    exact ⟨rfl, own1, D1, hP, hE, hF, hJ.step hj h.fit ht hbz hf hs, hS.step hs⟩
/-- A step of the sweep. -/
theorem Psweep_any (hJ : Plays f T Nn E L J) (h : PlAt own z w pb D) (hj : J D) (hS : Sz b D) :
    ∃ how : Int, 1 ≤ how ∧ how ≤ 3 ∧ Calls Tryz.prog 73 #[pv D.L.s] w fun r w' => r = .returned (.int .i64 how) ∧ PlGoes own z w pb w' (fun D1 => J D1 ∧ Sz b D1) := by
  have hrg : 1 ≤ D.P.doSweep.2 ∧ D.P.doSweep.2 ≤ 3 := by
    unfold PSt.doSweep
    simp only
    split
    · simp
    · split
      · split <;> simp
      · split <;> simp
  refine ⟨D.P.doSweep.2, hrg.1, hrg.2, (ZSweep_fit h.st h.fit).mono ?_⟩
  rintro r w2 ⟨rfl, hG⟩
  have hf := (h.fit.sweep h.st.mem.nsmall).1
  obtain ⟨own2, L2, hP2, hE2, hF2, e2⟩ := h.store hG hf (by rw [sweep_ts])
  exact ⟨rfl, own2, _, hP2, hE2, hF2, hJ.sweep L2 hj, hS⟩
set_option maxHeartbeats 1000000 in
set_option maxRecDepth 100000 in
theorem Pruns_calls (hJ : Plays f T Nn E L J) (h : PlAt own z w pb D) (hj : J D) (hS : Sz b D) (hb : b ≤ 2 ^ 36) (hi : (i : Int) < T) (hf : f ≤ i) (n : Nat) (hn : n ≤ 40) :
    Calls Tryz.prog 86 #[pv pb, .int .i64 i, .int .i64 n] w fun r w' => r = .returned (.bool true) ∧ PlGoes own z w pb w' (fun D1 => J D1 ∧ Sz (b + 40) D1) := by
  have H := (show Hid (PlAt own z w pb D ∧ J D ∧ Sz b D) from ⟨h, hj, hS⟩)
  have HJ := (show Hid (Plays f T Nn E L J) from hJ)
  have hT8 : T ≤ 8 := by have := (hJ.cfg hj).2.1; have := h.thr; have := h.fit.thr; omega
  have HI := (show Hid (∀ (own1 : Own) (w1 : World) (D1 : PlD), PlAt own1 z w1 pb D1 → J D1 → i < D1.P.ts.length) from by
    intro own1 w1 D1 h1 j1
    have h2 := h1.thr
    have h3 := (hJ.cfg j1).2.1
    omega)
  clear h hj hS hJ
  unfold pv
  go_enter Tryz.func86, Tryz.ntmps86
  go_wp2
  go_loopw [7] (fun v wr => ∃ k : Nat, k ≤ n ∧ v = .int .i64 k ∧ Hid (PlGoes own z w pb wr (fun D1 => J D1 ∧ Sz (b + k) D1))) (fun v _ => n - (intOf v).toNat)
  case atStart => exact ⟨0, by omega, rfl, own, D, H.out.1, Ext.refl _ _, Fr.refl _ _, H.out.2.1, H.out.2.2⟩
  case round =>
    clear H
    obtain ⟨k, hkn, rfl, HG⟩ := hrel
    obtain ⟨own1, D1, hP, hE, hF, hj1, hS1⟩ := HG.out
    have HP := (show Hid (PlAt own1 z wr pb D1 ∧ J D1 ∧ Sz (b + k) D1) from ⟨hP, hj1, hS1⟩)
    have HX := (show Hid (Ext own own1 w ∧ FrP own z w wr) from ⟨hE, hF⟩)
    have hil := HI.out own1 wr D1 hP hj1
    obtain ⟨t1, ht1, hbs⟩ := HJ.out.busy hj1 hil
    obtain ⟨g, gc, hv, hc, hz, hg, hgl⟩ := hP.busyRow hbs
    have ha := hP.at_.cell
    simp only [PlD.cells, hv, pv] at ha
    have HE := (show Hid (PlGoes own z w pb wr (fun D1 => J D1 ∧ Sz (b + 40) D1)) from ⟨own1, D1, hP, hE, hF, hj1, hS1.mono (by omega)⟩)
    have HB := (show Hid (i < D1.P.ts.length) from hil)
    clear hP hE hF hj1 hS1 HG ht1 hbs hv hg
    by_cases hlt : k < n
    · cases hbz : t1.busy
      · rw [hbz] at hc
        clear hbz
        go_wp2
        go_ret
        exact ⟨rfl, HE.out⟩
      · rw [hbz] at hc
        clear hbz
        obtain ⟨how, h0, h3, hcall⟩ := Psteps_any HJ.out HP.out.1 HP.out.2.1 HP.out.2.2 (by omega) HB.out hf
        have HC := (show Hid (Calls _ _ _ _ _) from hcall)
        clear hcall
        unfold pv at HC
        go_wp2_with fail
        refine Calls.mono HC.out ?_
        rintro r w2 ⟨rfl, own2, D2, hP2, hE2, hF2, hj2, hS2⟩
        have HG2 := (show Hid (PlGoes own z w pb w2 (fun D2 => J D2 ∧ Sz (b + (k + 1)) D2)) from PlGoes.trans HX.out.1 HX.out.2 ⟨own2, D2, hP2, hE2, hF2, hj2, hS2⟩)
        have HE2 := (show Hid (PlGoes own z w pb w2 (fun D2 => J D2 ∧ Sz (b + 40) D2)) from PlGoes.trans HX.out.1 HX.out.2 ⟨own2, D2, hP2, hE2, hF2, hj2, hS2.mono (by omega)⟩)
        clear hP2 hE2 hF2 hj2 hS2 ha hc hz HC HE
        by_cases h2 : how = 2
        · subst h2
          go_wp2
          go_ret
          exact ⟨rfl, HE2.out⟩
        · have h2' : (how == 2) = false := by simpa using h2
          clear h2
          go_wp2
          go_roundw
          case rel => exact ⟨k + 1, by omega, by go_num, HG2⟩
          case measure => simp [intOf]; omega
    · go_wp2
      go_ret
      exact ⟨rfl, HE.out⟩
end
end Go.Proofs.YtfccelbmacjifaaGreat

set_option linter.unusedSimpArgs false
namespace Go.Proofs.YtfccelbmacjifaaGreat
open Go.RowKit
/-! ### The purse -/
def PuAt (w : World) (b : Nat) (n e c : Int) : Prop := At w b [.int .i64 n, .int .i64 e, .int .i64 c] 86
def spendN (k kind : Int) : Int := if kind = 1 then 1 + k else 0
def spendE (k kind : Int) : Int := if kind = 1 then 2 + k else 1
def spendErr (k lim kind n e c : Int) : Int := if n < spendN k kind ∨ e < spendE k kind then 7 else if c = lim then 8 else 0
section
variable {own : Own} {z : Nat} {w w' : World} {pb b : Nat} {D D1 : PlD} {i j : Nat}
set_option maxHeartbeats 1000000 in
set_option maxRecDepth 100000 in
theorem isUpdate_calls (kind key value : Int) (sv : Value) (w : World) :
    Calls Tryz.prog 54 #[opVal kind key value sv] w fun r w' => r = .returned (.bool (kind == 1 || kind == 2)) ∧ Fr (fun _ => False) w w' := by
  unfold opVal
  have HF := (show Hid (∀ o, Fr (fun _ => False) w (w.alloc o)) from fun o => (Fr.refl _ _).alloc _)
  by_cases h1 : kind = 1
  · subst h1
    go_enter Tryz.func54, Tryz.ntmps54
    go_wp2
    go_ret
    exact ⟨rfl, HF.out _⟩
  · have h1' : (kind == 1) = false := by simpa using h1
    by_cases h2 : kind = 2
    · subst h2
      clear h1 h1'
      go_enter Tryz.func54, Tryz.ntmps54
      go_wp2
      go_ret
      exact ⟨rfl, HF.out _⟩
    · have h2' : (kind == 2) = false := by simpa using h2
      have HE : Hid ((kind == 1 || kind == 2) = false) := by show _ = _; simp [h1', h2']
      clear h1 h2
      go_enter Tryz.func54, Tryz.ntmps54
      go_wp2
      go_ret
      exact ⟨ret_bool HE.out.symm, HF.out _⟩
set_option maxHeartbeats 1000000 in
set_option maxRecDepth 100000 in
theorem purse_calls (k t n e l : Int) (w : World) (he : 0 ≤ e ∧ e ≤ 256) :
    Calls Tryz.prog 42 #[cfg k t n e l] w fun r w' => ∃ b, r = .returned (pv b) ∧ PuAt w' b n (e - 1) 0 ∧ w.heap.size ≤ b ∧ b < w'.heap.size ∧ Fr (fun _ => False) w w' := by
  obtain ⟨he1, he2⟩ := he
  unfold cfg pv
  have HF := (show Hid (∀ o o', Fr (fun _ => False) w ((w.alloc o).alloc o')) from fun o o' => ((Fr.refl _ _).alloc _).alloc _)
  have HA := (show Hid (∀ o, At ((w.alloc o).alloc (.cells #[.int .i64 n, .int .i64 (e - 1), .int .i64 0] 86)) (w.alloc o).heap.size [.int .i64 n, .int .i64 (e - 1), .int .i64 0] 86) from fun o => At.new _ _ _)
  go_enter Tryz.func42, Tryz.ntmps42
  go_wp2
  go_ret
  exact ⟨w.heap.size + 1, rfl, At.newAt (by simp) _ _, by omega, by simp, HF.out _ _⟩
set_option maxHeartbeats 1000000 in
set_option maxRecDepth 100000 in
theorem Pis_calls (h : PlAt own z w pb D) {n e c : Int} (hp : PuAt w b n e c) (h1 : D.P.mem.room.1 = n) (h2 : D.P.mem.room.2 = e) (h3 : D.P.clock = c) :
    Calls Tryz.prog 46 #[pv pb, pv b] w fun r w' => r = .returned (.bool true) ∧ w' = w := by
  have HR := (show Hid (Calls Tryz.prog 77 #[pv D.L.s] w fun r w' => r = .returned (.tuple #[.int .i64 n, .int .i64 e]) ∧ w' = w) from by
    show Calls _ _ _ _ _
    rw [← h1, ← h2]; exact ZRoom_calls h.st)
  have HC := (show Hid (Calls Tryz.prog 76 #[pv D.L.s] w fun r w' => r = .returned (.int .i64 c) ∧ w' = w) from by
    show Calls _ _ _ _ _
    rw [← h3]; exact ZClock_calls h.st)
  have ha := h.at_.cell
  simp only [PlD.cells, pv] at ha
  have hb := hp.cell
  clear h h1 h2 h3 hp
  unfold pv at *
  go_enter Tryz.func46, Tryz.ntmps46
  go_wp2_with fail
  refine HR.out.mono ?_
  rintro r w2 ⟨rfl, rfl⟩
  go_wp2_with fail
  refine HC.out.mono ?_
  rintro r w2 ⟨rfl, rfl⟩
  go_wp2
  go_ret
  exact ⟨rfl, rfl⟩
def Spent (k l kind n e c : Int) (b : Nat) (w' : World) : Prop := if spendErr k l kind n e c = 0 then PuAt w' b (n - spendN k kind) (e - spendE k kind) (c + 1) else PuAt w' b n e c
theorem Spent.not {k l kind n e c x : Int} (he : spendErr k l kind n e c = x) (hx : x ≠ 0) (h : PuAt w b n e c) : Spent k l kind n e c b w := by unfold Spent; rw [if_neg (by omega)]; exact h
theorem Spent.yes {k l kind n e c : Int} (he : spendErr k l kind n e c = 0) (h : PuAt w b (n - spendN k kind) (e - spendE k kind) (c + 1)) : Spent k l kind n e c b w := by unfold Spent; rw [if_pos he]; exact h
theorem PuAt.setN {n e c n' : Int} (h : PuAt w b n e c) : PuAt (w.setCell ⟨b, 0, none⟩ (.int .i64 n')) b n' e c := At.set h 0 _
theorem PuAt.setE {n e c e' : Int} (h : PuAt w b n e c) : PuAt (w.setCell ⟨b, 1, none⟩ (.int .i64 e')) b n e' c := At.set h 1 _
theorem PuAt.setC {n e c c' : Int} (h : PuAt w b n e c) : PuAt (w.setCell ⟨b, 2, none⟩ (.int .i64 c')) b n e c' := At.set h 2 _
set_option maxHeartbeats 1000000 in
set_option maxRecDepth 100000 in
theorem spend_calls {n e c : Int} (h : PuAt w b n e c) (hn : 0 ≤ n ∧ n ≤ 64) (he : 0 ≤ e ∧ e ≤ 256) (hc : 0 ≤ c ∧ c ≤ 2 ^ 41) (k t n' e' l kind key value : Int) (sv : Value) (hk : k = 0 ∨ k = 1) :
    Calls Tryz.prog 79 #[pv b, cfg k t n' e' l, opVal kind key value sv] w fun r w' => r = .returned (.int .i64 (spendErr k l kind n e c)) ∧ Fr (fun k => k = b) w w' ∧
      Spent k l kind n e c b w' := by
  obtain ⟨hn1, hn2⟩ := hn
  obtain ⟨he1, he2⟩ := he
  obtain ⟨hc1, hc2⟩ := hc
  have hlt : b < w.heap.size := At.lt h
  have HS : Hid (∀ o o', PuAt ((w.alloc o).alloc o') b n e c ∧ ∀ n e c, PuAt ((((((w.setCell ⟨b, 0, none⟩ (.int .i64 n)).setCell ⟨b, 1, none⟩ (.int .i64 e)).setCell ⟨b, 2, none⟩ (.int .i64 c)).alloc o).alloc o').drew) b n e c) := by
    exact fun o o' => ⟨At.alloc (At.alloc h _) _, fun n e c => At.drew (At.alloc (At.alloc (((h.setN).setE).setC) _) _)⟩
  have HF : Hid (∀ o o', Fr (fun k => k = b) w ((w.alloc o).alloc o') ∧ ∀ n e c, Fr (fun k => k = b) w ((((((w.setCell ⟨b, 0, none⟩ (.int .i64 n)).setCell ⟨b, 1, none⟩ (.int .i64 e)).setCell ⟨b, 2, none⟩ (.int .i64 c)).alloc o).alloc o').drew)) :=
    fun o o' => ⟨((Fr.refl _ _).alloc _).alloc _, fun n e c => Fr.drew (((((((Fr.refl _ _).set1 _ _).set1 _ _).set1 _ _).alloc _).alloc _))⟩
  have hb := h.cell
  have hfz := h.frozen
  have hne1 : b ≠ w.heap.size := by omega
  have hne2 : w.heap.size ≠ b := by omega
  have hne3 : b ≠ w.heap.size + 1 := by omega
  have hne4 : w.heap.size + 1 ≠ b := by omega
  have hk1 : 0 ≤ k ∧ k ≤ 1 := by omega
  obtain ⟨hk2, hk3⟩ := hk1
  clear hk h
  unfold opVal cfg pv
  by_cases h1 : kind = 1
  · subst h1
    by_cases h2 : n < 1 + k
    · have HE : Hid (spendErr k l 1 n e c = 7) := by show _ = _; unfold spendErr spendN; simp [h2]
      have hd : decide (n < 1 + k) = true := by simpa using h2
      go_enter Tryz.func79, Tryz.ntmps79
      go_wp2
      go_ret
      exact ⟨by rw [HE.out]; rfl, (HF.out _ _).1, .not HE.out (by decide) (HS.out _ _).1⟩
    · have hd : decide (n < 1 + k) = false := by simpa using h2
      by_cases h3 : e < 2 + k
      · have HE : Hid (spendErr k l 1 n e c = 7) := by show _ = _; unfold spendErr spendE; simp [h3]
        have hd2 : decide (e < 2 + k) = true := by simpa using h3
        go_enter Tryz.func79, Tryz.ntmps79
        go_wp2
        go_ret
        exact ⟨by rw [HE.out]; rfl, (HF.out _ _).1, .not HE.out (by decide) (HS.out _ _).1⟩
      · have hd2 : decide (e < 2 + k) = false := by simpa using h3
        by_cases h4 : c = l
        · have HE : Hid (spendErr k l 1 n e c = 8) := by show _ = _; unfold spendErr spendE spendN; rw [if_neg (by simp; omega), if_pos h4]
          have h4' : (c == l) = true := by simpa using h4
          clear h4
          go_enter Tryz.func79, Tryz.ntmps79
          go_wp2
          go_region
          go_wp2
          go_ret
          exact ⟨by rw [HE.out]; rfl, (HF.out _ _).1.drew, .not HE.out (by decide) (HS.out _ _).1.drew⟩
        · have HE : Hid (spendErr k l 1 n e c = 0) := by show _ = _; unfold spendErr spendE spendN; rw [if_neg (by simp; omega), if_neg h4]
          have h4' : (c == l) = false := by simpa using h4
          clear h4
          go_enter Tryz.func79, Tryz.ntmps79
          go_wp2
          go_region
          go_wp2
          go_ret
          exact ⟨by rw [HE.out]; rfl, (HF.out _ _).2 _ _ _, .yes HE.out ((HS.out _ _).2 _ _ _)⟩
  · have h1' : (kind == 1) = false := by simpa using h1
    have HK : Hid (spendN k kind = 0 ∧ spendE k kind = 1) := ⟨if_neg h1, if_neg h1⟩
    clear h1
    have hd : decide (n < 0) = false := by simp; omega
    by_cases h3 : e < 1
    · have HE : Hid (spendErr k l kind n e c = 7) := by show _ = _; unfold spendErr; rw [HK.out.1, HK.out.2]; simp [h3]
      have hd2 : decide (e < 1) = true := by simpa using h3
      go_enter Tryz.func79, Tryz.ntmps79
      go_wp2
      go_ret
      exact ⟨by rw [HE.out]; rfl, (HF.out _ _).1, .not HE.out (by decide) (HS.out _ _).1⟩
    · have hd2 : decide (e < 1) = false := by simpa using h3
      by_cases h4 : c = l
      · have HE : Hid (spendErr k l kind n e c = 8) := by show _ = _; unfold spendErr; rw [HK.out.1, HK.out.2, if_neg (by omega), if_pos h4]
        have h4' : (c == l) = true := by simpa using h4
        clear h4
        go_enter Tryz.func79, Tryz.ntmps79
        go_wp2
        go_region
        go_wp2
        go_ret
        exact ⟨by rw [HE.out]; rfl, (HF.out _ _).1.drew, .not HE.out (by decide) (HS.out _ _).1.drew⟩
      · have HE : Hid (spendErr k l kind n e c = 0) := by show _ = _; unfold spendErr; rw [HK.out.1, HK.out.2, if_neg (by omega), if_neg h4]
        have h4' : (c == l) = false := by simpa using h4
        clear h4
        go_enter Tryz.func79, Tryz.ntmps79
        go_wp2
        go_region
        go_wp2
        go_ret
        exact ⟨by rw [HE.out]; rfl, (HF.out _ _).2 _ _ _, .yes HE.out (by rw [HK.out.1, HK.out.2, Int.sub_zero]; exact (HS.out _ _).2 _ _ _)⟩
end
end Go.Proofs.YtfccelbmacjifaaGreat

