import Derived.Test.YtfccelbmacjifaaGreatP32
import Derived.Test.YtfccelbmacjifaaGreatP27
set_option linter.unusedSimpArgs false
namespace Go.Proofs.YtfccelbmacjifaaGreat
open Go.RowKit
/-- A turn of the threads, so far. -/
structure Turning (f N : Nat) (D : PlD) (k m s : Nat) (D1 : PlD) : Prop where
  pot : ∀ n, Pot N D n → ∃ n', n' + m ≤ n ∧ Pot N D1 n'
  still : m = 0 → D1.P = D.P ∧ ∀ j u, f ≤ j → j < k → D.P.ts[j]? = some u → u.busy = true → (D.P.step j u).2 = 2
  none_ : s = 0 → D1.P = D.P ∧ m = 0 ∧ ∀ j u, f ≤ j → j < k → D.P.ts[j]? = some u → u.busy = false
  some_ : s ≠ 0 → m = 0 → ∃ j u, f ≤ j ∧ D.P.ts[j]? = some u ∧ u.busy = true
  le : m ≤ k ∧ s ≤ k
section
variable {own : Own} {z : Nat} {w w' : World} {pb : Nat} {D D1 D2 : PlD} {i f k m s N b : Nat} {t : PThread} {J : PlD → Prop} {T Nn E L : Int}
theorem Turning.start : Turning f N D f 0 0 D := ⟨fun n h => ⟨n, by omega, h⟩, fun _ => ⟨rfl, fun j u h1 h2 => by omega⟩, fun _ => ⟨rfl, rfl, fun j u h1 h2 => by omega⟩, fun h => absurd rfl h, by omega⟩
theorem Turning.skip (h : Turning f N D k m s D1) (hk : D1.P.ts[k]? = some t) (hb : t.busy = false) : Turning f N D (k + 1) m s D1 := by
  refine ⟨h.pot, ?_, ?_, h.some_, by have := h.le; omega⟩
  · intro hm
    obtain ⟨h1, h2⟩ := h.still hm
    refine ⟨h1, ?_⟩
    intro j u hj hjk hu hub
    rcases (show j < k ∨ j = k by omega) with e | e
    · exact h2 j u hj e hu hub
    · subst e; rw [← h1, hk] at hu; injection hu with hu; subst hu; rw [hb] at hub; cases hub
  · intro hs
    obtain ⟨h1, h2, h3⟩ := h.none_ hs
    refine ⟨h1, h2, ?_⟩
    intro j u hj hjk hu
    rcases (show j < k ∨ j = k by omega) with e | e
    · exact h3 j u hj e hu
    · subst e; rw [← h1, hk] at hu; injection hu with hu; subst hu; exact hb
theorem Turning.wait (h : Turning f N D k m s D1) (hf : f ≤ k) (hp : ∃ C, Inv C D1.P) (hk : D1.P.ts[k]? = some t) (hb : t.busy = true) (hs : Stepped D1 k t D2) (h2 : (D1.P.step k t).2 = 2) : Turning f N D (k + 1) m (s + 1) D2 := by
  obtain ⟨C, hC⟩ := hp
  have hP2 : D2.P = D1.P := by rw [hs.P, (hC.waits hk hb h2).1]
  refine ⟨?_, ?_, fun e => by omega, ?_, by have := h.le; omega⟩
  · intro n hn
    obtain ⟨n', q1, q2⟩ := h.pot n hn
    exact ⟨n', q1, (q2.wait hk hb hs h2).1⟩
  · intro hm
    obtain ⟨g1, g2⟩ := h.still hm
    refine ⟨hP2.trans g1, ?_⟩
    intro j u hj hjk hu hub
    rcases (show j < k ∨ j = k by omega) with e | e
    · exact g2 j u hj e hu hub
    · subst e; rw [← g1, hk] at hu; injection hu with hu; subst hu; rw [← g1]; exact h2
  · intro _ hm
    obtain ⟨g1, _⟩ := h.still hm
    exact ⟨k, t, hf, by rw [← g1]; exact hk, hb⟩
theorem Turning.move (h : Turning f N D k m s D1) (hk : D1.P.ts[k]? = some t) (hb : t.busy = true) (hs : Stepped D1 k t D2) (h2 : (D1.P.step k t).2 ≠ 2) : Turning f N D (k + 1) (m + 1) (s + 1) D2 := by
  refine ⟨?_, fun e => by omega, fun e => by omega, fun _ e => by omega, by have := h.le; omega⟩
  intro n hn
  obtain ⟨n', q1, q2⟩ := h.pot n hn
  obtain ⟨n'', q3, q4⟩ := q2.move hk hb hs h2
  exact ⟨n'', by omega, q4⟩
/-- A turn without a move has nothing to do. -/
theorem Turning.done (hJ : Plays f T Nn E L J) (hj : J D) (h : Turning f N D D.P.ts.length m s D1) (hm : m = 0) : s = 0 := by
  by_cases hs : s = 0
  · exact hs
  · exfalso
    obtain ⟨j, u, h1, h2, h3⟩ := h.some_ hs hm
    obtain ⟨C, hC⟩ := hJ.inv hj
    obtain ⟨j', u', g1, g2, g3, g4⟩ := hC.live h2 h3
    have hf : f ≤ j' := by
      rcases Nat.lt_or_ge j' f with hlt | hge
      · have hl := hJ.low hj hlt g1 g2
        rcases g4 with e | e
        · omega
        · omega
      · exact hge
    exact g3 ((h.still hm).2 j' u' hf (List.getElem?_eq_some_iff.1 g1).1 g1 g2)
/-- A step of a thread that is busy. -/
theorem Psteps_busy (h : PlAt own z w pb D) (hb : D.bs[i]? = some true) (ht : D.P.ts[i]? = some t) (htb : t.busy = true) (hN : D.N < 2 ^ 39) (hdl : D.deeds.length ≤ 2 ^ 38) :
    Calls Tryz.prog 56 #[pv pb, .int .i64 i] w fun r w' => r = .returned (.tuple #[.int .i64 (D.P.step i t).2, .bool true]) ∧ PlGoes own z w pb w' (Stepped D i t) := by
  by_cases h3 : (D.P.step i t).2 = 3
  · rw [h3]; exact Psteps_end h hb ht htb hN hdl h3
  · exact Psteps_on h hb ht htb hN h3
set_option maxHeartbeats 1000000 in
set_option maxRecDepth 100000 in
theorem Pturn_calls (hJ : Plays f T Nn E L J) (h : PlAt own z w pb D) (hj : J D) (hS : Sz b D) (hb : b ≤ 2 ^ 37) (hf : (f : Int) < T) :
    Calls Tryz.prog 80 #[pv pb, .int .i64 f] w fun r w' => ∃ m s : Nat, r = .returned (.tuple #[.int .i64 m, .int .i64 s, .bool true]) ∧ m ≤ 8 ∧ PlGoes own z w pb w' (fun D1 => J D1 ∧ Sz (b + 8) D1 ∧ Turning f Nn.toNat D D.P.ts.length m s D1) := by
  have hT8 := h.fit.thr
  have hTt : D.t = D.P.ts.length := h.thr
  obtain ⟨q, hq⟩ : ∃ q : Nat, Hid (q = D.P.ts.length) := ⟨_, rfl⟩
  have hTq : Hid (T = q) := by show T = q; rw [← (hJ.cfg hj).2.1, hTt, hq.out]
  have hq8 : q ≤ 8 := by have := hq.out; omega
  have hfq : f < q := by have := hTq.out; omega
  have H := (show Hid (PlAt own z w pb D ∧ J D ∧ Sz b D) from ⟨h, hj, hS⟩)
  have HJ := (show Hid (Plays f T Nn E L J) from hJ)
  have HL := (show Hid (∀ (own1 : Own) (w1 : World) (D1 : PlD), PlAt own1 z w1 pb D1 → J D1 → D1.P.ts.length = q ∧ D1.t = q) from by
    intro own1 w1 D1 h1 j1
    have h2 := h1.thr
    have h3 := (hJ.cfg j1).2.1
    have h4 := hTq.out
    have : (D1.P.ts.length : Int) = q := by rw [← h2, h3, h4]
    exact ⟨by omega, by rw [h3, h4]⟩)
  have HQ := (show Hid (∀ (w' : World) (m s : Nat), PlGoes own z w pb w' (fun D1 => J D1 ∧ Sz (b + 8) D1 ∧ Turning f Nn.toNat D q m s D1) → PlGoes own z w pb w' (fun D1 => J D1 ∧ Sz (b + 8) D1 ∧ Turning f Nn.toNat D D.P.ts.length m s D1)) from by
    intro w' m s hh; rw [hq.out] at hh; exact hh)
  clear h hj hS hT8 hTt hJ hq hTq hf
  unfold pv
  go_enter Tryz.func80, Tryz.ntmps80
  go_wp2
  go_loopw [7, 8, 9] (fun v1 v2 v3 wr => ∃ k m s : Nat, f ≤ k ∧ k ≤ q ∧ m ≤ 8 ∧ s ≤ 8 ∧ v1 = .int .i64 m ∧ v2 = .int .i64 s ∧ v3 = .int .i64 k ∧ Hid (PlGoes own z w pb wr (fun D1 => J D1 ∧ Sz (b + k) D1 ∧ Turning f Nn.toNat D k m s D1))) (fun _ _ v3 _ => q - (intOf v3).toNat)
  case atStart => exact ⟨f, 0, 0, Nat.le_refl _, by omega, by omega, by omega, rfl, rfl, rfl, own, D, H.out.1, Ext.refl _ _, Fr.refl _ _, H.out.2.1, H.out.2.2.mono (by omega), Turning.start⟩
  case round =>
    clear H
    obtain ⟨k, m, s, hfk, hkq, hm8, hs8, rfl, rfl, rfl, HG⟩ := hrel
    obtain ⟨own1, D1, hP, hE, hF, hj1, hS1, hTu⟩ := HG.out
    obtain ⟨l1, l2⟩ := HL.out own1 wr D1 hP hj1
    have HP := (show Hid (PlAt own1 z wr pb D1 ∧ J D1 ∧ Sz (b + k) D1 ∧ Turning f Nn.toNat D k m s D1) from ⟨hP, hj1, hS1, hTu⟩)
    have HX := (show Hid (Ext own own1 w ∧ FrP own z w wr) from ⟨hE, hF⟩)
    have hok : D1.ok := HJ.out.ok hj1
    by_cases hlt : k < q
    · have hkl : k < D1.P.ts.length := by omega
      have ht1 : D1.P.ts[k]? = some D1.P.ts[k] := List.getElem?_eq_getElem hkl
      generalize D1.P.ts[k] = t1 at ht1
      have hbs : D1.bs[k]? = some t1.busy := by
        have hok' : D1.bs = D1.P.ts.map (·.busy) := hok
        rw [hok', List.getElem?_map, ht1]; rfl
      obtain ⟨g, gc, hv, hc, hz, hg, hgl⟩ := hP.busyRow hbs
      have ha := hP.at_.cell
      rw [l1] at hv
      simp only [PlD.cells, hv, l2, pv] at ha
      have HT := (show Hid (D1.P.ts[k]? = some t1 ∧ D1.bs[k]? = some t1.busy) from ⟨ht1, hbs⟩)
      have hle := hTu.le
      clear hP hE hF hj1 hS1 hTu HG hok ht1 hbs hv hg
      cases hbz : t1.busy
      · rw [hbz] at hc
        have HG2 := (show Hid (PlGoes own z w pb wr (fun D1 => J D1 ∧ Sz (b + (k + 1)) D1 ∧ Turning f Nn.toNat D (k + 1) m s D1)) from ⟨own1, D1, HP.out.1, HX.out.1, HX.out.2, HP.out.2.1, HP.out.2.2.1.mono (by omega), HP.out.2.2.2.skip HT.out.1 hbz⟩)
        clear HT hbz
        go_wp2
        go_roundw
        case rel => exact ⟨k + 1, m, s, by omega, by omega, hm8, hs8, rfl, rfl, by go_num, HG2⟩
        case measure => simp [intOf]; omega
      · rw [hbz] at hc
        have HT2 := (show Hid (t1.busy = true ∧ D1.bs[k]? = some true) from ⟨hbz, by rw [← hbz]; exact HT.out.2⟩)
        clear hbz
        have HN := (show Hid (D1.N < 2 ^ 39 ∧ D1.deeds.length ≤ 2 ^ 38) from by have := HP.out.2.2.1; unfold Sz at this; exact ⟨by omega, by omega⟩)
        go_wp2_with fail
        refine (Psteps_busy HP.out.1 HT2.out.2 HT.out.1 HT2.out.1 HN.out.1 HN.out.2).mono ?_
        rintro r w2 ⟨rfl, own2, D2, hP2, hE2, hF2, hS2⟩
        have HS2 := (show Hid (PlGoes own z w pb w2 (fun D2 => J D2 ∧ Sz (b + (k + 1)) D2 ∧ Stepped D1 k t1 D2)) from PlGoes.trans HX.out.1 HX.out.2 ⟨own2, D2, hP2, hE2, hF2, HJ.out.step HP.out.2.1 HP.out.1.fit HT.out.1 HT2.out.1 hfk hS2, HP.out.2.2.1.step hS2, hS2⟩)
        have hrg := (HP.out.1.fit.turn HT.out.1 HT2.out.1).how
        clear hP2 hE2 hF2 hS2 ha hc hz
        by_cases h2 : (D1.P.step k t1).2 = 2
        · have HG2 := (show Hid (PlGoes own z w pb w2 (fun D2 => J D2 ∧ Sz (b + (k + 1)) D2 ∧ Turning f Nn.toNat D (k + 1) m (s + 1) D2)) from by
            obtain ⟨o, d, y1, y2, y3, y4, y5, y6⟩ := HS2.out
            exact ⟨o, d, y1, y2, y3, y4, y5, HP.out.2.2.2.wait hfk (HJ.out.inv HP.out.2.1) HT.out.1 HT2.out.1 y6 h2⟩)
          rw [h2]
          clear h2 HS2 hrg
          go_wp2
          go_roundw
          case rel => exact ⟨k + 1, m, s + 1, by omega, by omega, hm8, by omega, rfl, by go_num, by go_num, HG2⟩
          case measure => simp [intOf]; omega
        · have HG2 := (show Hid (PlGoes own z w pb w2 (fun D2 => J D2 ∧ Sz (b + (k + 1)) D2 ∧ Turning f Nn.toNat D (k + 1) (m + 1) (s + 1) D2)) from by
            obtain ⟨o, d, y1, y2, y3, y4, y5, y6⟩ := HS2.out
            exact ⟨o, d, y1, y2, y3, y4, y5, HP.out.2.2.2.move HT.out.1 HT2.out.1 y6 h2⟩)
          generalize (D1.P.step k t1).2 = hw at h2 hrg ⊢
          have h2' : (hw == 2) = false := by simpa using h2
          clear HS2 h2
          go_wp2
          go_roundw
          case rel => exact ⟨k + 1, m + 1, s + 1, by omega, by omega, by omega, by omega, by go_num, by go_num, by go_num, HG2⟩
          case measure => simp [intOf]; omega
    · have hkq' : Hid (k = q) := by show k = q; omega
      have ha := hP.at_.cell
      simp only [PlD.cells, l2, pv] at ha
      have HF := (show Hid (PlGoes own z w pb wr (fun D1 => J D1 ∧ Sz (b + 8) D1 ∧ Turning f Nn.toNat D q m s D1)) from ⟨own1, D1, hP, hE, hF, hj1, hS1.mono (by omega), by rw [← hkq'.out]; exact hTu⟩)
      clear hP hE hF hj1 hS1 hTu HG hok HP HX
      go_wp2
      go_ret3
      exact ⟨m, s, rfl, hm8, HQ.out _ _ _ HF.out⟩
end
end Go.Proofs.YtfccelbmacjifaaGreat

set_option linter.unusedSimpArgs false
namespace Go.Proofs.YtfccelbmacjifaaGreat
open Go.RowKit
section
variable {own : Own} {z : Nat} {w w' : World} {pb : Nat} {D D1 D2 : PlD} {i f k m s N b : Nat} {t : PThread} {J : PlD → Prop} {T Nn E L : Int}
theorem Plays.pot (hJ : Plays f T Nn E L J) (hj : J D) (hT : (D.P.ts.length : Int) = T) (hN : 0 ≤ Nn) : Pot Nn.toNat D (T * (T + 2) * (Nn + 16)).toNat := by
  obtain ⟨C, hC⟩ := hJ.inv hj
  refine ⟨C, hC, hJ.len hj, ?_⟩
  have := hC.bound Nn.toNat
  have e : (T * (T + 2) * (Nn + 16)).toNat = D.P.ts.length * ((D.P.ts.length + 2) * (Nn.toNat + 16)) := by
    rw [← hT]
    have : ((D.P.ts.length : Int) * (D.P.ts.length + 2) * (Nn + 16)) = ((D.P.ts.length * ((D.P.ts.length + 2) * (Nn.toNat + 16)) : Nat) : Int) := by
      rw [← Nat.mul_assoc]
      simp only [Int.natCast_mul, Int.natCast_add]
      rw [Int.toNat_of_nonneg hN]; rfl
    rw [this]; rfl
  rw [e]; exact this
/-- Nothing is under way from the f-th thread on. -/
def Still (f : Nat) (D : PlD) : Prop := ∀ j u, f ≤ j → D.P.ts[j]? = some u → u.busy = false
theorem most_le {T Nn : Int} (hT : 1 ≤ T ∧ T ≤ 8) (hN : 0 ≤ Nn ∧ Nn ≤ 64) : (0 ≤ T * (T + 2) ∧ T * (T + 2) ≤ 80) ∧ 0 ≤ T * (T + 2) * (Nn + 16) ∧ T * (T + 2) * (Nn + 16) ≤ 6400 := by
  have h1 : T * (T + 2) ≤ 8 * 10 := Int.mul_le_mul hT.2 (by omega) (by omega) (by omega)
  have h2 : 0 ≤ T * (T + 2) := Int.mul_nonneg (by omega) (by omega)
  have h3 : T * (T + 2) * (Nn + 16) ≤ 80 * 80 := Int.mul_le_mul (by omega) (by omega) (by omega) (by omega)
  have h4 : 0 ≤ T * (T + 2) * (Nn + 16) := Int.mul_nonneg h2 (by omega)
  omega
set_option maxHeartbeats 1000000 in
set_option maxRecDepth 100000 in
theorem Pfinish_calls (hJ : Plays f T Nn E L J) (h : PlAt own z w pb D) (hj : J D) (hS : Sz b D) (hb : b ≤ 2 ^ 36) (hf : (f : Int) < T) (hNn : 0 ≤ Nn ∧ Nn ≤ 64) :
    Calls Tryz.prog 48 #[pv pb, .int .i64 f] w fun r w' => r = .returned (.bool true) ∧ PlGoes own z w pb w' (fun D1 => J D1 ∧ Sz (b + 60000) D1 ∧ Still f D1) := by
  have hT8 := h.fit.thr
  have hTt : D.t = D.P.ts.length := h.thr
  have hT1 : (1 : Int) ≤ T ∧ T ≤ 8 := by have := (hJ.cfg hj).2.1; omega
  obtain ⟨⟨m1, m2⟩, m3, m4⟩ := most_le hT1 hNn
  obtain ⟨n1, n2⟩ := hNn
  obtain ⟨t1, t2⟩ := hT1
  have hpot := hJ.pot hj (by rw [← hTt]; exact (hJ.cfg hj).2.1) n1
  have H := (show Hid (PlAt own z w pb D ∧ J D ∧ Sz b D) from ⟨h, hj, hS⟩)
  have HJ := (show Hid (Plays f T Nn E L J) from hJ)
  have HF := (show Hid ((f : Int) < T) from hf)
  have ha := h.at_.cell
  simp only [PlD.cells, (hJ.cfg hj).2.1, (hJ.cfg hj).2.2.1, pv] at ha
  obtain ⟨M, hM⟩ : ∃ M : Nat, Hid (T * (T + 2) * (Nn + 16) = M) := ⟨(T * (T + 2) * (Nn + 16)).toNat, by show _ = _; omega⟩
  have hM6 : M ≤ 6400 := by have := hM.out; omega
  have HPot := (show Hid (Pot Nn.toNat D M) from by
    show Pot Nn.toNat D M
    rw [hM.out] at hpot; simpa using hpot)
  clear h hj hS hT8 hTt hJ hf hpot
  unfold pv
  go_enter Tryz.func48, Tryz.ntmps48
  go_wp2
  go_region
  rw [hM.out]
  have HD := (show Hid (PlAt own z w.drew pb D) from H.out.1.calm ((Fr.refl _ _).drew))
  have HW := (show Hid (FrP own z w w.drew) from (Fr.refl _ _).drew)
  clear ha
  generalize w.drew = w0 at HD HW ⊢
  go_wp2
  go_loopw [6] (fun v wr => ∃ j : Nat, j ≤ M ∧ v = .int .i64 j ∧ Hid (PlGoes own z w pb wr (fun D1 => J D1 ∧ Sz (b + 8 * j) D1 ∧ ∃ n, n + j ≤ M ∧ Pot Nn.toNat D1 n))) (fun v _ => M + 1 - (intOf v).toNat)
  case atStart => exact ⟨0, by omega, rfl, own, D, HD.out, Ext.refl _ _, HW.out, H.out.2.1, H.out.2.2, M, by omega, HPot.out⟩
  case round =>
    clear H HD HW HPot
    obtain ⟨j, hjM, rfl, HG⟩ := hrel
    obtain ⟨own1, D1, hP, hE, hF, hj1, hS1, n, hn, hpt⟩ := HG.out
    have HP := (show Hid (PlAt own1 z wr pb D1 ∧ J D1 ∧ Sz (b + 8 * j) D1 ∧ n + j ≤ M ∧ Pot Nn.toNat D1 n) from ⟨hP, hj1, hS1, hn, hpt⟩)
    have HX := (show Hid (Ext own own1 w ∧ FrP own z w wr) from ⟨hE, hF⟩)
    clear hP hE hF hj1 hS1 hn hpt HG
    have HB := (show Hid (b + 8 * j ≤ 2 ^ 37) from by show b + 8 * j ≤ 2 ^ 37; omega)
    go_wp2_with fail
    refine (Pturn_calls HJ.out HP.out.1 HP.out.2.1 HP.out.2.2.1 HB.out HF.out).mono ?_
    rintro r w2 ⟨mm, ss, rfl, hm8, own2, D2, hP2, hE2, hF2, hj2, hS2, hTu⟩
    have HG2 := (show Hid (PlGoes own z w pb w2 (fun D2 => J D2 ∧ Sz (b + 8 * (j + 1)) D2 ∧ Turning f Nn.toNat D1 D1.P.ts.length mm ss D2)) from PlGoes.trans HX.out.1 HX.out.2 ⟨own2, D2, hP2, hE2, hF2, hj2, hS2.mono (by omega), hTu⟩)
    clear hP2 hE2 hF2 hj2 hS2 hTu hm8
    by_cases hs : ss = 0
    · have HR := (show Hid (PlGoes own z w pb w2 (fun D1 => J D1 ∧ Sz (b + 60000) D1 ∧ Still f D1)) from by
        obtain ⟨o, d, y1, y2, y3, y4, y5, y6⟩ := HG2.out
        obtain ⟨z1, z2, z3⟩ := y6.none_ hs
        refine ⟨o, d, y1, y2, y3, y4, y5.mono (by omega), ?_⟩
        intro q u hq hu
        rw [z1] at hu
        exact z3 q u hq (List.getElem?_eq_some_iff.1 hu).1 hu)
      subst hs
      clear HG2
      go_wp2
      go_ret
      exact ⟨rfl, HR.out⟩
    · have hm : mm ≠ 0 := by
        intro e
        obtain ⟨o, d, y1, y2, y3, y4, y5, y6⟩ := HG2.out
        exact hs (y6.done HJ.out HP.out.2.1 e)
      have HG3 := (show Hid (j + 1 ≤ M ∧ PlGoes own z w pb w2 (fun D2 => J D2 ∧ Sz (b + 8 * (j + 1)) D2 ∧ ∃ n, n + (j + 1) ≤ M ∧ Pot Nn.toNat D2 n)) from by
        obtain ⟨o, d, y1, y2, y3, y4, y5, y6⟩ := HG2.out
        obtain ⟨n', q1, q2⟩ := y6.pot n HP.out.2.2.2.2
        have := HP.out.2.2.2.1
        exact ⟨by omega, o, d, y1, y2, y3, y4, y5, n', by omega, q2⟩)
      have hs' : ((ss : Int) == 0) = false := by simp; exact hs
      have hm' : ((mm : Int) == 0) = false := by simp; exact hm
      have hj1 := HG3.out.1
      have HG4 := (show Hid (PlGoes own z w pb w2 (fun D2 => J D2 ∧ Sz (b + 8 * (j + 1)) D2 ∧ ∃ n, n + (j + 1) ≤ M ∧ Pot Nn.toNat D2 n)) from HG3.out.2)
      clear HG2 HG3 hs hm
      go_wp2
      go_roundw
      case rel => exact ⟨j + 1, hj1, by go_num, HG4⟩
      case measure => simp [intOf]; omega
end
end Go.Proofs.YtfccelbmacjifaaGreat

set_option linter.unusedSimpArgs false
namespace Go.Proofs.YtfccelbmacjifaaGreat
open Go.RowKit
section
variable {own : Own} {z : Nat} {w w' : World} {pb : Nat} {D D1 D2 : PlD} {i f k m s N b : Nat} {t : PThread} {J : PlD → Prop} {T Nn E L : Int}
theorem Plays.busy (hJ : Plays f T Nn E L J) (hj : J D) (hi : i < D.P.ts.length) : ∃ t, D.P.ts[i]? = some t ∧ D.bs[i]? = some t.busy := by
  have ht : D.P.ts[i]? = some D.P.ts[i] := List.getElem?_eq_getElem hi
  refine ⟨D.P.ts[i], ht, ?_⟩
  have hok : D.bs = D.P.ts.map (·.busy) := hJ.ok hj
  rw [hok, List.getElem?_map, ht]; rfl
/-- A step of any thread. -/
theorem Psteps_any (hJ : Plays f T Nn E L J) (h : PlAt own z w pb D) (hj : J D) (hS : Sz b D) (hb : b ≤ 2 ^ 37) (hi : i < D.P.ts.length) (hf : f ≤ i) :
    ∃ how : Int, 0 ≤ how ∧ how ≤ 3 ∧ Calls Tryz.prog 56 #[pv pb, .int .i64 i] w fun r w' => r = .returned (.tuple #[.int .i64 how, .bool true]) ∧ PlGoes own z w pb w' (fun D1 => J D1 ∧ Sz (b + 1) D1) := by
  obtain ⟨t, ht, hbs⟩ := hJ.busy hj hi
  cases hbz : t.busy
  · rw [hbz] at hbs
    refine ⟨0, by omega, by omega, (Psteps_idle h hbs ht hbz).mono ?_⟩
    rintro r w1 ⟨rfl, rfl⟩
    exact ⟨rfl, own, D, h, Ext.refl _ _, Fr.refl _ _, hj, hS.mono (by omega)⟩
  · rw [hbz] at hbs
    have hrg := (h.fit.turn ht hbz).how
    refine ⟨(D.P.step i t).2, by omega, by omega, (Psteps_busy h hbs ht hbz (by unfold Sz at hS; omega) (by unfold Sz at hS; omega)).mono ?_⟩
    rintro r w1 ⟨rfl, own1, D1, hP, hE, hF, hs⟩
    exact ⟨rfl, own1, D1, hP, hE, hF, hJ.step hj h.fit ht hbz hf hs, hS.step hs⟩
/-- A step of the sweep. -/
theorem Psweep_any (hJ : Plays f T Nn E L J) (h : PlAt own z w pb D) (hj : J D) (hS : Sz b D) :
    ∃ how : Int, 1 ≤ how ∧ how ≤ 3 ∧ Calls Tryz.prog 73 #[pv D.L.s] w fun r w' => r = .returned (.int .i64 how) ∧ PlGoes own z w pb w' (fun D1 => J D1 ∧ Sz b D1) := by
  have hrg : 1 ≤ D.P.doSweep.2 ∧ D.P.doSweep.2 ≤ 3 := by
    unfold PSt.doSweep
    simp only
    split
    · simp
    · split
      · split <;> simp
      · split <;> simp
  refine ⟨D.P.doSweep.2, hrg.1, hrg.2, (ZSweep_fit h.st h.fit).mono ?_⟩
  rintro r w2 ⟨rfl, hG⟩
  have hf := (h.fit.sweep h.st.mem.nsmall).1
  obtain ⟨own2, L2, hP2, hE2, hF2, e2⟩ := h.store hG hf (by rw [sweep_ts])
  exact ⟨rfl, own2, _, hP2, hE2, hF2, hJ.sweep L2 hj, hS⟩
set_option maxHeartbeats 1000000 in
set_option maxRecDepth 100000 in
theorem Pruns_calls (hJ : Plays f T Nn E L J) (h : PlAt own z w pb D) (hj : J D) (hS : Sz b D) (hb : b ≤ 2 ^ 36) (hi : (i : Int) < T) (hf : f ≤ i) (n : Nat) (hn : n ≤ 40) :
    Calls Tryz.prog 86 #[pv pb, .int .i64 i, .int .i64 n] w fun r w' => r = .returned (.bool true) ∧ PlGoes own z w pb w' (fun D1 => J D1 ∧ Sz (b + 40) D1) := by
  have H := (show Hid (PlAt own z w pb D ∧ J D ∧ Sz b D) from ⟨h, hj, hS⟩)
  have HJ := (show Hid (Plays f T Nn E L J) from hJ)
  have hT8 : T ≤ 8 := by have := (hJ.cfg hj).2.1; have := h.thr; have := h.fit.thr; omega
  have HI := (show Hid (∀ (own1 : Own) (w1 : World) (D1 : PlD), PlAt own1 z w1 pb D1 → J D1 → i < D1.P.ts.length) from by
    intro own1 w1 D1 h1 j1
    have h2 := h1.thr
    have h3 := (hJ.cfg j1).2.1
    omega)
  clear h hj hS hJ
  unfold pv
  go_enter Tryz.func86, Tryz.ntmps86
  go_wp2
  go_loopw [7] (fun v wr => ∃ k : Nat, k ≤ n ∧ v = .int .i64 k ∧ Hid (PlGoes own z w pb wr (fun D1 => J D1 ∧ Sz (b + k) D1))) (fun v _ => n - (intOf v).toNat)
  case atStart => exact ⟨0, by omega, rfl, own, D, H.out.1, Ext.refl _ _, Fr.refl _ _, H.out.2.1, H.out.2.2⟩
  case round =>
    clear H
    obtain ⟨k, hkn, rfl, HG⟩ := hrel
    obtain ⟨own1, D1, hP, hE, hF, hj1, hS1⟩ := HG.out
    have HP := (show Hid (PlAt own1 z wr pb D1 ∧ J D1 ∧ Sz (b + k) D1) from ⟨hP, hj1, hS1⟩)
    have HX := (show Hid (Ext own own1 w ∧ FrP own z w wr) from ⟨hE, hF⟩)
    have hil := HI.out own1 wr D1 hP hj1
    obtain ⟨t1, ht1, hbs⟩ := HJ.out.busy hj1 hil
    obtain ⟨g, gc, hv, hc, hz, hg, hgl⟩ := hP.busyRow hbs
    have ha := hP.at_.cell
    simp only [PlD.cells, hv, pv] at ha
    have HE := (show Hid (PlGoes own z w pb wr (fun D1 => J D1 ∧ Sz (b + 40) D1)) from ⟨own1, D1, hP, hE, hF, hj1, hS1.mono (by omega)⟩)
    have HB := (show Hid (i < D1.P.ts.length) from hil)
    clear hP hE hF hj1 hS1 HG ht1 hbs hv hg
    by_cases hlt : k < n
    · cases hbz : t1.busy
      · rw [hbz] at hc
        clear hbz
        go_wp2
        go_ret
        exact ⟨rfl, HE.out⟩
      · rw [hbz] at hc
        clear hbz
        obtain ⟨how, h0, h3, hcall⟩ := Psteps_any HJ.out HP.out.1 HP.out.2.1 HP.out.2.2 (by omega) HB.out hf
        have HC := (show Hid (Calls _ _ _ _ _) from hcall)
        clear hcall
        unfold pv at HC
        go_wp2_with fail
        refine Calls.mono HC.out ?_
        rintro r w2 ⟨rfl, own2, D2, hP2, hE2, hF2, hj2, hS2⟩
        have HG2 := (show Hid (PlGoes own z w pb w2 (fun D2 => J D2 ∧ Sz (b + (k + 1)) D2)) from PlGoes.trans HX.out.1 HX.out.2 ⟨own2, D2, hP2, hE2, hF2, hj2, hS2⟩)
        have HE2 := (show Hid (PlGoes own z w pb w2 (fun D2 => J D2 ∧ Sz (b + 40) D2)) from PlGoes.trans HX.out.1 HX.out.2 ⟨own2, D2, hP2, hE2, hF2, hj2, hS2.mono (by omega)⟩)
        clear hP2 hE2 hF2 hj2 hS2 ha hc hz HC HE
        by_cases h2 : how = 2
        · subst h2
          go_wp2
          go_ret
          exact ⟨rfl, HE2.out⟩
        · have h2' : (how == 2) = false := by simpa using h2
          clear h2
          go_wp2
          go_roundw
          case rel => exact ⟨k + 1, by omega, by go_num, HG2⟩
          case measure => simp [intOf]; omega
    · go_wp2
      go_ret
      exact ⟨rfl, HE.out⟩
end
end Go.Proofs.YtfccelbmacjifaaGreat

set_option linter.unusedSimpArgs false
namespace Go.Proofs.YtfccelbmacjifaaGreat
open Go.RowKit
section
variable {w w1 : World} {i : Nat}
theorem ActIn.keep {sa : Option Addr} {a : ActD} (h : ActIn w sa i a) (hf : Fr (fun _ => False) w w1) : ActIn w1 sa i a := by
  obtain ⟨b, off, e, h1, h2, h3⟩ := h
  exact ⟨b, off, e, fun j v hj => hf.keepCell (h1 j v hj), h2.keep hf, h3⟩
theorem OwnSpans.keep {w0 : World} {v : Value} {sp : List (Int × Int)} (h : OwnSpans w0 w v sp) (hf : Fr (fun _ => False) w w1) : OwnSpans w0 w1 v sp := ⟨hf.owns h.row (fun _ _ h => h), h.new, h.fr.trans hf⟩
end
end Go.Proofs.YtfccelbmacjifaaGreat

set_option linter.unusedSimpArgs false
namespace Go.Proofs.YtfccelbmacjifaaGreat
open Go.RowKit
section
variable {own : Own} {z : Nat} {w w1 w' : World} {pb : Nat} {D D1 D2 : PlD} {i f k m s N b : Nat} {t : PThread} {J : PlD → Prop} {T Nn E L : Int}
theorem PlAt.boxes (h : PlAt own z w pb D) (hf : Fr (fun _ => False) w w1) {v : Value} {sp : List (Int × Int)} {w0 : World} (hO : OwnSpans w0 w1 v sp) (hw : w.heap.size ≤ w0.heap.size) (o : OpV) (h1 : o.sv = v) (h2 : o.spans = sp) : ∃ own1, PlAt own1 z w1 pb D ∧ Ext own own1 w ∧ OpOk own1 (z + 1) w1 o := by
  obtain ⟨own1, ho⟩ : ∃ own1 : Own, own1 = fun k => if k < w.heap.size then own k else if v.ownBlock = some k then ⟨z + 1, .oth 5⟩ else ⟨z + 7, .store⟩ := ⟨_, rfl⟩
  have hE : Ext own own1 w := fun k hk => by rw [ho]; simp [hk]
  refine ⟨own1, h.fr hf hE (fun _ _ h => h), hE, ⟨?_, ?_⟩⟩
  · rw [h1, h2]; exact hO.row
  · rw [h1]
    intro k hk
    have := hO.new k hk
    rw [ho]; simp [show ¬ k < w.heap.size by omega, hk]
theorem Plays.beginAny (hJ : Plays f T Nn E L J) (hj : J D) (hS : Sz b D) (ht : D.P.ts[i]? = some t) (hf : f ≤ i) {o : OpV} (hB : Begun D i t o D1) : J D1 ∧ Sz (b + 1) D1 := ⟨hJ.begin hj ht hf hB, hS.begin hB⟩
set_option maxHeartbeats 2000000 in
set_option maxRecDepth 100000 in
theorem Pact_calls (hJ : Plays f T Nn E L J) (h : PlAt own z w pb D) (hj : J D) (hS : Sz b D) (hb : b ≤ 2 ^ 35) (hf : (f : Int) < T) (a : ActD) (hsp : Spans w a.sa a.sn a.ps) (hsn : a.sn ≤ 2 ^ 20) (hm : -9223372036854775808 ≤ a.m ∧ a.m ≤ 9223372036854775807) (htt : -9223372036854775808 ≤ a.tt ∧ a.tt ≤ 9223372036854775807) :
    Calls Tryz.prog 57 #[pv pb, actVal a, .int .i64 f] w fun r w' => r = .returned (.bool true) ∧ PlGoes own z w pb w' (fun D1 => J D1 ∧ Sz (b + 400) D1) := by
  obtain ⟨kd, tt, o, ky, va, m, psa, psn, psc, sps⟩ := a
  simp only at hsp hsn hm htt
  obtain rfl : sps.length = psn := hsp.1
  have hT8 : T ≤ 8 := by have := (hJ.cfg hj).2.1; have := h.thr; have := h.fit.thr; omega
  have hE0 : Ext own (own.put w.heap.size (z + 7) .store) w := Ext.put (Nat.le_refl _) _ _
  obtain ⟨own0, hown0⟩ : ∃ own0, own0 = own.put w.heap.size (z + 7) .store := ⟨_, rfl⟩
  rw [← hown0] at hE0
  have hz0 : own0 w.heap.size = ⟨z + 7, .store⟩ := by rw [hown0]; simp [Own.put]
  generalize hw1 : w.alloc (.cells #[.int .i64 kd, .int .i64 tt, .int .i64 o, .int .i64 ky, .int .i64 va, .int .i64 m, .slice psa sps.length psc] 34) = w1
  have hf1 : Fr (fun _ => False) w w1 := by rw [← hw1]; exact (Fr.refl _ _).alloc _
  have hA1 : At w1 w.heap.size [.int .i64 kd, .int .i64 tt, .int .i64 o, .int .i64 ky, .int .i64 va, .int .i64 m, .slice psa sps.length psc] 34 := by rw [← hw1]; exact At.new w _ _
  have H1 := (show Hid (PlAt own0 z w1 pb D ∧ J D ∧ Sz b D) from ⟨h.fr hf1 hE0 (fun _ _ h => h), hj, hS⟩)
  have HX := (show Hid (Ext own own0 w ∧ FrP own z w w1 ∧ own0 w.heap.size = ⟨z + 7, .store⟩) from ⟨hE0, Fr.mono hf1 (fun _ _ h => h.elim), hz0⟩)
  have HA1 := (show Hid (At w1 w.heap.size _ 34) from hA1)
  have HSp := (show Hid (Spans w1 psa sps.length sps ∧ sps.length ≤ 2 ^ 20) from ⟨hsp.keep hf1, hsn⟩)
  have HJ := (show Hid (Plays f T Nn E L J) from hJ)
  have HM := (show Hid (-9223372036854775808 ≤ m ∧ m ≤ 9223372036854775807) from hm)
  have hp := pickN_in (c := tt) (n := T - f) (by omega)
  obtain ⟨p, hpp⟩ : ∃ p : Nat, Hid (pickN tt (T - f) = p) := ⟨(pickN tt (T - f)).toNat, by show _ = _; omega⟩
  have hpT : (f : Int) + p < T := by rw [← hpp.out]; omega
  have HPk := (show Hid (∀ w, Calls Tryz.prog 31 #[.int .i64 tt, .int .i64 (T - f)] w fun r w' => r = .returned (.int .i64 p) ∧ w' = w) from by
    rw [← hpp.out]
    exact lpick_calls tt (T - f) htt ⟨by omega, by omega⟩)
  have HI := (show Hid (∀ (own1 : Own) (w1 : World) (D1 : PlD), PlAt own1 z w1 pb D1 → J D1 → f + p < D1.P.ts.length) from by
    intro own1 w1 D1 h1 j1
    have h2 := h1.thr
    have h3 := (hJ.cfg j1).2.1
    omega)
  have hct := (hJ.cfg hj).2.1
  clear h hj hS hJ hE0 hown0 hz0 hf1 hA1 hsp hsn hm htt hp
  unfold pv actVal
  go_enter Tryz.func57, Tryz.ntmps57
  go_wp2_with fail
  try rw [hw1]
  clear hw1
  refine wp_region_calm [10] 0 rfl (by kernel_rfl) (by kernel_rfl) (by kernel_rfl) (by decide) (by kernel_rfl) (by decide) ?_
  intro U V hU hV
  have hau : ∀ u q, (V u).cell? ⟨w.heap.size, q, none⟩ = [Value.int .i64 kd, .int .i64 tt, .int .i64 o, .int .i64 ky, .int .i64 va, .int .i64 m, .slice psa sps.length psc][q]? := fun u => ((hV u).at HA1.out (fun h => h)).cell
  have hpu : ∀ u, (V u).cell? ⟨pb, 2, none⟩ = some (.int .i64 T) := fun u => by
    have := ((hV u).at H1.out.1.at_ (fun h => h)).cell 2
    simp only [PlD.cells, hct] at this
    exact this
  clear hV
  repeat (refine mix_read rfl rfl ?_; go_big_quiet_step (fail); refine wpQuiet_nil ?_)
  refine mix_effC (.int .i64 p) rfl rfl rfl ?_ ?_
  · intro w' hw'
    go_simp
    refine Calls.mono (HPk.out w') ?_
    rintro r w'' ⟨rfl, rfl⟩
    exact ⟨rfl, hw'⟩
  go_simp
  repeat (refine mix_read rfl rfl ?_; go_big_quiet_step (fail); refine wpQuiet_nil ?_)
  refine mix_nil ?_
  intro w2 hw2
  have H2 := (show Hid (PlAt own0 z w2 pb D) from H1.out.1.calm hw2)
  have HA2 := (show Hid (At w2 w.heap.size _ 34) from hw2.at HA1.out (fun h => h))
  have HX2 := (show Hid (FrP own z w w2) from Fr.trans HX.out.2.1 (Fr.mono hw2 (fun _ _ h => h.elim)))
  have HSp2 := (show Hid (Spans w2 psa sps.length sps) from HSp.out.1.keep hw2)
  clear hw2 hau hpu HPk
  have HFin := (show Hid (∀ (own3 : Own) (w3 w4 : World), Ext own0 own3 w2 → FrP own0 z w2 w3 → ∀ b', b' ≤ b + 400 → PlGoes own3 z w3 pb w4 (fun D1 => J D1 ∧ Sz b' D1) → PlGoes own z w pb w4 (fun D1 => J D1 ∧ Sz (b + 400) D1)) from by
    intro own3 w3 w4 he hf b' hb' hg
    have hsz : w.heap.size ≤ w2.heap.size := HX2.out.size
    obtain ⟨o5, d5, y1, y2, y3, y4, y5⟩ := PlGoes.trans (Ext.trans HX.out.1 he hsz) (FrP.trans HX2.out HX.out.1 hf) hg
    exact ⟨o5, d5, y1, y2, y3, y4, y5.mono hb'⟩)
  have hac := HA2.out.cell
  by_cases h1 : kd = 1
  · subst h1
    have HOp := (show Hid (Calls _ _ _ _ _) from opOf_calls ⟨1, tt, o, ky, va, m, psa, sps.length, psc, sps⟩ w2 HSp2.out HSp.out.2)
    simp only [actVal] at HOp
    go_wp2_with fail
    refine Calls.mono HOp.out ?_
    rintro r w4 ⟨xa, xc, rfl, hO⟩
    have HO := (show Hid (OwnSpans w2 w4 _ sps) from hO)
    clear hO HOp hac
    simp only [opVal]
    go_wp2_with fail
    generalize hw5 : World.alloc _ _ = w5
    have hf5 : Fr (fun _ => False) w4 w5 := by rw [← hw5]; exact (Fr.refl _ _).alloc _
    clear hw5
    have hf25 := HO.out.fr.trans hf5
    obtain ⟨own5, hP5, hE5, hop5⟩ := H2.out.boxes hf25 (HO.out.keep hf5) (Nat.le_refl _) ⟨o, ky, va, sps, .slice xa sps.length xc⟩ rfl rfl
    have hil := HI.out own5 w5 D hP5 H1.out.2.1
    obtain ⟨t1, ht1, _⟩ := HJ.out.busy H1.out.2.1 hil
    have hS := H1.out.2.2
    have HB := (show Hid (Calls _ _ _ _ _) from Pbegins_calls hP5 (HJ.out.ok H1.out.2.1) ht1 o ky va sps xa xc hop5 (by have := HSp.out.2; omega) (by unfold Sz at hS; omega))
    have HT := (show Hid (D.P.ts[f + p]? = some t1) from ht1)
    have HE5 := (show Hid (Ext own0 own5 w2 ∧ FrP own0 z w2 w5) from ⟨hE5, Fr.mono hf25 (fun _ _ h => h.elim)⟩)
    clear hf5 hf25 hP5 hE5 hop5 hil ht1 hS
    unfold pv opVal at HB
    simp only [Int.natCast_add] at HB
    go_wp2_with fail
    refine Calls.mono HB.out ?_
    rintro r w6 ⟨rfl, own6, D6, hP6, hE6, hF6, hB6⟩
    have HR := (show Hid (PlGoes own z w pb w6 (fun D1 => J D1 ∧ Sz (b + 400) D1)) from HFin.out own5 w5 w6 HE5.out.1 HE5.out.2 (b + 1) (by omega) ⟨own6, D6, hP6, hE6, hF6, HJ.out.beginAny H1.out.2.1 H1.out.2.2 HT.out (by omega) hB6⟩)
    clear hP6 hE6 hF6 hB6
    go_wp2
    go_ret
    exact ⟨rfl, HR.out⟩
  · have h1' : (kd == 1) = false := by simpa using h1
    by_cases h2 : kd = 2
    · subst h2
      obtain ⟨how, q0, q3, hcall⟩ := Psteps_any HJ.out H2.out H1.out.2.1 H1.out.2.2 (by omega) (HI.out _ _ _ H2.out H1.out.2.1) (show f ≤ f + p by omega)
      have HC := (show Hid (Calls _ _ _ _ _) from hcall)
      clear hcall h1
      unfold pv at HC
      simp only [Int.natCast_add] at HC
      go_wp2_with fail
      refine Calls.mono HC.out ?_
      rintro r w6 ⟨rfl, hg⟩
      have HR := (show Hid (PlGoes own z w pb w6 (fun D1 => J D1 ∧ Sz (b + 400) D1)) from HFin.out own0 w2 w6 (Ext.refl _ _) (Fr.refl _ _) (b + 1) (by omega) hg)
      clear hg
      go_wp2
      go_ret
      exact ⟨rfl, HR.out⟩
    · have h2' : (kd == 2) = false := by simpa using h2
      by_cases h3 : kd = 3
      · subst h3
        clear h1 h2
        have hp4 := pickN_in (c := m) (n := 40) (by omega)
        obtain ⟨q, hqq⟩ : ∃ q : Nat, Hid (pickN m 40 = q) := ⟨(pickN m 40).toNat, by show _ = _; omega⟩
        have hq40 : q < 40 := by have := hqq.out; omega
        have HPk := (show Hid (∀ w, Calls Tryz.prog 31 #[.int .i64 m, .int .i64 40] w fun r w' => r = .returned (.int .i64 q) ∧ w' = w) from by
          rw [← hqq.out]
          exact lpick_calls m 40 HM.out ⟨by omega, by omega⟩)
        have HC := (show Hid (Calls _ _ _ _ _) from Pruns_calls HJ.out H2.out H1.out.2.1 H1.out.2.2 (by omega) (i := f + p) (by simp only [Int.natCast_add]; exact hpT) (by omega) (1 + q) (by omega))
        unfold pv at HC
        simp only [Int.natCast_add] at HC
        clear hp4
        go_wp2_with fail
        refine Calls.mono (HPk.out w2) ?_
        rintro r w3 ⟨rfl, rfl⟩
        go_wp2_with fail
        refine Calls.mono HC.out ?_
        rintro r w6 ⟨rfl, hg⟩
        have HR := (show Hid (PlGoes own z w pb w6 (fun D1 => J D1 ∧ Sz (b + 400) D1)) from HFin.out own0 _ w6 (Ext.refl _ _) (Fr.refl _ _) (b + 40) (by omega) hg)
        clear hg
        go_wp2
        go_ret
        exact ⟨rfl, HR.out⟩
      · have h3' : (kd == 3) = false := by simpa using h3
        by_cases h4 : kd = 4
        · subst h4
          clear h1 h2 h3
          have hp4 := pickN_in (c := m) (n := 40) (by omega)
          obtain ⟨q, hqq⟩ : ∃ q : Nat, Hid (pickN m 40 = q) := ⟨(pickN m 40).toNat, by show _ = _; omega⟩
          have hq40 : q < 40 := by have := hqq.out; omega
          have HPk := (show Hid (∀ w, Calls Tryz.prog 31 #[.int .i64 m, .int .i64 40] w fun r w' => r = .returned (.int .i64 q) ∧ w' = w) from by
            rw [← hqq.out]
            exact lpick_calls m 40 HM.out ⟨by omega, by omega⟩)
          have HFt := (show Hid ((f : Int) < T) from hf)
          clear hp4 hf
          go_wp2
          clear hac
          go_loopw [11] (fun v wr => ∃ j : Nat, j ≤ q + 1 ∧ v = .int .i64 j ∧ Hid (PlGoes own0 z w2 pb wr (fun D1 => J D1 ∧ Sz (b + 8 * j) D1))) (fun v _ => q + 2 - (intOf v).toNat)
          case atStart => exact ⟨0, by omega, rfl, own0, D, H2.out, Ext.refl _ _, Fr.refl _ _, H1.out.2.1, H1.out.2.2⟩
          case round =>
            obtain ⟨j, hjq, rfl, HG⟩ := hrel
            obtain ⟨own3, D3, hP3, hE3, hF3, hj3, hS3⟩ := HG.out
            have hac := (hF3.at HA2.out (by rw [HX.out.2.2]; simp)).cell
            have HP3 := (show Hid (PlAt own3 z wr pb D3 ∧ J D3 ∧ Sz (b + 8 * j) D3) from ⟨hP3, hj3, hS3⟩)
            have HX3 := (show Hid (Ext own0 own3 w2 ∧ FrP own0 z w2 wr) from ⟨hE3, hF3⟩)
            clear hP3 hE3 hF3 hj3 hS3
            go_wp2_with fail
            refine Calls.mono (HPk.out wr) ?_
            rintro r w3 ⟨rfl, rfl⟩
            by_cases hlt : j ≤ q
            · have HB := (show Hid (b + 8 * j ≤ 2 ^ 37) from by show b + 8 * j ≤ 2 ^ 37; omega)
              go_wp2_with fail
              refine (Pturn_calls HJ.out HP3.out.1 HP3.out.2.1 HP3.out.2.2 HB.out HFt.out).mono ?_
              rintro r w4 ⟨mm, ss, rfl, hm8, own4, D4, hP4, hE4, hF4, hj4, hS4, hTu⟩
              have HG2 := (show Hid (PlGoes own0 z w2 pb w4 (fun D1 => J D1 ∧ Sz (b + 8 * (j + 1)) D1)) from PlGoes.trans HX3.out.1 HX3.out.2 ⟨own4, D4, hP4, hE4, hF4, hj4, hS4.mono (by omega)⟩)
              clear hP4 hE4 hF4 hj4 hS4 hTu hm8 HG hac
              go_wp2
              go_roundw
              case rel => exact ⟨j + 1, by omega, by go_num, HG2⟩
              case measure => simp [intOf]; omega
            · have HR := (show Hid (PlGoes own z w pb _ (fun D1 => J D1 ∧ Sz (b + 400) D1)) from HFin.out own3 _ _ HX3.out.1 HX3.out.2 (b + 8 * j) (by omega) ⟨own3, D3, HP3.out.1, Ext.refl _ _, Fr.refl _ _, HP3.out.2.1, HP3.out.2.2⟩)
              clear HG hac
              go_wp2
              go_ret
              exact ⟨rfl, HR.out⟩
        · have h4' : (kd == 4) = false := by simpa using h4
          by_cases h6 : kd = 6
          · subst h6
            clear h1 h2 h3 h4
            have hp4 := pickN_in (c := m) (n := 12) (by omega)
            obtain ⟨q, hqq⟩ : ∃ q : Nat, Hid (pickN m 12 = q) := ⟨(pickN m 12).toNat, by show _ = _; omega⟩
            have hq40 : q < 12 := by have := hqq.out; omega
            have HPk := (show Hid (∀ w, Calls Tryz.prog 31 #[.int .i64 m, .int .i64 12] w fun r w' => r = .returned (.int .i64 q) ∧ w' = w) from by
              rw [← hqq.out]
              exact lpick_calls m 12 HM.out ⟨by omega, by omega⟩)
            clear hp4
            go_wp2
            clear hac
            go_loopw [15] (fun v wr => ∃ j : Nat, j ≤ q + 1 ∧ v = .int .i64 j ∧ Hid (PlGoes own0 z w2 pb wr (fun D1 => J D1 ∧ Sz b D1))) (fun v _ => q + 2 - (intOf v).toNat)
            case atStart => exact ⟨0, by omega, rfl, own0, D, H2.out, Ext.refl _ _, Fr.refl _ _, H1.out.2.1, H1.out.2.2⟩
            case round =>
              obtain ⟨j, hjq, rfl, HG⟩ := hrel
              obtain ⟨own3, D3, hP3, hE3, hF3, hj3, hS3⟩ := HG.out
              have hac := (hF3.at HA2.out (by rw [HX.out.2.2]; simp)).cell
              have ha := hP3.at_.cell
              simp only [PlD.cells, pv] at ha
              have HP3 := (show Hid (PlAt own3 z wr pb D3 ∧ J D3 ∧ Sz b D3) from ⟨hP3, hj3, hS3⟩)
              have HX3 := (show Hid (Ext own0 own3 w2 ∧ FrP own0 z w2 wr) from ⟨hE3, hF3⟩)
              obtain ⟨how, q1, q3, hcall⟩ := Psweep_any HJ.out hP3 hj3 hS3
              have HC := (show Hid (Calls _ _ _ _ _) from hcall)
              unfold pv at HC
              clear hP3 hE3 hF3 hj3 hS3 hcall
              go_wp2_with fail
              refine Calls.mono (HPk.out wr) ?_
              rintro r w3 ⟨rfl, rfl⟩
              by_cases hlt : j ≤ q
              · go_wp2_with fail
                refine Calls.mono HC.out ?_
                rintro r w4 ⟨rfl, hg⟩
                have HG2 := (show Hid (PlGoes own0 z w2 pb w4 (fun D1 => J D1 ∧ Sz b D1)) from PlGoes.trans HX3.out.1 HX3.out.2 hg)
                clear hg HG hac ha HC
                go_wp2
                go_roundw
                case rel => exact ⟨j + 1, by omega, by go_num, HG2⟩
                case measure => simp [intOf]; omega
              · have HR := (show Hid (PlGoes own z w pb _ (fun D1 => J D1 ∧ Sz (b + 400) D1)) from HFin.out own3 _ _ HX3.out.1 HX3.out.2 b (by omega) ⟨own3, D3, HP3.out.1, Ext.refl _ _, Fr.refl _ _, HP3.out.2.1, HP3.out.2.2⟩)
                clear HG hac ha HC
                go_wp2
                go_ret
                exact ⟨rfl, HR.out⟩
          · have h6' : (kd == 6) = false := by simpa using h6
            clear h1 h2 h3 h4 h6
            have HR := (show Hid (PlGoes own z w pb w2 (fun D1 => J D1 ∧ Sz (b + 400) D1)) from HFin.out own0 w2 w2 (Ext.refl _ _) (Fr.refl _ _) b (by omega) ⟨own0, D, H2.out, Ext.refl _ _, Fr.refl _ _, H1.out.2.1, H1.out.2.2⟩)
            go_wp2
            go_ret
            exact ⟨rfl, HR.out⟩
end
end Go.Proofs.YtfccelbmacjifaaGreat

