import Derived.Test.YtfccelbmacjifaaGreatP32
import Derived.Test.YtfccelbmacjifaaGreatP29
set_option linter.unusedSimpArgs false
namespace Go.Proofs.YtfccelbmacjifaaGreat
open Go.RowKit
section
variable {W w w1 w2 : World} {pb sb ub : Nat} {T N E L : Int} {Q : PSt → List (Int × Int) → Int → Int → Int → Prop} {j i : Nat} {own own1 : Own} {D D1 : PlD} {ps : List (Int × Int)} {n e c : Int}
theorem lone_act (hQ : Quiets T N E L Q) (h : AlSt W w pb sb ub T N E L Q j own D ps n e c) (hN : 0 ≤ N ∧ N ≤ 64) (hj : j ≤ 2 ^ 20) (hi : (i : Int) < T) (kd ky va : Int) (sp : List (Int × Int)) (sa : Option Addr) (sc : Nat) (ho : OpOk own 2 w ⟨kd, ky, va, sp, .slice sa sp.length sc⟩) (hsl : sp.length ≤ 2 ^ 40) :
    Calls Tryz.prog 44 #[pv pb, pv sb, pv ub, .int .i64 i, opVal kd ky va (.slice sa sp.length sc)] w fun r w' => r = .returned (.bool true) ∧ AlOn W w' pb sb ub T N E L Q (j + 1) ∧ FrA own 1 w w' := by
  have hil : i < D.P.ts.length := by have := h.at_.pl.thr; have := h.cfg.2.1; omega
  have ht : D.P.ts[i]? = some D.P.ts[i] := List.getElem?_eq_getElem hil
  have htb : D.P.ts[i].busy = false := hQ.idle h.q _ (List.getElem_mem hil)
  generalize D.P.ts[i] = t at ht htb
  have hc : D.puts ≤ 2 ^ 40 ∧ 0 ≤ D.puts ∧ D.takes ≤ 2 ^ 40 ∧ 0 ≤ D.takes := by have := h.cnt; omega
  cases hp : properB kd ky sp
  · refine (lone_off (sb := sb) (ub := ub) h.at_.pl h.ok ht htb kd ky va sp sa sc ho hsl hc hp).mono ?_
    rintro r w1 ⟨rfl, own1, D1, hP, hE, hF, hB⟩
    obtain ⟨y1, y2, y3, y4, y5, y6⟩ := hB.no (.inr hp)
    have hfa := hF.fra
    refine ⟨rfl, ⟨own1, D1, ps, n, e, c, ⟨h.at_.player hP hE hF, Ext.trans h.ext hE h.fr.size, h.old (fun k hk => hk.1) hfa, by rw [y1]; exact h.q, ?_, ?_, by rw [hB.N]; have := h.N; omega, by rw [hB.deeds]; have := h.deeds; omega, by have := h.cnt; rw [y5, y6]; omega⟩⟩, hfa⟩
    · show D1.bs = D1.P.ts.map (·.busy)
      rw [y1, y2]; exact h.ok
    · obtain ⟨a1, a2, a3, a4, a5⟩ := hB.cfg
      obtain ⟨b1, b2, b3, b4, b5⟩ := h.cfg
      exact ⟨a1.trans b1, a2.trans b2, a3.trans b3, a4.trans b4, a5.trans b5⟩
  · obtain ⟨m, hm, hmv, hend, hans, hq⟩ := hQ.op kd ky va sp h.q ht hp
    obtain ⟨_, _, _, r1, r2, r3, r4⟩ := hQ.room h.q
    have hl := h.cfg.2.2.2.2
    refine (lone_on h.at_ h.ok ht htb kd ky va sp sa sc ho hsl hc hp h.cfg.1 (by rw [h.cfg.2.2.1]; exact hN) (by omega) r1 r2 r3 (by have := h.N; omega) (by have := h.deeds; omega) m (by rw [h.cfg.2.2.1]; exact hm) _ rfl hmv hend (by rw [hl]; exact hans)).mono ?_
    rintro r w1 ⟨rfl, own1, D1, hA, hE, hF, hL⟩
    rw [hl] at hA
    exact ⟨rfl, ⟨own1, D1, _, _, _, _, h.loned hQ hE hF hm hN.2 hL hA hq⟩, hF⟩
theorem swept_act (hQ : Quiets T N E L Q) (h : AlSt W w pb sb ub T N E L Q j own D ps n e c) :
    Calls Tryz.prog 45 #[pv pb] w fun r w' => r = .returned (.bool true) ∧ ∃ own1 D1, AlAt own1 1 w' pb sb ub D1 ps n e c ∧ (∀ n' e' w2, AlAt own1 1 w2 pb sb ub D1 ps n' e' c → n' = N - ps.length → e' = E - ps.length - 1 → Fr (fun k => k = ub) w' w2 → AlSt W w2 pb sb ub T N E L Q (j + 1) own1 D1 ps n' e' c) ∧ D1.k = 0 ∧ D1.n = N ∧ D1.e = E := by
  obtain ⟨h1, h2, h3⟩ := hQ.sweep h.q
  refine (Pswept_calls h.at_.pl h1 h2).mono ?_
  rintro r w1 ⟨rfl, own1, D1, hP, hE, hF, L', hL', rfl⟩
  have hA := h.at_.player hP hE hF
  refine ⟨rfl, own1, _, hA, ?_, h.cfg.1, h.cfg.2.2.1, h.cfg.2.2.2.1⟩
  rintro n' e' w2 hA2 rfl rfl hf2
  have hub : own ub = ⟨4, .store⟩ := h.at_.tu
  have hubl : ub < w.heap.size := At.lt h.at_.pu
  have hfr : Fr (fun _ => False) W w2 := by
    refine h.old (S := fun k => 1 ≤ (own k).z) (fun k hk => hk) ?_
    refine (Fr.mono hF.fra (fun k _ hk => hk.1)).trans (Fr.mono hf2 ?_)
    rintro k _ rfl
    rw [hub]; decide
  refine ⟨hA2, Ext.trans h.ext hE h.fr.size, hfr, h3, ?_, h.cfg, by have := h.N; show D.N ≤ _; omega, by have := h.deeds; show D.deeds.length ≤ _; omega, by have := h.cnt; show 0 ≤ D.puts ∧ D.puts ≤ _ ∧ 0 ≤ D.takes ∧ D.takes ≤ _; omega⟩
  exact ok_of (hQ.idle h3) (ok_all (D := D) (hQ.idle h.q) h.ok) hP.bl
theorem is_act (hQ : Quiets T N E L Q) (h : AlSt W w pb sb ub T N E L Q j own D ps n e c) :
    Calls Tryz.prog 46 #[pv pb, pv ub] w fun r w' => r = .returned (.bool true) ∧ w' = w := by
  obtain ⟨h1, h2, h3, _⟩ := hQ.room h.q
  exact Pis_calls h.at_.pl h.at_.pu h1 h2 h3
end
end Go.Proofs.YtfccelbmacjifaaGreat

set_option linter.unusedSimpArgs false
namespace Go.Proofs.YtfccelbmacjifaaGreat
open Go.RowKit
section
variable {W w w1 w2 : World} {pb sb ub : Nat} {T N E L : Int} {Q : PSt → List (Int × Int) → Int → Int → Int → Prop} {j i : Nat} {own own1 : Own} {D D1 : PlD} {ps : List (Int × Int)} {n e c : Int}
/-- A region that draws its order: it reads, calls once what leaves all as it is, and at last calls once more. -/
theorem wp_region_two {Pg : Program} {id : Nat} {Q : Exit → Go.Act → World → Prop} {a : Go.Act} {w : World} {l : List Oper} (eff1 eff2 : Nat) (C : World → Prop) (hne : eff1 ≠ eff2)
    (hm : Pg.follows .mixedOrders = true) (hB : Region.lexB .any l.toArray = true) (hch : chainB .any l.toArray [eff1, eff2] = true) (hlow : lowB .any l.toArray = true) (hin : eff1 < l.length ∧ eff2 < l.length)
    (h : ∀ (U : Type) (W : U → World), Nonempty U → (∀ u, Fr (fun _ => False) w (W u) ∨ C (W u)) → wpMix Pg l.toArray (fun w' => ∃ u, w' = W u) (fun k w' => (k ≤ 1 → Fr (fun _ => False) w w') ∧ (k = 2 → C w')) [eff1, eff2] (fun a' => ∀ w', C w' → Q .normal a' w') l 0 0 a) :
    (Code.region id l.toArray true).wp Pg Q a w := by
  refine wp_region_mixC [eff1, eff2] (fun k w' => (k ≤ 1 → Fr (fun _ => False) w w') ∧ (k = 2 → C w')) 1 rfl hm hB hch (by simpa using hne) hlow (by simpa using hin) ⟨fun _ => (Fr.refl _ _).drew, by simp⟩ ?_
  intro U W hU hW
  have := h U W hU (fun u => by
    obtain ⟨k, hk, h0, h1⟩ := hW u
    rcases (show k ≤ 1 ∨ k = 2 by omega) with hh | hh
    · exact .inl (h0 hh)
    · exact .inr (h1 hh))
  simpa using this
theorem ActIn.keep {sa : Option Addr} {a : ActD} (h : ActIn w sa i a) (hf : Fr (fun _ => False) w w1) : ActIn w1 sa i a := by
  obtain ⟨b, off, e, h1, h2, h3⟩ := h
  exact ⟨b, off, e, fun j v hj => hf.keepCell (h1 j v hj), h2.keep hf, h3⟩
/-- The boxes of an act and of its operation. -/
theorem AlSt.boxes (h : AlSt W w pb sb ub T N E L Q j own D ps n e c) (hf : Fr (fun _ => False) w w1) {v : Value} {sp : List (Int × Int)} {w0 : World} (hO : OwnSpans w0 w1 v sp) (hw : w.heap.size ≤ w0.heap.size) (o : OpV) (h1 : o.sv = v) (h2 : o.spans = sp) :
    ∃ own1, AlSt W w1 pb sb ub T N E L Q j own1 D ps n e c ∧ OpOk own1 2 w1 o ∧ ∀ k, w.heap.size ≤ k → v.ownBlock ≠ some k → own1 k = ⟨0, .store⟩ := by
  obtain ⟨own1, ho⟩ : ∃ own1 : Own, own1 = fun k => if k < w.heap.size then own k else if v.ownBlock = some k then ⟨2, .oth 5⟩ else ⟨0, .store⟩ := ⟨_, rfl⟩
  have hE : Ext own own1 w := fun k hk => by rw [ho]; simp [hk]
  refine ⟨own1, ⟨h.at_.calm hf hE, Ext.trans h.ext hE h.fr.size, h.fr.trans hf, h.q, h.ok, h.cfg, h.N, h.deeds, h.cnt⟩, ⟨?_, ?_⟩, ?_⟩
  · rw [h1, h2]; exact hO.row
  · rw [h1]
    intro k hk
    have := hO.new k hk
    rw [ho]; simp [show ¬ k < w.heap.size by omega, hk]
  · intro k hk hv
    rw [ho]; simp [show ¬ k < w.heap.size by omega, hv]
/-- The purse has turned. -/
theorem AlAt.purse {z : Nat} (h : AlAt own z w pb sb ub D ps n e c) {n' e' c' : Int} (hF : Fr (fun k => k = ub) w w1) (hU : PuAt w1 ub n' e' c') : AlAt own z w1 pb sb ub D ps n' e' c' := by
  obtain ⟨a, q, hs, ht⟩ := h.sh
  refine ⟨h.pl.fr hF (Ext.refl _ _) ?_, ⟨a, q, hs.keepS hF ?_ ?_, fun g hg => ⟨Nat.lt_of_lt_of_le (ht g hg).1 hF.size, (ht g hg).2⟩⟩, hU, h.ts, h.tu⟩
  · rintro k hk rfl
    rw [h.tu] at hk
    simp at hk
  · rintro rfl
    have := h.ts
    rw [h.tu] at this
    simp at this
  · rintro g hg rfl
    have := (ht _ hg).2
    rw [h.tu] at this
    simp at this
theorem OwnSpans.keep {w0 : World} {v : Value} {sp : List (Int × Int)} (h : OwnSpans w0 w v sp) (hf : Fr (fun _ => False) w w1) : OwnSpans w0 w1 v sp := ⟨hf.owns h.row (fun _ _ h => h), h.new, h.fr.trans hf⟩
/-- Player, sheet and purse, new. -/
theorem AlSt.start (hQ : Quiets T N E L Q) (hP : PlAt own 1 w pb D) (hE : Ext own00 own W) (hF : Fr (fun _ => False) W w) (hD : FreshPl T N E L D) (hw : w.heap.size = sb) (hf : Fr (fun _ => False) w w1) (hS : At w1 sb [.slice none 0 0] 72) (hf2 : Fr (fun _ => False) w1 w2) (hU : PuAt w2 ub N (E - 1) 0) (hu : w1.heap.size ≤ ub) : AlOn W w2 pb sb ub T N E L Q 0 := by
  have hsl := hS.lt
  obtain ⟨own1, ho⟩ : ∃ own1 : Own, own1 = fun k => if k < w.heap.size then own k else if k = sb then ⟨3, .store⟩ else ⟨4, .store⟩ := ⟨_, rfl⟩
  have hE1 : Ext own own1 w := fun k hk => by rw [ho]; simp [hk]
  have hs : own1 sb = ⟨3, .store⟩ := by rw [ho]; simp [hw]
  have hub : own1 ub = ⟨4, .store⟩ := by rw [ho]; simp [show ¬ ub < w.heap.size by omega, show ub ≠ sb by omega]
  have hF2 := hf.trans hf2
  refine ⟨own1, D, [], N, E - 1, 0, ⟨⟨hP.fr hF2 hE1 (fun _ _ h => h), ⟨none, 0, ⟨hf2.at hS (fun h => h), by intro i p hp; simp at hp⟩, by intro g hg; cases hg⟩, hU, hs, hub⟩, Ext.trans hE hE1 hF.size, hF.trans hF2, by rw [hD.P]; exact hQ.fresh, hD.ok, hD.cfg, by rw [hD.N]; omega, by rw [hD.deeds]; simp, by rw [hD.cnt.1, hD.cnt.2]; simp⟩⟩
set_option maxHeartbeats 2000000 in
set_option maxRecDepth 100000 in
theorem lalone_calls (hQ : ∀ T N E L : Int, okCfg 0 T N E L = true → ∃ Q, Quiets T N E L Q) (k t n e l : Int) (W : World) (sa : Option Addr) (c : Nat) (acts : List ActD) (rt : rawI t) (rn : rawI n) (re : rawI e) (rl : rawI l) (hlen : acts.length ≤ 2 ^ 20) (hacts : ∀ i a, acts[i]? = some a → ActIn W sa i a ∧ a.sn ≤ 2 ^ 20) :
    Calls Tryz.prog 20 #[cfg k t n e l, .slice sa acts.length c, .int .i64 0] W fun r W' => r = .returned (.bool true) ∧ Fr (fun _ => False) W W' := by
  obtain ⟨hok, hT1⟩ := cfg_ok 0 1 t n e l (.inl rfl) (.inl rfl)
  have HCf := (show Hid (∀ w, Calls Tryz.prog 41 #[cfg k t n e l, .int .i64 0, .int .i64 1] w _) from fun w => config_calls k t n e l 0 1 w rt rn re rl (.inl rfl))
  generalize cT 1 t = T at hok hT1 HCf
  generalize cN n = N at hok HCf
  generalize cE e = E at hok HCf
  generalize cL l = L at hok HCf
  obtain ⟨Q, hq⟩ := hQ T N E L hok
  obtain ⟨_, hT, hN, hE, hL⟩ : (0 ≤ (0 : Int) ∧ (0 : Int) ≤ 1) ∧ (1 ≤ T ∧ T ≤ 8) ∧ (0 ≤ N ∧ N ≤ 64) ∧ (1 ≤ E ∧ E ≤ 256) ∧ (0 ≤ L ∧ L ≤ 1099511627776) := by
    simp only [okCfg, Bool.and_eq_true, isIn_iff] at hok
    omega
  have HQ := (show Hid (Quiets T N E L Q) from hq)
  have HOk := (show Hid (okCfg 0 T N E L = true) from hok)
  have HAc := (show Hid (∀ i a, acts[i]? = some a → ActIn W sa i a ∧ a.sn ≤ 2 ^ 20) from hacts)
  obtain ⟨hT1, hT2⟩ := hT
  obtain ⟨hN1, hN2⟩ := hN
  obtain ⟨hE1, hE2⟩ := hE
  clear hQ hq hok hacts rt rn re rl
  unfold cfg at HCf ⊢
  go_enter Tryz.func20, Tryz.ntmps20
  go_wp2_with fail
  refine Calls.mono (HCf.out _) ?_
  rintro r w1 ⟨rfl, hF1⟩
  have HF1 := (show Hid (Fr (fun _ => False) W w1) from ((Fr.refl _ _).alloc _).trans hF1)
  clear hF1 HCf
  go_wp2_with fail
  refine Calls.mono (player_calls T N E L w1 own00 1 HOk.out) ?_
  rintro r w2 ⟨pb, rfl, own, D, hP, hE0, hD, hF2⟩
  have ha := hP.at_.cell
  have hD' := hD.cfg
  simp only [PlD.cells, hD'.1, hD'.2.1, hD'.2.2.1, hD'.2.2.2.1, hD'.2.2.2.2, pv] at ha
  have hpl := hP.at_.lt
  have hpn : pb ≠ w2.heap.size := by omega
  have HP := (show Hid (PlAt own 1 w2 pb D ∧ Ext own00 own W ∧ Fr (fun _ => False) W w2 ∧ FreshPl T N E L D) from ⟨hP, fun k hk => hE0 k (Nat.lt_of_lt_of_le hk HF1.out.size), HF1.out.trans hF2, hD⟩)
  clear hP hE0 hD hF2 hD'
  unfold pv
  go_wp2_with fail
  refine Calls.mono (purse_calls 0 T N E L _ ⟨by omega, hE2⟩) ?_
  rintro r w3 ⟨ub, rfl, hU, hu1, hu2, hF3⟩
  obtain ⟨sb, hsb⟩ : ∃ sb, Hid (sb = w2.heap.size) := ⟨_, rfl⟩
  have HOn := (show Hid (AlOn W w3 pb sb ub T N E L Q 0) from AlSt.start (w1 := w2.alloc (.cells #[.slice none 0 0] 72)) HQ.out HP.out.1 HP.out.2.1 HP.out.2.2.1 HP.out.2.2.2 hsb.out.symm ((Fr.refl _ _).alloc _) (by rw [hsb.out]; exact At.new _ _ _) hF3 hU hu1)
  rw [← hsb.out]
  clear hU hu1 hu2 hF3 ha hpl hpn HP hsb HF1 HOk
  unfold pv
  go_wp2
  go_loopw [10] (fun v wr => ∃ j : Nat, j ≤ acts.length ∧ v = .int .i64 j ∧ Hid (AlOn W wr pb sb ub T N E L Q j)) (fun v _ => acts.length - (intOf v).toNat)
  case atStart => exact ⟨0, by omega, rfl, HOn⟩
  case round =>
    clear HOn
    obtain ⟨j, hj, rfl, HOn⟩ := hrel
    obtain ⟨own1, D1, ps, n1, e1, q1, hst⟩ := HOn.out
    have HSt := (show Hid (AlSt W wr pb sb ub T N E L Q j own1 D1 ps n1 e1 q1) from hst)
    clear hst HOn
    by_cases hlt : j < acts.length
    · have hx : acts[j]? = some acts[j] := List.getElem?_eq_getElem hlt
      obtain ⟨hai, hasn⟩ := HAc.out j _ hx
      generalize acts[j] = a at hx hai hasn
      have HAI := (show Hid (ActIn wr sa j a) from hai.keep HSt.out.fr)
      obtain ⟨ab, off, rfl, hcl, hsp, _, htt⟩ := HAI.out
      have c0 := hcl 0 _ rfl
      have c1 := hcl 1 _ rfl
      have c2 := hcl 2 _ rfl
      have c3 := hcl 3 _ rfl
      have c4 := hcl 4 _ rfl
      have c5 := hcl 5 _ rfl
      have c6 := hcl 6 _ rfl
      obtain ⟨kd, tt, o, ky, va, m, psa, psn, psc, sps⟩ := a
      simp only [Nat.add_zero, ← Nat.add_assoc] at c0 c1 c2 c3 c4 c5 c6
      simp only at hasn hsp htt
      have C0 := (show Hid (_ ∧ _ ∧ _ ∧ _ ∧ _ ∧ _ ∧ _) from ⟨c0, c1, c2, c3, c4, c5, c6⟩)
      have hA1 : At (wr.alloc (.cells #[.int .i64 kd, .int .i64 tt, .int .i64 o, .int .i64 ky, .int .i64 va, .int .i64 m, .slice psa psn psc] 34)) wr.heap.size [.int .i64 kd, .int .i64 tt, .int .i64 o, .int .i64 ky, .int .i64 va, .int .i64 m, .slice psa psn psc] 34 := At.new _ _ _
      have hf1 : Fr (fun _ => False) wr (wr.alloc (.cells #[.int .i64 kd, .int .i64 tt, .int .i64 o, .int .i64 ky, .int .i64 va, .int .i64 m, .slice psa psn psc] 34)) := (Fr.refl _ _).alloc _
      have HA1 := (show Hid (At _ wr.heap.size _ 34) from hA1)
      have HF1 := (show Hid (Fr _ wr _) from hf1)
      have HSt1 := (show Hid (AlSt W _ pb sb ub T N E L Q j own1 D1 ps n1 e1 q1) from HSt.out.calm hf1)
      have HTT := (show Hid (-9223372036854775808 ≤ tt ∧ tt ≤ 9223372036854775807) from htt)
      have HSP := (show Hid (Spans wr psa psn sps ∧ psn ≤ 2 ^ 20) from ⟨hsp, hasn⟩)
      clear hA1 hf1 hcl hx hai hasn htt hsp HAI
      by_cases h1 : kd = 1
      · subst h1
        clear c0 c1 c2 c3 c4 c5 c6
        have HOp := (show Hid (Calls _ _ _ _ _) from opOf_calls ⟨1, tt, o, ky, va, m, psa, psn, psc, sps⟩ _ (HSP.out.1.keep HF1.out) HSP.out.2)
        simp only [actVal] at HOp
        have c0 : wr.cell? ⟨ab, off + j * 7, none⟩ = some (.int .i64 1) := C0.out.1
        have c1 := C0.out.2.1
        have c2 := C0.out.2.2.1
        have c3 := C0.out.2.2.2.1
        have c4 := C0.out.2.2.2.2.1
        have c5 := C0.out.2.2.2.2.2.1
        have c6 := C0.out.2.2.2.2.2.2
        go_wp2_with fail
        refine Calls.mono HOp.out ?_
        rintro r w4 ⟨xa, xc, rfl, hO⟩
        have HO := (show Hid (OwnSpans _ w4 _ sps) from hO)
        have HF4 := (show Hid (Fr (fun _ => False) wr w4) from HF1.out.trans hO.fr)
        have HA4 := (show Hid (At w4 wr.heap.size _ 34) from hO.fr.at HA1.out (fun h => h))
        have hac := HA4.out.cell
        clear hO HOp c0 c1 c2 c3 c4 c5 c6
        simp only [opVal]
        go_wp2_with fail
        generalize hw5 : World.alloc _ _ = w5
        have HB5 := (show Hid (At w5 w4.heap.size [.int .i64 o, .int .i64 ky, .int .i64 va, .slice xa sps.length xc] 82) from by rw [← hw5]; exact At.new w4 _ _)
        have hf5 : Fr (fun _ => False) w4 w5 := by rw [← hw5]; exact (Fr.refl _ _).alloc _
        clear hw5
        have HA5 := (show Hid (At w5 wr.heap.size _ 34) from hf5.at HA4.out (fun h => h))
        obtain ⟨own5, hst5, hop5, hz5⟩ := HSt.out.boxes (HF4.out.trans hf5) (HO.out.keep hf5) (by simp) ⟨o, ky, va, sps, .slice xa sps.length xc⟩ rfl rfl
        have hza : own5 wr.heap.size = ⟨0, .store⟩ := hz5 _ (Nat.le_refl _) (by intro h; have h2 := HO.out.new _ h; have h3 := HA1.out.lt; omega)
        have hzb : own5 w4.heap.size = ⟨0, .store⟩ := hz5 _ HF4.out.size (by intro h; have := ownsRow_lt HO.out.row h; omega)
        have HSt5 := (show Hid (AlSt W w5 pb sb ub T N E L Q j own5 D1 ps n1 e1 q1) from hst5)
        have HOp5 := (show Hid (OpOk own5 2 w5 ⟨o, ky, va, sps, .slice xa sps.length xc⟩) from hop5)
        have hp2 := pickN_in (c := tt) (n := T) (by omega)
        obtain ⟨i, hi⟩ : ∃ i : Nat, Hid (pickN tt T = i) := ⟨(pickN tt T).toNat, by show _ = _; omega⟩
        have hil : (i : Int) < T := by rw [← hi.out]; exact hp2.2
        have HPk := (show Hid (∀ w, Calls Tryz.prog 31 #[.int .i64 tt, .int .i64 T] w fun r w' => r = .returned (.int .i64 i) ∧ w' = w) from by
          rw [← hi.out]
          exact lpick_calls tt T HTT.out ⟨by omega, by omega⟩)
        have HSl : Hid (sps.length ≤ 2 ^ 40) := by
          have h1 := HSP.out.1.1
          have h2 := HSP.out.2
          show sps.length ≤ 2 ^ 40
          omega
        clear hst5 hop5 hz5 hp2 hac hf5 HTT HSP HO HA4 HA1 HSt1 HF1 C0 HF4
        refine wp_region_two 10 12 (fun w' => AlOn W w' pb sb ub T N E L Q (j + 1) ∧ FrA own5 1 w5 w') (by decide) (by kernel_rfl) (by kernel_rfl) (by kernel_rfl) (by kernel_rfl) (by decide) ?_
        intro U V hU hV
        have hau : ∀ u q, (V u).cell? ⟨wr.heap.size, q, none⟩ = [Value.int .i64 1, .int .i64 tt, .int .i64 o, .int .i64 ky, .int .i64 va, .int .i64 m, .slice psa psn psc][q]? := by
          intro u
          rcases hV u with h1 | h1
          · exact (h1.at HA5.out (fun h => h)).cell
          · exact (h1.2.at HA5.out (by rw [hza]; simp)).cell
        have hbu : ∀ u q, (V u).cell? ⟨w4.heap.size, q, none⟩ = [Value.int .i64 o, .int .i64 ky, .int .i64 va, .slice xa sps.length xc][q]? := by
          intro u
          rcases hV u with h1 | h1
          · exact (h1.at HB5.out (fun h => h)).cell
          · exact (h1.2.at HB5.out (by rw [hzb]; simp)).cell
        have hpu : ∀ u, (V u).cell? ⟨pb, 2, none⟩ = some (.int .i64 T) := by
          intro u
          rcases hV u with h1 | h1
          · have := (h1.at HSt5.out.at_.pl.at_ (fun h => h)).cell 2
            simp only [PlD.cells, HSt5.out.cfg.2.1] at this
            exact this
          · obtain ⟨own6, D6, ps6, n6, e6, q6, h6⟩ := h1.1
            have := h6.at_.pl.at_.cell 2
            simp only [PlD.cells, h6.cfg.2.1] at this
            exact this
        clear hV
        repeat (refine mix_read rfl rfl ?_; go_big_quiet_step (fail); refine wpQuiet_nil ?_)
        refine mix_effC (.int .i64 i) rfl rfl rfl ?_ ?_
        · intro w' hw'
          have hw0 := hw'.1 (by omega)
          go_simp
          refine Calls.mono (HPk.out w') ?_
          rintro r w'' ⟨rfl, rfl⟩
          exact ⟨rfl, hw0⟩
        go_simp
        repeat (refine mix_read rfl rfl ?_; go_big_quiet_step (fail); refine wpQuiet_nil ?_)
        refine mix_effC (.bool true) rfl rfl rfl ?_ ?_
        · intro w' hw'
          have hw0 := hw'.1 (by omega)
          go_simp
          refine Calls.mono (lone_act HQ.out (HSt5.out.calm hw0) ⟨hN1, hN2⟩ (by omega) hil o ky va sps xa xc (HOp5.out.fr hw0 (Ext.refl _ _) (fun _ _ h => h)) HSl.out) ?_
          rintro r w'' ⟨rfl, hA, hF⟩
          exact ⟨rfl, hA, (Fr.mono hw0 (fun _ _ h => h.elim)).trans hF⟩
        go_simp
        repeat (refine mix_read rfl rfl ?_; go_big_quiet_step (fail); refine wpQuiet_nil ?_)
        refine mix_nil ?_
        intro w6 hA6 hF6
        have HA6 := (show Hid (AlOn W w6 pb sb ub T N E L Q (j + 1)) from hA6)
        clear hA6 hF6 hau hbu hpu
        go_wp2
        go_roundw
        case rel => exact ⟨j + 1, by omega, by go_num, HA6⟩
        case measure => simp [intOf]; omega
      · have h1' : (kd == 1) = false := by simpa using h1
        by_cases h6 : kd = 6
        · subst h6
          clear h1
          go_wp2_with fail
          refine Calls.mono (swept_act HQ.out HSt1.out) ?_
          rintro r w4 ⟨rfl, own4, D4, hA4, hfin, hk4, hn4, he4⟩
          have ha := hA4.pl.at_.cell
          simp only [PlD.cells, hk4, hn4, he4, pv] at ha
          obtain ⟨la, lc, hs4, htl4⟩ := hA4.sh
          have hsc := hs4.1.cell
          have huc := hA4.pu.cell
          have huz := hA4.pu.frozen
          have hps := (HQ.out.room HSt.out.q).2.2.2.2.2.2
          have HFin := (show Hid (∀ n' e' w2, _) from hfin)
          have HA4 := (show Hid (AlAt own4 1 w4 pb sb ub D4 ps n1 e1 q1) from hA4)
          have hne : pb ≠ ub := by
            rintro rfl
            have := hA4.pl.tg
            rw [hA4.tu] at this
            simp at this
          have hne' : ub ≠ pb := fun h => hne h.symm
          have hnes : sb ≠ ub := by
            rintro rfl
            have := hA4.ts
            rw [hA4.tu] at this
            simp at this
          clear hA4 hfin hs4 htl4 hk4 hn4 he4
          have HRes : Hid (AlOn W ((w4.setCell ⟨ub, 0, none⟩ (.int .i64 (N - ps.length))).setCell ⟨ub, 1, none⟩ (.int .i64 (E - ps.length - 1))).drew pb sb ub T N E L Q (j + 1)) := by
            have hF5 : Fr (fun k => k = ub) w4 ((w4.setCell ⟨ub, 0, none⟩ (.int .i64 (N - ps.length))).setCell ⟨ub, 1, none⟩ (.int .i64 (E - ps.length - 1))).drew := (((Fr.refl _ _).set1 _ _).set1 _ _).drew
            exact ⟨own4, D4, ps, _, _, q1, HFin.out _ _ _ (HA4.out.purse hF5 (At.drew (PuAt.setE (PuAt.setN HA4.out.pu)))) rfl rfl hF5⟩
          go_wp2_with fail
          go_region
          go_wp2
          go_roundw
          case rel => exact ⟨j + 1, by omega, by go_num, HRes⟩
          case measure => simp [intOf]; omega
        · have h6' : (kd == 6) = false := by simpa using h6
          by_cases h8 : kd = 8
          · subst h8
            clear h1 h6
            go_wp2_with fail
            refine Calls.mono (is_act HQ.out HSt1.out) ?_
            rintro r w4 ⟨rfl, rfl⟩
            go_wp2
            go_roundw
            case rel => exact ⟨j + 1, by omega, by go_num, own1, D1, ps, n1, e1, _, HSt1.out.more⟩
            case measure => simp [intOf]; omega
          · have h8' : (kd == 8) = false := by simpa using h8
            by_cases h9 : kd = 9
            · subst h9
              clear h1 h6 h8
              go_wp2_with fail
              refine Calls.mono (is_act HQ.out HSt1.out) ?_
              rintro r w4 ⟨rfl, rfl⟩
              go_wp2
              go_roundw
              case rel => exact ⟨j + 1, by omega, by go_num, own1, D1, ps, n1, e1, _, HSt1.out.more⟩
              case measure => simp [intOf]; omega
            · have h9' : (kd == 9) = false := by simpa using h9
              clear h1 h6 h8 h9
              go_wp2
              go_roundw
              case rel => exact ⟨j + 1, by omega, by go_num, own1, D1, ps, n1, e1, _, HSt1.out.more⟩
              case measure => simp [intOf]; omega
    · go_wp2_with fail
      refine Calls.mono (is_act HQ.out HSt.out) ?_
      rintro r w4 ⟨rfl, rfl⟩
      have HF := (show Hid (Fr (fun _ => False) W w4) from HSt.out.fr)
      go_wp2
      go_ret
      exact ⟨rfl, HF.out⟩
set_option maxHeartbeats 1000000 in
theorem alone_any (hQ : ∀ T N E L : Int, okCfg 0 T N E L = true → ∃ Q, Quiets T N E L Q) : LawHolds 9 := by
  intro k t n e l W sa c acts rt rn re rl hlen hacts
  have HA := (show Hid (Calls Tryz.prog 20 #[cfg k t n e l, .slice sa acts.length c, .int .i64 0] (W.alloc (.cells #[.int .i64 k, .int .i64 t, .int .i64 n, .int .i64 e, .int .i64 l] 23)) _) from lalone_calls hQ k t n e l _ sa c acts rt rn re rl hlen (fun i a ha => ⟨(hacts i a ha).1.keep ((Fr.refl _ _).alloc _), (hacts i a ha).2⟩))
  clear hacts
  unfold cfg at HA ⊢
  go_enter Tryz.func9, Tryz.ntmps9
  go_wp2_with fail
  refine Calls.mono HA.out ?_
  rintro r w1 ⟨rfl, hF1⟩
  have HF1 := (show Hid (Fr (fun _ => False) W w1) from ((Fr.refl _ _).alloc _).trans hF1)
  clear hF1 HA
  go_wp2
  go_ret
  exact ⟨rfl, HF1.out⟩
end
end Go.Proofs.YtfccelbmacjifaaGreat

set_option linter.unusedSimpArgs false
namespace Go.Proofs.YtfccelbmacjifaaGreat
open Go.RowKit
section
variable {own : Own} {z : Nat} {w w1 w' : World} {pb : Nat} {D D1 D2 : PlD} {i f k m s N b : Nat} {t : PThread} {J : PlD → Prop} {T Nn E L : Int}
theorem PlAt.boxes (h : PlAt own z w pb D) (hf : Fr (fun _ => False) w w1) {v : Value} {sp : List (Int × Int)} {w0 : World} (hO : OwnSpans w0 w1 v sp) (hw : w.heap.size ≤ w0.heap.size) (o : OpV) (h1 : o.sv = v) (h2 : o.spans = sp) : ∃ own1, PlAt own1 z w1 pb D ∧ Ext own own1 w ∧ OpOk own1 (z + 1) w1 o := by
  obtain ⟨own1, ho⟩ : ∃ own1 : Own, own1 = fun k => if k < w.heap.size then own k else if v.ownBlock = some k then ⟨z + 1, .oth 5⟩ else ⟨z + 7, .store⟩ := ⟨_, rfl⟩
  have hE : Ext own own1 w := fun k hk => by rw [ho]; simp [hk]
  refine ⟨own1, h.fr hf hE (fun _ _ h => h), hE, ⟨?_, ?_⟩⟩
  · rw [h1, h2]; exact hO.row
  · rw [h1]
    intro k hk
    have := hO.new k hk
    rw [ho]; simp [show ¬ k < w.heap.size by omega, hk]
theorem Plays.beginAny (hJ : Plays f T Nn E L J) (hj : J D) (hS : Sz b D) (ht : D.P.ts[i]? = some t) (hf : f ≤ i) {o : OpV} (hB : Begun D i t o D1) : J D1 ∧ Sz (b + 1) D1 := ⟨hJ.begin hj ht hf hB, hS.begin hB⟩
set_option maxHeartbeats 2000000 in
set_option maxRecDepth 100000 in
theorem Pact_calls (hJ : Plays f T Nn E L J) (h : PlAt own z w pb D) (hj : J D) (hS : Sz b D) (hb : b ≤ 2 ^ 35) (hf : (f : Int) < T) (a : ActD) (hsp : Spans w a.sa a.sn a.ps) (hsn : a.sn ≤ 2 ^ 20) (hm : -9223372036854775808 ≤ a.m ∧ a.m ≤ 9223372036854775807) (htt : -9223372036854775808 ≤ a.tt ∧ a.tt ≤ 9223372036854775807) :
    Calls Tryz.prog 57 #[pv pb, actVal a, .int .i64 f] w fun r w' => r = .returned (.bool true) ∧ PlGoes own z w pb w' (fun D1 => J D1 ∧ Sz (b + 400) D1) := by
  obtain ⟨kd, tt, o, ky, va, m, psa, psn, psc, sps⟩ := a
  simp only at hsp hsn hm htt
  obtain rfl : sps.length = psn := hsp.1
  have hT8 : T ≤ 8 := by have := (hJ.cfg hj).2.1; have := h.thr; have := h.fit.thr; omega
  have hE0 : Ext own (own.put w.heap.size (z + 7) .store) w := Ext.put (Nat.le_refl _) _ _
  obtain ⟨own0, hown0⟩ : ∃ own0, own0 = own.put w.heap.size (z + 7) .store := ⟨_, rfl⟩
  rw [← hown0] at hE0
  have hz0 : own0 w.heap.size = ⟨z + 7, .store⟩ := by rw [hown0]; simp [Own.put]
  generalize hw1 : w.alloc (.cells #[.int .i64 kd, .int .i64 tt, .int .i64 o, .int .i64 ky, .int .i64 va, .int .i64 m, .slice psa sps.length psc] 34) = w1
  have hf1 : Fr (fun _ => False) w w1 := by rw [← hw1]; exact (Fr.refl _ _).alloc _
  have hA1 : At w1 w.heap.size [.int .i64 kd, .int .i64 tt, .int .i64 o, .int .i64 ky, .int .i64 va, .int .i64 m, .slice psa sps.length psc] 34 := by rw [← hw1]; exact At.new w _ _
  have H1 := (show Hid (PlAt own0 z w1 pb D ∧ J D ∧ Sz b D) from ⟨h.fr hf1 hE0 (fun _ _ h => h), hj, hS⟩)
  have HX := (show Hid (Ext own own0 w ∧ FrP own z w w1 ∧ own0 w.heap.size = ⟨z + 7, .store⟩) from ⟨hE0, Fr.mono hf1 (fun _ _ h => h.elim), hz0⟩)
  have HA1 := (show Hid (At w1 w.heap.size _ 34) from hA1)
  have HSp := (show Hid (Spans w1 psa sps.length sps ∧ sps.length ≤ 2 ^ 20) from ⟨hsp.keep hf1, hsn⟩)
  have HJ := (show Hid (Plays f T Nn E L J) from hJ)
  have HM := (show Hid (-9223372036854775808 ≤ m ∧ m ≤ 9223372036854775807) from hm)
  have hp := pickN_in (c := tt) (n := T - f) (by omega)
  obtain ⟨p, hpp⟩ : ∃ p : Nat, Hid (pickN tt (T - f) = p) := ⟨(pickN tt (T - f)).toNat, by show _ = _; omega⟩
  have hpT : (f : Int) + p < T := by rw [← hpp.out]; omega
  have HPk := (show Hid (∀ w, Calls Tryz.prog 31 #[.int .i64 tt, .int .i64 (T - f)] w fun r w' => r = .returned (.int .i64 p) ∧ w' = w) from by
    rw [← hpp.out]
    exact lpick_calls tt (T - f) htt ⟨by omega, by omega⟩)
  have HI := (show Hid (∀ (own1 : Own) (w1 : World) (D1 : PlD), PlAt own1 z w1 pb D1 → J D1 → f + p < D1.P.ts.length) from by
    intro own1 w1 D1 h1 j1
    have h2 := h1.thr
    have h3 := (hJ.cfg j1).2.1
    omega)
  have hct := (hJ.cfg hj).2.1
  clear h hj hS hJ hE0 hown0 hz0 hf1 hA1 hsp hsn hm htt hp
  unfold pv actVal
  go_enter Tryz.func57, Tryz.ntmps57
  go_wp2_with fail
  try rw [hw1]
  clear hw1
  refine wp_region_calm [10] 0 rfl (by kernel_rfl) (by kernel_rfl) (by kernel_rfl) (by decide) (by kernel_rfl) (by decide) ?_
  intro U V hU hV
  have hau : ∀ u q, (V u).cell? ⟨w.heap.size, q, none⟩ = [Value.int .i64 kd, .int .i64 tt, .int .i64 o, .int .i64 ky, .int .i64 va, .int .i64 m, .slice psa sps.length psc][q]? := fun u => ((hV u).at HA1.out (fun h => h)).cell
  have hpu : ∀ u, (V u).cell? ⟨pb, 2, none⟩ = some (.int .i64 T) := fun u => by
    have := ((hV u).at H1.out.1.at_ (fun h => h)).cell 2
    simp only [PlD.cells, hct] at this
    exact this
  clear hV
  repeat (refine mix_read rfl rfl ?_; go_big_quiet_step (fail); refine wpQuiet_nil ?_)
  refine mix_effC (.int .i64 p) rfl rfl rfl ?_ ?_
  · intro w' hw'
    go_simp
    refine Calls.mono (HPk.out w') ?_
    rintro r w'' ⟨rfl, rfl⟩
    exact ⟨rfl, hw'⟩
  go_simp
  repeat (refine mix_read rfl rfl ?_; go_big_quiet_step (fail); refine wpQuiet_nil ?_)
  refine mix_nil ?_
  intro w2 hw2
  have H2 := (show Hid (PlAt own0 z w2 pb D) from H1.out.1.calm hw2)
  have HA2 := (show Hid (At w2 w.heap.size _ 34) from hw2.at HA1.out (fun h => h))
  have HX2 := (show Hid (FrP own z w w2) from Fr.trans HX.out.2.1 (Fr.mono hw2 (fun _ _ h => h.elim)))
  have HSp2 := (show Hid (Spans w2 psa sps.length sps) from HSp.out.1.keep hw2)
  clear hw2 hau hpu HPk
  have HFin := (show Hid (∀ (own3 : Own) (w3 w4 : World), Ext own0 own3 w2 → FrP own0 z w2 w3 → ∀ b', b' ≤ b + 400 → PlGoes own3 z w3 pb w4 (fun D1 => J D1 ∧ Sz b' D1) → PlGoes own z w pb w4 (fun D1 => J D1 ∧ Sz (b + 400) D1)) from by
    intro own3 w3 w4 he hf b' hb' hg
    have hsz : w.heap.size ≤ w2.heap.size := HX2.out.size
    obtain ⟨o5, d5, y1, y2, y3, y4, y5⟩ := PlGoes.trans (Ext.trans HX.out.1 he hsz) (FrP.trans HX2.out HX.out.1 hf) hg
    exact ⟨o5, d5, y1, y2, y3, y4, y5.mono hb'⟩)
  have hac := HA2.out.cell
  by_cases h1 : kd = 1
  · subst h1
    have HOp := (show Hid (Calls _ _ _ _ _) from opOf_calls ⟨1, tt, o, ky, va, m, psa, sps.length, psc, sps⟩ w2 HSp2.out HSp.out.2)
    simp only [actVal] at HOp
    go_wp2_with fail
    refine Calls.mono HOp.out ?_
    rintro r w4 ⟨xa, xc, rfl, hO⟩
    have HO := (show Hid (OwnSpans w2 w4 _ sps) from hO)
    clear hO HOp hac
    simp only [opVal]
    go_wp2_with fail
    generalize hw5 : World.alloc _ _ = w5
    have hf5 : Fr (fun _ => False) w4 w5 := by rw [← hw5]; exact (Fr.refl _ _).alloc _
    clear hw5
    have hf25 := HO.out.fr.trans hf5
    obtain ⟨own5, hP5, hE5, hop5⟩ := H2.out.boxes hf25 (HO.out.keep hf5) (Nat.le_refl _) ⟨o, ky, va, sps, .slice xa sps.length xc⟩ rfl rfl
    have hil := HI.out own5 w5 D hP5 H1.out.2.1
    obtain ⟨t1, ht1, _⟩ := HJ.out.busy H1.out.2.1 hil
    have hS := H1.out.2.2
    have HB := (show Hid (Calls _ _ _ _ _) from Pbegins_calls hP5 (HJ.out.ok H1.out.2.1) ht1 o ky va sps xa xc hop5 (by have := HSp.out.2; omega) (by unfold Sz at hS; omega))
    have HT := (show Hid (D.P.ts[f + p]? = some t1) from ht1)
    have HE5 := (show Hid (Ext own0 own5 w2 ∧ FrP own0 z w2 w5) from ⟨hE5, Fr.mono hf25 (fun _ _ h => h.elim)⟩)
    clear hf5 hf25 hP5 hE5 hop5 hil ht1 hS
    unfold pv opVal at HB
    simp only [Int.natCast_add] at HB
    go_wp2_with fail
    refine Calls.mono HB.out ?_
    rintro r w6 ⟨rfl, own6, D6, hP6, hE6, hF6, hB6⟩
    have HR := (show Hid (PlGoes own z w pb w6 (fun D1 => J D1 ∧ Sz (b + 400) D1)) from HFin.out own5 w5 w6 HE5.out.1 HE5.out.2 (b + 1) (by omega) ⟨own6, D6, hP6, hE6, hF6, HJ.out.beginAny H1.out.2.1 H1.out.2.2 HT.out (by omega) hB6⟩)
    clear hP6 hE6 hF6 hB6
    go_wp2
    go_ret
    exact ⟨rfl, HR.out⟩
  · have h1' : (kd == 1) = false := by simpa using h1
    by_cases h2 : kd = 2
    · subst h2
      obtain ⟨how, q0, q3, hcall⟩ := Psteps_any HJ.out H2.out H1.out.2.1 H1.out.2.2 (by omega) (HI.out _ _ _ H2.out H1.out.2.1) (show f ≤ f + p by omega)
      have HC := (show Hid (Calls _ _ _ _ _) from hcall)
      clear hcall h1
      unfold pv at HC
      simp only [Int.natCast_add] at HC
      go_wp2_with fail
      refine Calls.mono HC.out ?_
      rintro r w6 ⟨rfl, hg⟩
      have HR := (show Hid (PlGoes own z w pb w6 (fun D1 => J D1 ∧ Sz (b + 400) D1)) from HFin.out own0 w2 w6 (Ext.refl _ _) (Fr.refl _ _) (b + 1) (by omega) hg)
      clear hg
      go_wp2
      go_ret
      exact ⟨rfl, HR.out⟩
    · have h2' : (kd == 2) = false := by simpa using h2
      by_cases h3 : kd = 3
      · subst h3
        clear h1 h2
        have hp4 := pickN_in (c := m) (n := 40) (by omega)
        obtain ⟨q, hqq⟩ : ∃ q : Nat, Hid (pickN m 40 = q) := ⟨(pickN m 40).toNat, by show _ = _; omega⟩
        have hq40 : q < 40 := by have := hqq.out; omega
        have HPk := (show Hid (∀ w, Calls Tryz.prog 31 #[.int .i64 m, .int .i64 40] w fun r w' => r = .returned (.int .i64 q) ∧ w' = w) from by
          rw [← hqq.out]
          exact lpick_calls m 40 HM.out ⟨by omega, by omega⟩)
        have HC := (show Hid (Calls _ _ _ _ _) from Pruns_calls HJ.out H2.out H1.out.2.1 H1.out.2.2 (by omega) (i := f + p) (by simp only [Int.natCast_add]; exact hpT) (by omega) (1 + q) (by omega))
        unfold pv at HC
        simp only [Int.natCast_add] at HC
        clear hp4
        go_wp2_with fail
        refine Calls.mono (HPk.out w2) ?_
        rintro r w3 ⟨rfl, rfl⟩
        go_wp2_with fail
        refine Calls.mono HC.out ?_
        rintro r w6 ⟨rfl, hg⟩
        have HR := (show Hid (PlGoes own z w pb w6 (fun D1 => J D1 ∧ Sz (b + 400) D1)) from HFin.out own0 _ w6 (Ext.refl _ _) (Fr.refl _ _) (b + 40) (by omega) hg)
        clear hg
        go_wp2
        go_ret
        exact ⟨rfl, HR.out⟩
      · have h3' : (kd == 3) = false := by simpa using h3
        by_cases h4 : kd = 4
        · subst h4
          clear h1 h2 h3
          have hp4 := pickN_in (c := m) (n := 40) (by omega)
          obtain ⟨q, hqq⟩ : ∃ q : Nat, Hid (pickN m 40 = q) := ⟨(pickN m 40).toNat, by show _ = _; omega⟩
          have hq40 : q < 40 := by have := hqq.out; omega
          have HPk := (show Hid (∀ w, Calls Tryz.prog 31 #[.int .i64 m, .int .i64 40] w fun r w' => r = .returned (.int .i64 q) ∧ w' = w) from by
            rw [← hqq.out]
            exact lpick_calls m 40 HM.out ⟨by omega, by omega⟩)
          have HFt := (show Hid ((f : Int) < T) from hf)
          clear hp4 hf
          go_wp2
          clear hac
          go_loopw [11] (fun v wr => ∃ j : Nat, j ≤ q + 1 ∧ v = .int .i64 j ∧ Hid (PlGoes own0 z w2 pb wr (fun D1 => J D1 ∧ Sz (b + 8 * j) D1))) (fun v _ => q + 2 - (intOf v).toNat)
          case atStart => exact ⟨0, by omega, rfl, own0, D, H2.out, Ext.refl _ _, Fr.refl _ _, H1.out.2.1, H1.out.2.2⟩
          case round =>
            obtain ⟨j, hjq, rfl, HG⟩ := hrel
            obtain ⟨own3, D3, hP3, hE3, hF3, hj3, hS3⟩ := HG.out
            have hac := (hF3.at HA2.out (by rw [HX.out.2.2]; simp)).cell
            have HP3 := (show Hid (PlAt own3 z wr pb D3 ∧ J D3 ∧ Sz (b + 8 * j) D3) from ⟨hP3, hj3, hS3⟩)
            have HX3 := (show Hid (Ext own0 own3 w2 ∧ FrP own0 z w2 wr) from ⟨hE3, hF3⟩)
            clear hP3 hE3 hF3 hj3 hS3
            go_wp2_with fail
            refine Calls.mono (HPk.out wr) ?_
            rintro r w3 ⟨rfl, rfl⟩
            by_cases hlt : j ≤ q
            · have HB := (show Hid (b + 8 * j ≤ 2 ^ 37) from by show b + 8 * j ≤ 2 ^ 37; omega)
              go_wp2_with fail
              refine (Pturn_calls HJ.out HP3.out.1 HP3.out.2.1 HP3.out.2.2 HB.out HFt.out).mono ?_
              rintro r w4 ⟨mm, ss, rfl, hm8, own4, D4, hP4, hE4, hF4, hj4, hS4, hTu⟩
              have HG2 := (show Hid (PlGoes own0 z w2 pb w4 (fun D1 => J D1 ∧ Sz (b + 8 * (j + 1)) D1)) from PlGoes.trans HX3.out.1 HX3.out.2 ⟨own4, D4, hP4, hE4, hF4, hj4, hS4.mono (by omega)⟩)
              clear hP4 hE4 hF4 hj4 hS4 hTu hm8 HG hac
              go_wp2
              go_roundw
              case rel => exact ⟨j + 1, by omega, by go_num, HG2⟩
              case measure => simp [intOf]; omega
            · have HR := (show Hid (PlGoes own z w pb _ (fun D1 => J D1 ∧ Sz (b + 400) D1)) from HFin.out own3 _ _ HX3.out.1 HX3.out.2 (b + 8 * j) (by omega) ⟨own3, D3, HP3.out.1, Ext.refl _ _, Fr.refl _ _, HP3.out.2.1, HP3.out.2.2⟩)
              clear HG hac
              go_wp2
              go_ret
              exact ⟨rfl, HR.out⟩
        · have h4' : (kd == 4) = false := by simpa using h4
          by_cases h6 : kd = 6
          · subst h6
            clear h1 h2 h3 h4
            have hp4 := pickN_in (c := m) (n := 12) (by omega)
            obtain ⟨q, hqq⟩ : ∃ q : Nat, Hid (pickN m 12 = q) := ⟨(pickN m 12).toNat, by show _ = _; omega⟩
            have hq40 : q < 12 := by have := hqq.out; omega
            have HPk := (show Hid (∀ w, Calls Tryz.prog 31 #[.int .i64 m, .int .i64 12] w fun r w' => r = .returned (.int .i64 q) ∧ w' = w) from by
              rw [← hqq.out]
              exact lpick_calls m 12 HM.out ⟨by omega, by omega⟩)
            clear hp4
            go_wp2
            clear hac
            go_loopw [15] (fun v wr => ∃ j : Nat, j ≤ q + 1 ∧ v = .int .i64 j ∧ Hid (PlGoes own0 z w2 pb wr (fun D1 => J D1 ∧ Sz b D1))) (fun v _ => q + 2 - (intOf v).toNat)
            case atStart => exact ⟨0, by omega, rfl, own0, D, H2.out, Ext.refl _ _, Fr.refl _ _, H1.out.2.1, H1.out.2.2⟩
            case round =>
              obtain ⟨j, hjq, rfl, HG⟩ := hrel
              obtain ⟨own3, D3, hP3, hE3, hF3, hj3, hS3⟩ := HG.out
              have hac := (hF3.at HA2.out (by rw [HX.out.2.2]; simp)).cell
              have ha := hP3.at_.cell
              simp only [PlD.cells, pv] at ha
              have HP3 := (show Hid (PlAt own3 z wr pb D3 ∧ J D3 ∧ Sz b D3) from ⟨hP3, hj3, hS3⟩)
              have HX3 := (show Hid (Ext own0 own3 w2 ∧ FrP own0 z w2 wr) from ⟨hE3, hF3⟩)
              obtain ⟨how, q1, q3, hcall⟩ := Psweep_any HJ.out hP3 hj3 hS3
              have HC := (show Hid (Calls _ _ _ _ _) from hcall)
              unfold pv at HC
              clear hP3 hE3 hF3 hj3 hS3 hcall
              go_wp2_with fail
              refine Calls.mono (HPk.out wr) ?_
              rintro r w3 ⟨rfl, rfl⟩
              by_cases hlt : j ≤ q
              · go_wp2_with fail
                refine Calls.mono HC.out ?_
                rintro r w4 ⟨rfl, hg⟩
                have HG2 := (show Hid (PlGoes own0 z w2 pb w4 (fun D1 => J D1 ∧ Sz b D1)) from PlGoes.trans HX3.out.1 HX3.out.2 hg)
                clear hg HG hac ha HC
                go_wp2
                go_roundw
                case rel => exact ⟨j + 1, by omega, by go_num, HG2⟩
                case measure => simp [intOf]; omega
              · have HR := (show Hid (PlGoes own z w pb _ (fun D1 => J D1 ∧ Sz (b + 400) D1)) from HFin.out own3 _ _ HX3.out.1 HX3.out.2 b (by omega) ⟨own3, D3, HP3.out.1, Ext.refl _ _, Fr.refl _ _, HP3.out.2.1, HP3.out.2.2⟩)
                clear HG hac ha HC
                go_wp2
                go_ret
                exact ⟨rfl, HR.out⟩
          · have h6' : (kd == 6) = false := by simpa using h6
            clear h1 h2 h3 h4 h6
            have HR := (show Hid (PlGoes own z w pb w2 (fun D1 => J D1 ∧ Sz (b + 400) D1)) from HFin.out own0 w2 w2 (Ext.refl _ _) (Fr.refl _ _) b (by omega) ⟨own0, D, H2.out, Ext.refl _ _, Fr.refl _ _, H1.out.2.1, H1.out.2.2⟩)
            go_wp2
            go_ret
            exact ⟨rfl, HR.out⟩
end
end Go.Proofs.YtfccelbmacjifaaGreat

