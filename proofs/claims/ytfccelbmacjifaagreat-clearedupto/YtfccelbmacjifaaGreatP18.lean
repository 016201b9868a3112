import Derived.Test.YtfccelbmacjifaaGreatP17
import Derived.Test.YtfccelbmacjifaaGreatP0
import Derived.Laws.IdiomCopy
namespace Go.Proofs.YtfccelbmacjifaaGreat
open Go.RowKit
/-- A region that draws its order: it reads, it calls what only makes new blocks, and stores at last. -/
theorem wp_region_calmstore {Pg : Program} {id : Nat} {Q : Exit → Go.Act → World → Prop} {a : Go.Act} {w : World} {l : List Oper} (c e : Nat) (C : World → Prop) (hm : Pg.follows .mixedOrders = true) (hB : Region.lexB .any l.toArray = true)
    (hch : chainB .any l.toArray [c, e] = true) (hnd : [c, e].Nodup) (hcov : coverB .any l.toArray e = true) (hlow : lowB .any l.toArray = true) (hin : ∀ j ∈ [c, e], j < l.length)
    (h : ∀ (U : Type) (W : U → World), Nonempty U → (∀ u, Fr (fun _ => False) w (W u)) → wpMix Pg l.toArray (fun w' => ∃ u, w' = W u) (fun k w' => (k ≤ 1 → Fr (fun _ => False) w w') ∧ (k = 2 → C w')) [c, e] (fun a' => ∀ w', C w' → Q .normal a' w') l 0 0 a) :
    (Code.region id l.toArray true).wp Pg Q a w := by
  have hW := h { w' : World // Fr (fun _ => False) w w' } (fun u => u.1) ⟨⟨w, Fr.refl _ _⟩⟩ (fun u => u.2)
  refine wp_region_mixS [c, e] (fun w' => ∃ u : { w' : World // Fr (fun _ => False) w w' }, w' = u.1) (fun k w' => (k ≤ 1 → Fr (fun _ => False) w w') ∧ (k = 2 → C w')) 1 rfl hm hB hch hnd hlow hin ⟨fun _ => (Fr.refl _ _).drew, by simp⟩
    (fun k w' hk hw => ⟨⟨w', hw.1 hk⟩, rfl⟩) (.inl (by simpa using hcov)) ?_
  simpa using hW
section
variable {own : Own} {z : Nat} {w : World} {L : ZLay} {P : PSt}
/-- The clock is turned. -/
theorem ZAt.clockSet (h : ZAt own z w L P) (c : Int) : ZAt own z (w.setCell ⟨L.s, 2, none⟩ (.int .i64 c)) L { P with clock := c } ∧ FrZ own z w (w.setCell ⟨L.s, 2, none⟩ (.int .i64 c)) := by
  have hf : Fr (fun k => k = L.s) w (w.setCell ⟨L.s, 2, none⟩ (.int .i64 c)) := (Fr.refl _ _).set1 _ _
  have he := Ext.refl own w
  have hn : ∀ tag, tag ≠ Tag.store → ∀ k, own k = ⟨z, tag⟩ → ¬ k = L.s := by
    rintro tag hne k hk rfl; rw [h.hown] at hk; simp at hk; exact hne hk.symm
  refine ⟨⟨h.hd.set 2 _, h.hown, MAt.same h.mem hf (hn _ (by simp) _ h.mo) (hn _ (by simp) _ h.no) (hn _ (by simp) _ h.eo), h.mo, h.no, h.eo, h.th.fr hf he (hn _ (by simp)), h.wlen,
    fun i l t hl ht => (h.wk i l t hl ht).fr hf he (hn _ (by simp)) (fun k j => hn _ (by simp) k) (hn _ (by simp)), h.ret.fr hf he (hn _ (by simp)), h.few⟩, ?_⟩
  exact Fr.mono hf (by rintro k _ rfl; rw [h.hown])

set_option maxHeartbeats 4000000 in
set_option maxRecDepth 100000 in
theorem take_limit (h : ZAt own z w L P) {i : Nat} {l : WLay} {t : PThread} (hl : L.wks[i]? = some l) (ht : P.ts[i]? = some t) (hmade : t.work.made.length ≤ 2) (hlim : P.limit ≤ P.clock) :
    Calls Tryz.prog 135 #[.pointer (some ⟨L.s, 0, none⟩), .pointer (some ⟨l.b, 0, none⟩)] w fun e w' => e = .returned (.tuple #[]) ∧ ZGoes own z w L (P.take i t.work) w' := by
  have hE : Hid (P.take i t.work = (P.setM ((P.mem.unpend t.work.tsrc t.work.tside).frees t.work.made)).setW i (t.work.settle { err := 8 })) := by show _ = _; simp only [PSt.take, if_pos hlim]
  have hs := h.hd.cell
  simp only [PSt.head] at hs
  have H := (show Hid (ZAt own z w L P) from h)
  have HL := (show Hid (L.wks[i]? = some l) from hl)
  have Ht := (show Hid (P.ts[i]? = some t) from ht)
  clear h hl ht
  go_enter Tryz.func135, Tryz.ntmps135
  go_wp2_with fail
  go_quiet (fail)
  have hd : Fr (fun _ => False) w (w.drewN nq) := (Fr.refl _ _).drewN _
  have H1 := (show Hid (ZAt own z (w.drewN nq) L P) from H.out.calm hd)
  have HD := (show Hid (Fr (fun _ => False) w (w.drewN nq)) from hd)
  clear hd hs H
  generalize w.drewN nq = w1 at *
  go_wp2_with fail
  refine (undo_calls H1.out HL.out Ht.out hmade).mono ?_
  rintro e w2 ⟨rfl, hZ, hF⟩
  have H2 := (show Hid (ZAt own z w2 L _) from hZ)
  have HF2 := (show Hid (FrZ own z w w2) from FrZ.trans (Fr.mono HD.out (fun _ _ h => h.elim)) (Ext.refl _ _) hF)
  clear hZ hF
  go_wp2_with fail
  refine (settle_calls H2.out HL.out Ht.out { err := 8 } rfl).mono ?_
  rintro e w3 ⟨rfl, hG⟩
  have HG := (show Hid (ZGoes _ _ _ _ _ _) from hG)
  clear hG
  go_wp2
  refine bodyPost_ret (results_none rfl _ _ _) rfl ?_
  rw [hE.out, setT_work (P := P.setM ((P.mem.unpend t.work.tsrc t.work.tside).frees t.work.made)) Ht.out]
  exact ⟨rfl, ZGoes.trans (Ext.refl _ _) HF2.out rfl rfl rfl HG.out⟩

set_option maxHeartbeats 8000000 in
set_option maxRecDepth 100000 in
theorem take_remove (h : ZAt own z w L P) {i : Nat} {l : WLay} {t : PThread} (hl : L.wks[i]? = some l) (ht : P.ts[i]? = some t) (hlim : ¬ P.limit ≤ P.clock) (hc0 : 0 ≤ P.clock) (hl40 : P.limit ≤ 1099511627776) (hkd : t.work.kind = 2) :
    Calls Tryz.prog 135 #[.pointer (some ⟨L.s, 0, none⟩), .pointer (some ⟨l.b, 0, none⟩)] w fun e w' => e = .returned (.tuple #[]) ∧ ZGoes own z w L (P.take i t.work) w' := by
  have hE : Hid (P.take i t.work = ({ P with clock := P.clock + 1 } : PSt).setW i { t.work with ans := { did := true, stamp := P.clock + 1, value := (P.mem.node t.work.ahead).value }, next := 9 }) := by show _ = _; simp only [PSt.take, if_neg hlim, if_pos hkd]
  have hs := h.hd.cell
  simp only [PSt.head] at hs
  have H := (show Hid (ZAt own z w L P) from h)
  have HL := (show Hid (L.wks[i]? = some l) from hl)
  have Ht := (show Hid (P.ts[i]? = some t) from ht)
  clear h hl ht
  go_enter Tryz.func135, Tryz.ntmps135
  go_wp2_with fail
  go_quiet (fail)
  have hd : Fr (fun _ => False) w (w.drewN nq) := (Fr.refl _ _).drewN _
  have H1 := (show Hid (ZAt own z (w.drewN nq) L P) from H.out.calm hd)
  have HD := (show Hid (FrZ own z w (w.drewN nq)) from Fr.mono hd (fun _ _ h => h.elim))
  clear hd hs H
  generalize w.drewN nq = w1 at *
  obtain ⟨ha, haz, hal, hs, hsz, hsl, n1, n2⟩ := H1.out.view HL.out Ht.out
  simp only [PThread.cells, PSt.head, hkd] at ha hs
  obtain ⟨hZ2, hF2⟩ := H1.out.clockSet (P.clock + 1)
  have H2 := (show Hid (ZAt own z _ L _) from hZ2)
  have HF2 := (show Hid (FrZ own z w _) from FrZ.trans HD.out (Ext.refl _ _) hF2)
  have HT2 := (show Hid (At (w1.setCell ⟨L.s, 2, none⟩ (.int .i64 (P.clock + 1))) l.b _ _) from (hZ2.wk i l t HL.out Ht.out).at_)
  clear hZ2 hF2 H1 HD
  go_wp2_with fail
  have hG := H2.out.wkAns HL.out Ht.out (t' := { t with work := { t.work with ans := { did := true, stamp := P.clock + 1 } } }) (w' := (((((w1.setCell ⟨L.s, 2, none⟩ (.int .i64 (P.clock + 1))).setCell ⟨l.b, 18, none⟩ (.int .i64 0)).setCell ⟨l.b, 19, none⟩ (.bool true)).setCell ⟨l.b, 20, none⟩ (.int .i64 0)).setCell ⟨l.b, 21, none⟩ (.int .i64 (P.clock + 1))).setCell ⟨l.b, 22, none⟩ (.slice none 0 0))
    (by repeat (with_reducible first | refine Fr.set1 ?_ _ _ | exact Fr.refl _ _)) (((((HT2.out.set 18 _).set 19 _).set 20 _).set 21 _).set 22 _) rfl rfl rfl rfl rfl rfl
  have HG := (show Hid (ZGoes own z _ L _ _) from hG)
  clear hG ha haz hs hsz HT2 H2
  generalize ((((((w1.setCell ⟨L.s, 2, none⟩ (.int .i64 (P.clock + 1))).setCell ⟨l.b, 18, none⟩ (.int .i64 0)).setCell ⟨l.b, 19, none⟩ (.bool true)).setCell ⟨l.b, 20, none⟩ (.int .i64 0)).setCell ⟨l.b, 21, none⟩ (.int .i64 (P.clock + 1))).setCell ⟨l.b, 22, none⟩ (.slice none 0 0)) = w3 at *
  obtain ⟨own3, L3, hZ3, hE3, hF3, e1, e2, e3⟩ := HG.out
  obtain ⟨l3, hl3, hb3⟩ := wks_get e3 HL.out
  have H3 := (show Hid (ZAt own3 z w3 L3 _) from hZ3)
  have HE3 := (show Hid (Ext own own3 w) from fun j hj => hE3 j (Nat.lt_of_lt_of_le hj HF2.out.size))
  have HF3 := (show Hid (FrZ own z w w3) from FrZ.trans HF2.out (Ext.refl _ _) hF3)
  have HL3 := (show Hid (L3.wks[i]? = some l3) from hl3)
  have E1 := (show Hid (L3.s = L.s) from e1)
  have E2 := (show Hid (L3.ml = L.ml) from e2)
  have E3 := (show Hid (L3.wks.map (·.b) = L.wks.map (·.b)) from e3)
  have Ht3 := (show Hid (_ = some _) from setT_get ({ P with clock := P.clock + 1 } : PSt) Ht.out { t with work := { t.work with ans := { did := true, stamp := P.clock + 1 } } })
  rw [← e1, ← hb3]
  clear HG hZ3 hE3 hF3 e1 e2 e3 hl3 hb3 HF2 n1 n2 hal hsl
  have HT3 := (show Hid (At w3 l3.b _ _) from (H3.out.wk i l3 _ HL3.out Ht3.out).at_)
  refine wp_region_calmstore 10 16 (fun w' => ∃ w1, Fr (fun _ => False) w3 w1 ∧ w' = w1.setCell ⟨l3.b, 20, none⟩ (.int .i64 (P.mem.node t.work.ahead).value)) (by kernel_rfl) (by kernel_rfl) (by kernel_rfl) (by decide) (by kernel_rfl) (by kernel_rfl) (by decide) ?_
  intro U W hU hW
  have hau : ∀ u o, (W u).cell? ⟨L3.s, o, none⟩ = _ := fun u => ((H3.out).calm (hW u)).hd.cell
  have hlu : ∀ u o, (W u).cell? ⟨l3.b, o, none⟩ = _ := fun u => (((H3.out).calm (hW u)).wk i l3 _ HL3.out Ht3.out).at_.cell
  simp only [PSt.head, PSt.setT] at hau
  simp only [PThread.cells] at hlu
  clear hW
  repeat (refine mix_read rfl rfl ?_; go_big_quiet_step (fail); refine wpQuiet_nil ?_)
  refine mix_effC (nodeVal (P.mem.node t.work.ahead)) rfl rfl rfl ?_ ?_
  · intro w' hw'
    have hw0 := hw'.1 (by decide)
    go_simp
    refine (Node_calls (H3.out.calm hw0).mem t.work.ahead).mono ?_
    rintro e w'' ⟨rfl, hF⟩
    exact ⟨rfl, hw0.trans hF⟩
  have hfd := field_value (P.mem.node t.work.ahead)
  go_simp
  repeat (refine mix_read rfl rfl ?_; go_big_quiet_step (fail); refine wpQuiet_nil ?_)
  refine mix_effC undef rfl rfl rfl ?_ ?_
  · intro w' hw'
    have hw0 := hw'.1 (by decide)
    have hA := hw0.at HT3.out (fun h => h)
    have hc := hA.cell
    have hf := hA.frozen
    simp only [PThread.cells] at hc
    clear hau hlu
    go_simp
    exact ⟨rfl, w', hw0, rfl⟩
  go_simp
  refine mix_nil ?_
  intro w5 w4 hF4 hw5
  subst hw5
  clear hau hlu hfd
  have H4 := (show Hid (ZAt own3 z w4 L3 _) from H3.out.calm hF4)
  have HF4 := (show Hid (FrZ own z w w4) from FrZ.trans HF3.out HE3.out (Fr.mono hF4 (fun _ _ h => h.elim)))
  have HT4 := (show Hid (At w4 l3.b _ _) from (H4.out.wk i l3 _ HL3.out Ht3.out).at_)
  clear hF4 H3 HF3 HT3
  have ha := HT4.out.cell
  have haz := HT4.out.frozen
  simp only [PThread.cells] at ha
  go_wp2
  refine bodyPost_ret (results_none rfl _ _ _) rfl ?_
  rw [hE.out, setT_work (P := { P with clock := P.clock + 1 }) Ht.out]
  have R := H4.out.wkCells HL3.out Ht3.out (t' := { t with work := { t.work with ans := { did := true, stamp := P.clock + 1, value := (P.mem.node t.work.ahead).value }, next := 9 } }) (((Fr.refl _ _).set1 20 (.int .i64 (P.mem.node t.work.ahead).value)).set1 7 (.int .i64 9)) ((HT4.out.set 20 _).set 7 _) rfl rfl rfl rfl rfl rfl
  rw [setT_setT] at R
  exact ⟨rfl, ZGoes.trans HE3.out HF4.out E1.out E2.out E3.out (ZGoes.here R)⟩
end
end Go.Proofs.YtfccelbmacjifaaGreat

namespace Go.Proofs.YtfccelbmacjifaaGreat
open Go.RowKit
section
variable {own : Own} {z : Nat} {w : World} {L : ZLay} {P : PSt}
set_option maxHeartbeats 8000000 in
set_option maxRecDepth 100000 in
theorem take_insert (h : ZAt own z w L P) {i : Nat} {l : WLay} {t : PThread} (hl : L.wks[i]? = some l) (ht : P.ts[i]? = some t) (hlim : ¬ P.limit ≤ P.clock) (hc0 : 0 ≤ P.clock) (hl40 : P.limit ≤ 1099511627776) (hkd : ¬ t.work.kind = 2) (hmade : t.work.made.length ≤ 2) :
    Calls Tryz.prog 135 #[.pointer (some ⟨L.s, 0, none⟩), .pointer (some ⟨l.b, 0, none⟩)] w fun e w' => e = .returned (.tuple #[]) ∧ ZGoes own z w L (P.take i t.work) w' := by
  have hE : Hid (P.take i t.work = (({ P with clock := P.clock + 1 } : PSt).setM (P.mem.stampsNew (P.clock + 1) t.work.made)).setW i { t.work with ans := { did := true, stamp := P.clock + 1 }, next := 10 }) := by show _ = _; simp only [PSt.take, if_neg hlim, if_neg hkd]
  have hkd' : (t.work.kind == 2) = false := by simpa using hkd
  clear hkd
  have hs := h.hd.cell
  simp only [PSt.head] at hs
  have H := (show Hid (ZAt own z w L P) from h)
  have HL := (show Hid (L.wks[i]? = some l) from hl)
  have Ht := (show Hid (P.ts[i]? = some t) from ht)
  clear h hl ht
  go_enter Tryz.func135, Tryz.ntmps135
  go_wp2_with fail
  go_quiet (fail)
  have hd : Fr (fun _ => False) w (w.drewN nq) := (Fr.refl _ _).drewN _
  have H1 := (show Hid (ZAt own z (w.drewN nq) L P) from H.out.calm hd)
  have HD := (show Hid (FrZ own z w (w.drewN nq)) from Fr.mono hd (fun _ _ h => h.elim))
  clear hd hs H
  generalize w.drewN nq = w1 at *
  obtain ⟨ha, haz, hal, hs, hsz, hsl, n1, n2⟩ := H1.out.view HL.out Ht.out
  simp only [PThread.cells, PSt.head] at ha hs
  obtain ⟨ma0, mcap0, hmv0, _⟩ := ((H1.out.wk i l _ HL.out Ht.out).made).shape
  rw [hmv0] at ha
  obtain ⟨hZ2, hF2⟩ := H1.out.clockSet (P.clock + 1)
  have H2 := (show Hid (ZAt own z _ L _) from hZ2)
  have HF2 := (show Hid (FrZ own z w _) from FrZ.trans HD.out (Ext.refl _ _) hF2)
  have HT2 := (show Hid (At (w1.setCell ⟨L.s, 2, none⟩ (.int .i64 (P.clock + 1))) l.b _ _) from (hZ2.wk i l t HL.out Ht.out).at_)
  clear hZ2 hF2 H1 HD
  go_wp2_with fail
  have hG := H2.out.wkAns HL.out Ht.out (t' := { t with work := { t.work with ans := { did := true, stamp := P.clock + 1 } } }) (w' := (((((w1.setCell ⟨L.s, 2, none⟩ (.int .i64 (P.clock + 1))).setCell ⟨l.b, 18, none⟩ (.int .i64 0)).setCell ⟨l.b, 19, none⟩ (.bool true)).setCell ⟨l.b, 20, none⟩ (.int .i64 0)).setCell ⟨l.b, 21, none⟩ (.int .i64 (P.clock + 1))).setCell ⟨l.b, 22, none⟩ (.slice none 0 0))
    (by repeat (with_reducible first | refine Fr.set1 ?_ _ _ | exact Fr.refl _ _)) (((((HT2.out.set 18 _).set 19 _).set 20 _).set 21 _).set 22 _) rfl rfl rfl rfl rfl rfl
  have HG := (show Hid (ZGoes own z _ L _ _) from hG)
  clear hG ha haz hs hsz HT2 H2
  generalize ((((((w1.setCell ⟨L.s, 2, none⟩ (.int .i64 (P.clock + 1))).setCell ⟨l.b, 18, none⟩ (.int .i64 0)).setCell ⟨l.b, 19, none⟩ (.bool true)).setCell ⟨l.b, 20, none⟩ (.int .i64 0)).setCell ⟨l.b, 21, none⟩ (.int .i64 (P.clock + 1))).setCell ⟨l.b, 22, none⟩ (.slice none 0 0)) = w3 at *
  obtain ⟨own3, L3, hZ3, hE3, hF3, e1, e2, e3⟩ := HG.out
  obtain ⟨l3, hl3, hb3⟩ := wks_get e3 HL.out
  have H3 := (show Hid (ZAt own3 z w3 L3 _) from hZ3)
  have HE3 := (show Hid (Ext own own3 w) from fun j hj => hE3 j (Nat.lt_of_lt_of_le hj HF2.out.size))
  have HF3 := (show Hid (FrZ own z w w3) from FrZ.trans HF2.out (Ext.refl _ _) hF3)
  have HL3 := (show Hid (L3.wks[i]? = some l3) from hl3)
  have E1 := (show Hid (L3.s = L.s) from e1)
  have E2 := (show Hid (L3.ml = L.ml) from e2)
  have E3 := (show Hid (L3.wks.map (·.b) = L.wks.map (·.b)) from e3)
  have Ht3 := (show Hid (_ = some _) from setT_get ({ P with clock := P.clock + 1 } : PSt) Ht.out { t with work := { t.work with ans := { did := true, stamp := P.clock + 1 } } })
  rw [← e1, ← hb3]
  clear HG hZ3 hE3 hF3 e1 e2 e3 hl3 hb3 HF2 n1 n2 hal hsl
  obtain ⟨ma, mcap, hmv, hmg⟩ := ((H3.out.wk i l3 _ HL3.out Ht3.out).made).shape
  have HMV := (show Hid (l3.made = _) from hmv)
  have HMG := (show Hid (t.work.made.length ≠ 0 → _) from hmg)
  clear hmg
  generalize hP3 : ({ P with clock := P.clock + 1 } : PSt).setT i { t with work := { t.work with ans := { did := true, stamp := P.clock + 1 } } } = P3 at *
  generalize ht3 : ({ t with work := { t.work with ans := { did := true, stamp := P.clock + 1 } } } : PThread) = t3 at *
  have hmd : Hid (t3.work.made = t.work.made) := by show _ = _; rw [← ht3]
  have hcl : P3.clock = P.clock + 1 := by rw [← hP3]; rfl
  have hmm : Hid (P3.mem = P.mem) := by show _ = _; rw [← hP3]; rfl
  have H4 := (show Hid (ZAt own3 z w3 L3 (P3.setM (P3.mem.stampsNew (P.clock + 1) (t.work.made.take 0)))) from H3.out)
  have hlen3 : t3.work.made.length = t.work.made.length := by rw [hmd.out]
  have HT3 := (show Hid (At w3 l3.b _ _) from (H4.out.wk i l3 _ HL3.out Ht3.out).at_)
  have ha := HT3.out.cell
  simp only [PThread.cells] at ha
  rw [hmv, hlen3] at ha
  rw [hlen3] at hmv
  clear HT3 H3 ha
  go_loopw [4, 68] (fun _ j wr => ∃ k : Nat, k ≤ t.work.made.length ∧ j = .int .i64 k ∧ Hid (ZAt own3 z wr L3 (P3.setM (P3.mem.stampsNew (P.clock + 1) (t.work.made.take k)))) ∧ Hid (FrZ own z w wr)) (fun _ j _ => t.work.made.length - (intOf j).toNat)
  case atStart => exact ⟨0, Nat.zero_le _, rfl, H4, HF3⟩
  case round =>
    clear H4 HF3
    obtain ⟨k, hk, rfl, H2, HZF⟩ := hrel
    by_cases hlt : k < t.work.made.length
    · obtain ⟨g, rfl, _⟩ := HMG.out (by omega)
      have hx : t.work.made[k]? = some t.work.made[k] := List.getElem?_eq_getElem hlt
      have hnext : t.work.made.take (k + 1) = t.work.made.take k ++ [t.work.made[k]] := List.take_succ_eq_append_getElem hlt
      generalize t.work.made[k] = x at hx hnext
      have hE2 : Hid (P3.mem.stampsNew (P.clock + 1) (t.work.made.take (k + 1)) = (P3.mem.stampsNew (P.clock + 1) (t.work.made.take k)).stampNew x (P.clock + 1)) := by show _ = _; rw [hnext, stampsNew_append]; rfl
      have HX := (show Hid (t3.work.made[k]? = some x) from by rw [hmd.out]; exact hx)
      clear hx hnext
      go_wp2_with fail
      refine wp_region_one 16 L3.ml (fun w' => MAt w' L3.ml ((P3.mem.stampsNew (P.clock + 1) (t.work.made.take k)).stampNew x (P.clock + 1)) ∧ MFr L3.ml wr w') (fun _ h => h.2) (by kernel_rfl) (by kernel_rfl) (by kernel_rfl) (by kernel_rfl) (by decide) ?_
      intro U W hU hW
      have hau : ∀ u o, (W u).cell? ⟨L3.s, o, none⟩ = ((P3.setM (P3.mem.stampsNew (P.clock + 1) (t.work.made.take k))).head L3)[o]? := fun u => (H2.out.memCells (hW u)).1
      have hlu : ∀ u o, (W u).cell? ⟨l3.b, o, none⟩ = (t3.cells i l3)[o]? := fun u => (H2.out.memCells (hW u)).2 i l3 t3 HL3.out Ht3.out
      have hgu : ∀ u, (W u).cell? ⟨g, k, none⟩ = some (.int .i64 x) := fun u => H2.out.madeCell (hW u) HL3.out Ht3.out HMV.out HX.out
      simp only [PSt.head, PSt.setM, hcl] at hau
      simp only [PThread.cells, hmv] at hlu
      clear hW
      repeat (refine mix_read rfl rfl ?_; go_big_quiet_step (fail); refine wpQuiet_nil ?_)
      refine mix_effC (.tuple #[]) rfl rfl rfl ?_ ?_
      · intro w' hw'
        have hw0 := hw'.1 rfl
        go_simp
        refine (StampNew_calls (H2.out.calm hw0).mem x (P.clock + 1)).mono ?_
        rintro e w'' ⟨rfl, hM, hF⟩
        exact ⟨rfl, hM, (MFr.of0 hw0).trans hF⟩
      go_simp
      refine mix_nil ?_
      intro w5 hM5 hF5
      clear hau hlu hgu
      obtain ⟨hZ5, hZF5⟩ := H2.out.memSet hM5 hF5
      have H5 := (show Hid (ZAt own3 z w5 L3 (P3.setM (P3.mem.stampsNew (P.clock + 1) (t.work.made.take (k + 1))))) from by rw [hE2.out]; exact hZ5)
      have HZF5 := (show Hid (FrZ own z w w5) from FrZ.trans HZF.out HE3.out hZF5)
      clear hM5 hF5 hZ5 hZF5
      go_wp2
      go_roundw
      case rel => exact ⟨k + 1, by omega, by go_num, H5, HZF5⟩
      case measure => simp [intOf]; omega
    · have hk' : k = t.work.made.length := by omega
      subst hk'
      have H5 := H2.out
      rw [List.take_length] at H5
      have H6 := (show Hid (ZAt own3 z wr L3 _) from H5)
      clear H5 H2
      have HT6 := (show Hid (At wr l3.b _ _) from (H6.out.wk i l3 _ HL3.out Ht3.out).at_)
      have ha := HT6.out.cell
      have haz := HT6.out.frozen
      simp only [PThread.cells] at ha
      go_wp2
      go_end0
      rw [hE.out, setT_work (P := ({ P with clock := P.clock + 1 } : PSt).setM (P.mem.stampsNew (P.clock + 1) t.work.made)) Ht.out]
      have R := H6.out.wkCells HL3.out Ht3.out (t' := { t3 with work := { t3.work with next := 10 } }) ((Fr.refl _ _).set1 7 (.int .i64 10)) (HT6.out.set 7 _) rfl rfl rfl rfl rfl rfl
      refine ⟨rfl, ZGoes.trans HE3.out HZF.out E1.out E2.out E3.out ?_⟩
      have hfin : (P3.setM (P3.mem.stampsNew (P.clock + 1) t.work.made)).setT i { t3 with work := { t3.work with next := 10 } } = (({ P with clock := P.clock + 1 } : PSt).setM (P.mem.stampsNew (P.clock + 1) t.work.made)).setT i { t with work := { t.work with ans := { did := true, stamp := P.clock + 1 }, next := 10 } } := by
        rw [hmm.out, ← hP3, ← ht3]; simp [PSt.setM, PSt.setT, List.set_set]
      rw [hfin] at R
      exact ZGoes.here R
end
end Go.Proofs.YtfccelbmacjifaaGreat

namespace Go.Proofs.YtfccelbmacjifaaGreat
open Go.RowKit
section
variable {own : Own} {z : Nat} {w : World} {L : ZLay} {P : PSt}
set_option maxHeartbeats 4000000 in
set_option maxRecDepth 100000 in
theorem kill_calls (h : ZAt own z w L P) (hk : P.kind = 0) {i : Nat} {l : WLay} {t : PThread} (hl : L.wks[i]? = some l) (ht : P.ts[i]? = some t) :
    Calls Tryz.prog 136 #[.pointer (some ⟨L.s, 0, none⟩), .pointer (some ⟨l.b, 0, none⟩)] w fun e w' => e = .returned (.tuple #[]) ∧
      ZAt own z w' L ((P.setM (P.mem.kills (P.takenOut t.work))).setT i { t with work := { t.work with next := 10 } }) ∧ FrZ own z w w' := by
  have hE : Hid (P.mem.kills (P.takenOut t.work) = P.mem.kill t.work.ahead) := by show _ = _; simp [PSt.takenOut, hk, PMem.kills]
  have H := (show Hid (ZAt own z w L P) from h)
  have HL := (show Hid (L.wks[i]? = some l) from hl)
  have Ht := (show Hid (P.ts[i]? = some t) from ht)
  clear h hl ht
  go_enter Tryz.func136, Tryz.ntmps136
  go_wp2_with fail
  refine (nodesTakenOut_calls H.out hk HL.out Ht.out).mono ?_
  rintro e w1 ⟨b, rfl, hA, hF⟩
  have H1 := (show Hid (ZAt own z w1 L P) from H.out.calm hF)
  have HF1 := (show Hid (FrZ own z w w1) from Fr.mono hF (fun _ _ h => h.elim))
  have HA := (show Hid (At w1 b _ _) from hA)
  clear hF H hA
  go_wp2_with fail
  go_loopw [5, 11] (fun _ j wr => (j = .int .i64 0 ∧ Hid (wr = w1)) ∨ (j = .int .i64 1 ∧ Hid (ZAt own z wr L (P.setM (P.mem.kill t.work.ahead))) ∧ Hid (FrZ own z w wr))) (fun _ j _ => 1 - (intOf j).toNat)
  case atStart => exact .inl ⟨rfl, rfl⟩
  case round =>
    rcases hrel with ⟨rfl, hw⟩ | ⟨rfl, H2, HF2⟩
    · have hw' := hw.out
      subst hw'
      clear hw
      go_wp2_with fail
      refine wp_region_one 8 L.ml (fun w' => MAt w' L.ml (P.mem.kill t.work.ahead) ∧ MFr L.ml wr w') (fun _ h => h.2) (by kernel_rfl) (by kernel_rfl) (by kernel_rfl) (by kernel_rfl) (by decide) ?_
      intro U W hU hW
      have hau : ∀ u o, (W u).cell? ⟨L.s, o, none⟩ = (P.head L)[o]? := fun u => (H1.out.memCells (hW u)).1
      have hbu : ∀ u o, (W u).cell? ⟨b, o, none⟩ = ([.int .i64 t.work.ahead] : List Value)[o]? := by
        intro u
        have hnb : ¬ (b = L.ml.nb ∨ b = L.ml.eb) := by
          have h1 := HA.out.ne_row H1.out.mem.nodes (by decide)
          have h2 := HA.out.ne_row H1.out.mem.ents (by decide)
          simp [Value.ownBlock] at h1 h2
          rintro (e | e)
          · exact h1 e.symm
          · exact h2 e.symm
        exact (Fr.at (hW u) HA.out hnb).cell
      simp only [PSt.head] at hau
      clear hW
      repeat (refine mix_read rfl rfl ?_; go_big_quiet_step (fail); refine wpQuiet_nil ?_)
      refine mix_effC (.tuple #[]) rfl rfl rfl ?_ ?_
      · intro w' hw'
        have hw0 := hw'.1 rfl
        go_simp
        refine (Kill_calls (H1.out.calm hw0).mem t.work.ahead).mono ?_
        rintro e w'' ⟨rfl, hM, hF⟩
        exact ⟨rfl, hM, (MFr.of0 hw0).trans hF⟩
      go_simp
      refine mix_nil ?_
      intro w3 hM3 hF3
      clear hau hbu
      obtain ⟨hZ3, hZF3⟩ := H1.out.memSet hM3 hF3
      have H3 := (show Hid (ZAt own z w3 L _) from hZ3)
      have HF3 := (show Hid (FrZ own z w w3) from FrZ.trans HF1.out (Ext.refl _ _) hZF3)
      clear hM3 hF3 hZ3 hZF3
      go_wp2
      go_roundw
      case rel => exact .inr ⟨by go_num, H3, HF3⟩
      case measure => simp [intOf]
    · have HT := (show Hid (At wr l.b _ _) from (H2.out.wk i l t HL.out Ht.out).at_)
      have ha := HT.out.cell
      have haz := HT.out.frozen
      simp only [PThread.cells] at ha
      go_wp2
      go_end0
      rw [hE.out]
      have R := H2.out.wkCells HL.out Ht.out (t' := { t with work := { t.work with next := 10 } }) ((Fr.refl _ _).set1 7 (.int .i64 10)) (HT.out.set 7 _) rfl rfl rfl rfl rfl rfl
      exact ⟨rfl, R.1, FrZ.trans HF2.out (Ext.refl _ _) R.2⟩

set_option maxHeartbeats 8000000 in
set_option maxRecDepth 100000 in
theorem unlock_calls (h : ZAt own z w L P) (hk : P.kind = 0) {i : Nat} {l : WLay} {t : PThread} (hl : L.wks[i]? = some l) (ht : P.ts[i]? = some t) :
    Calls Tryz.prog 138 #[.pointer (some ⟨L.s, 0, none⟩), .pointer (some ⟨l.b, 0, none⟩)] w fun e w' => e = .returned (.tuple #[]) ∧ ZAt own z w' L (P.unlock i t.work) ∧ FrZ own z w w' := by
  have H := (show Hid (ZAt own z w L P) from h)
  have HL := (show Hid (L.wks[i]? = some l) from hl)
  have Ht := (show Hid (P.ts[i]? = some t) from ht)
  clear h hl ht
  go_enter Tryz.func138, Tryz.ntmps138
  go_wp2_with fail
  refine (giveBackLocks_calls H.out HL.out Ht.out).mono ?_
  rintro e w1 ⟨rfl, hZ, hF⟩
  have H1 := (show Hid (ZAt own z w1 L _) from hZ)
  have HF1 := (show Hid (FrZ own z w w1) from hF)
  have Ht1 := (show Hid (_ = some _) from setT_get (P.setM (P.mem.unlock i)) Ht.out { t with work := { t.work with locks := 0 } })
  clear hZ hF H
  have HT1 := (show Hid (At w1 l.b _ _) from (H1.out.wk i l _ HL.out Ht1.out).at_)
  have ha := HT1.out.cell
  have haz := HT1.out.frozen
  simp only [PThread.cells] at ha
  have fin0 : Hid (¬ (t.work.kind = 2 ∧ t.work.ans.did = true) → ((P.setM (P.mem.unlock i)).setT i { t with work := { t.work with locks := 0 } }).setT i { t with work := { t.work with locks := 0, next := 13 } } = P.unlock i t.work) := by
    intro hn
    rw [setT_setT]
    simp only [PSt.unlock, if_neg hn]
    rw [setT_work (P := P.setM (P.mem.unlock i)) Ht.out]
  cases hkd : (t.work.kind == 2)
  · go_wp2
    go_end0
    have R := H1.out.wkCells HL.out Ht1.out (t' := { t with work := { t.work with locks := 0, next := 13 } }) ((Fr.refl _ _).set1 7 (.int .i64 13)) (HT1.out.set 7 _) rfl rfl rfl rfl rfl rfl
    rw [fin0.out (by intro h; simp [h.1] at hkd)] at R
    exact ⟨rfl, R.1, FrZ.trans HF1.out (Ext.refl _ _) R.2⟩
  · cases hdid : t.work.ans.did
    · rw [hdid] at ha
      go_wp2
      go_end0
      have R := H1.out.wkCells HL.out Ht1.out (t' := { t with work := { t.work with locks := 0, next := 13 } }) ((Fr.refl _ _).set1 7 (.int .i64 13)) (HT1.out.set 7 _) rfl rfl rfl rfl rfl rfl
      rw [fin0.out (by intro h; rw [hdid] at h; cases h.2)] at R
      exact ⟨rfl, R.1, FrZ.trans HF1.out (Ext.refl _ _) R.2⟩
    · rw [hdid] at ha
      have hy : t.work.kind = 2 ∧ t.work.ans.did = true := ⟨by simpa using hkd, hdid⟩
      have hE : Hid (P.unlock i t.work = (P.setM ((P.mem.unlock i).retire t.work.ahead P.clock)).setT i { t with work := { t.work with locks := 0, next := 13 } }) := by
        show _ = _
        simp only [PSt.unlock, if_pos hy]
        have e2 : P.takenOut t.work = [t.work.ahead] := by simp [PSt.takenOut, hk]
        rw [e2, setT_work (P := P.setM ((P.mem.unlock i).retires P.clock [t.work.ahead])) Ht.out]
        rfl
      clear hy
      go_wp2_with fail
      refine (nodesTakenOut_calls H1.out hk HL.out Ht1.out).mono ?_
      rintro e w2 ⟨b, rfl, hA, hF⟩
      have H2 := (show Hid (ZAt own z w2 L _) from H1.out.calm hF)
      have HF2 := (show Hid (FrZ own z w w2) from FrZ.trans HF1.out (Ext.refl _ _) (Fr.mono hF (fun _ _ h => h.elim)))
      have HA := (show Hid (At w2 b _ _) from hA)
      clear hF H1 hA HF1 ha haz HT1
      go_wp2_with fail
      go_loopw [5, 28] (fun _ j wr => (j = .int .i64 0 ∧ Hid (wr = w2)) ∨ (j = .int .i64 1 ∧ Hid (ZAt own z wr L (((P.setM (P.mem.unlock i)).setT i { t with work := { t.work with locks := 0 } }).setM ((P.mem.unlock i).retire t.work.ahead P.clock))) ∧ Hid (FrZ own z w wr))) (fun _ j _ => 1 - (intOf j).toNat)
      case atStart => exact .inl ⟨rfl, rfl⟩
      case round =>
        rcases hrel with ⟨rfl, hw⟩ | ⟨rfl, H3, HF3⟩
        · have hw' := hw.out
          subst hw'
          clear hw
          go_wp2_with fail
          refine wp_region_one 12 L.ml (fun w' => MAt w' L.ml ((P.mem.unlock i).retire t.work.ahead P.clock) ∧ MFr L.ml wr w') (fun _ h => h.2) (by kernel_rfl) (by kernel_rfl) (by kernel_rfl) (by kernel_rfl) (by decide) ?_
          intro U W hU hW
          have hau : ∀ u o, (W u).cell? ⟨L.s, o, none⟩ = _ := fun u => (H2.out.memCells (hW u)).1
          have hbu : ∀ u o, (W u).cell? ⟨b, o, none⟩ = ([.int .i64 t.work.ahead] : List Value)[o]? := by
            intro u
            have hnb : ¬ (b = L.ml.nb ∨ b = L.ml.eb) := by
              have h1 := HA.out.ne_row H2.out.mem.nodes (by decide)
              have h2 := HA.out.ne_row H2.out.mem.ents (by decide)
              simp [Value.ownBlock] at h1 h2
              rintro (e | e)
              · exact h1 e.symm
              · exact h2 e.symm
            exact (Fr.at (hW u) HA.out hnb).cell
          simp only [PSt.head, PSt.setT, PSt.setM] at hau
          clear hW
          repeat (refine mix_read rfl rfl ?_; go_big_quiet_step (fail); refine wpQuiet_nil ?_)
          refine mix_effC (.tuple #[]) rfl rfl rfl ?_ ?_
          · intro w' hw'
            have hw0 := hw'.1 rfl
            go_simp
            refine (Retire_calls (H2.out.calm hw0).mem t.work.ahead P.clock).mono ?_
            rintro e w'' ⟨rfl, hM, hF⟩
            exact ⟨rfl, hM, (MFr.of0 hw0).trans hF⟩
          go_simp
          refine mix_nil ?_
          intro w3 hM3 hF3
          clear hau hbu
          obtain ⟨hZ3, hZF3⟩ := H2.out.memSet hM3 hF3
          have H3 := (show Hid (ZAt own z w3 L _) from hZ3)
          have HF3 := (show Hid (FrZ own z w w3) from FrZ.trans HF2.out (Ext.refl _ _) hZF3)
          clear hM3 hF3 hZ3 hZF3
          go_wp2
          go_roundw
          case rel => exact .inr ⟨by go_num, H3, HF3⟩
          case measure => simp [intOf]
        · have HT := (show Hid (At wr l.b _ _) from (H3.out.wk i l _ HL.out Ht1.out).at_)
          have ha := HT.out.cell
          have haz := HT.out.frozen
          simp only [PThread.cells] at ha
          go_wp2
          go_end0
          rw [hE.out]
          have R := H3.out.wkCells HL.out Ht1.out (t' := { t with work := { t.work with locks := 0, next := 13 } }) ((Fr.refl _ _).set1 7 (.int .i64 13)) (HT.out.set 7 _) rfl rfl rfl rfl rfl rfl
          have hfin : (((P.setM (P.mem.unlock i)).setT i { t with work := { t.work with locks := 0 } }).setM ((P.mem.unlock i).retire t.work.ahead P.clock)).setT i { t with work := { t.work with locks := 0, next := 13 } } = (P.setM ((P.mem.unlock i).retire t.work.ahead P.clock)).setT i { t with work := { t.work with locks := 0, next := 13 } } := by
            simp [PSt.setM, PSt.setT, List.set_set]
          rw [hfin] at R
          exact ⟨rfl, R.1, FrZ.trans HF3.out (Ext.refl _ _) R.2⟩
end
end Go.Proofs.YtfccelbmacjifaaGreat

namespace Go.Proofs.YtfccelbmacjifaaGreat
open Go.RowKit
/-- What a step of an update wants to know of the store and of the work. -/
structure PUpd (P : PSt) (k : PWork) : Prop where
  kind : P.kind = 0
  made : k.made.length ≤ 2
  locks : k.locks ≤ 2
  c0 : 0 ≤ P.clock
  lim : P.limit ≤ 1099511627776
section
variable {own : Own} {z : Nat} {w : World} {L : ZLay} {P : PSt}
set_option maxHeartbeats 4000000 in
set_option maxRecDepth 100000 in
theorem update_low (h : ZAt own z w L P) {i : Nat} {l : WLay} {t : PThread} (hl : L.wks[i]? = some l) (ht : P.ts[i]? = some t) (hU : PUpd P t.work) (hn : t.work.next = 4 ∨ t.work.next = 5 ∨ t.work.next = 6 ∨ t.work.next = 7 ∨ t.work.next = 8 ∨ t.work.next = 9 ∨ t.work.next = 12) :
    Calls Tryz.prog 113 #[.pointer (some ⟨L.s, 0, none⟩), .pointer (some ⟨l.b, 0, none⟩)] w fun e w' => e = .returned (.int .i64 (P.update i t.work).2) ∧ ZGoes own z w L (P.update i t.work).1 w' := by
  have ha := (h.wk i l t hl ht).at_.cell
  simp only [PThread.cells] at ha
  have H := (show Hid (ZAt own z w L P) from h)
  have HL := (show Hid (L.wks[i]? = some l) from hl)
  have Ht := (show Hid (P.ts[i]? = some t) from ht)
  have HU := (show Hid (PUpd P t.work) from hU)
  clear h hl ht hU
  rcases hn with hn | hn | hn | hn | hn | hn | hn
  · have hE : Hid (P.update i t.work = (P.setW i (P.walk t.work), 1)) := by show _ = _; simp only [PSt.update, hn]
    rw [hn] at ha
    clear hn
    go_enter Tryz.func113, Tryz.ntmps113
    go_wp2_with fail
    refine (walk_calls H.out HL.out Ht.out).mono ?_
    rintro e w1 ⟨rfl, hZ, hF⟩
    have HG := (show Hid (ZGoes own z w L _ w1) from ZGoes.here ⟨hZ, hF⟩)
    clear hZ hF ha
    go_wp2
    go_ret
    rw [hE.out, setT_work Ht.out]
    exact ⟨rfl, HG.out⟩
  · have hE : Hid (P.update i t.work = P.lock i t.work) := by show _ = _; simp only [PSt.update, hn]
    rw [hn] at ha
    clear hn
    go_enter Tryz.func113, Tryz.ntmps113
    go_wp2_with fail
    refine (lock_calls H.out HU.out.kind HL.out Ht.out HU.out.locks).mono ?_
    rintro e w1 ⟨rfl, hZ, hF⟩
    have HG := (show Hid (ZGoes own z w L _ w1) from ZGoes.here ⟨hZ, hF⟩)
    clear hZ hF ha
    go_wp2
    go_ret
    rw [hE.out]
    exact ⟨rfl, HG.out⟩
  · have hE : Hid (P.update i t.work = (P.check i t.work, 1)) := by show _ = _; simp only [PSt.update, hn]
    rw [hn] at ha
    clear hn
    go_enter Tryz.func113, Tryz.ntmps113
    go_wp2_with fail
    refine (check_calls H.out HU.out.kind HL.out Ht.out).mono ?_
    rintro e w1 ⟨rfl, hG⟩
    have HG := (show Hid (ZGoes own z w L _ w1) from hG)
    clear hG ha
    go_wp2
    go_ret
    rw [hE.out]
    exact ⟨rfl, HG.out⟩
  · have hE : Hid (P.update i t.work = (P.prepare i t.work, 1)) := by show _ = _; simp only [PSt.update, hn]
    rw [hn] at ha
    clear hn
    go_enter Tryz.func113, Tryz.ntmps113
    go_wp2_with fail
    refine (prepare_calls H.out HU.out.kind HL.out Ht.out HU.out.made).mono ?_
    rintro e w1 ⟨rfl, hG⟩
    have HG := (show Hid (ZGoes own z w L _ w1) from hG)
    clear hG ha
    go_wp2
    go_ret
    rw [hE.out]
    exact ⟨rfl, HG.out⟩
  · have hE : Hid (P.update i t.work = (P.take i t.work, 1)) := by show _ = _; simp only [PSt.update, hn]
    rw [hn] at ha
    clear hn
    have HC : Hid (Calls Tryz.prog 135 #[.pointer (some ⟨L.s, 0, none⟩), .pointer (some ⟨l.b, 0, none⟩)] w fun e w' => e = .returned (.tuple #[]) ∧ ZGoes own z w L (P.take i t.work) w') := by
      by_cases hlim : P.limit ≤ P.clock
      · exact take_limit H.out HL.out Ht.out HU.out.made hlim
      · by_cases hkd : t.work.kind = 2
        · exact take_remove H.out HL.out Ht.out hlim HU.out.c0 HU.out.lim hkd
        · exact take_insert H.out HL.out Ht.out hlim HU.out.c0 HU.out.lim hkd HU.out.made
    go_enter Tryz.func113, Tryz.ntmps113
    go_wp2_with fail
    refine Calls.mono HC.out ?_
    rintro e w1 ⟨rfl, hG⟩
    have HG := (show Hid (ZGoes own z w L _ w1) from hG)
    clear hG ha
    go_wp2
    go_ret
    rw [hE.out]
    exact ⟨rfl, HG.out⟩
  · have hE : Hid (P.update i t.work = ((P.setM (P.mem.kills (P.takenOut t.work))).setW i { t.work with next := 10 }, 1)) := by show _ = _; simp only [PSt.update, hn]
    rw [hn] at ha
    clear hn
    go_enter Tryz.func113, Tryz.ntmps113
    go_wp2_with fail
    refine (kill_calls H.out HU.out.kind HL.out Ht.out).mono ?_
    rintro e w1 ⟨rfl, hZ, hF⟩
    have HG := (show Hid (ZGoes own z w L _ w1) from ZGoes.here ⟨hZ, hF⟩)
    clear hZ hF ha
    go_wp2
    go_ret
    rw [hE.out, setT_work (P := P.setM (P.mem.kills (P.takenOut t.work))) Ht.out]
    exact ⟨rfl, HG.out⟩
  · have hE : Hid (P.update i t.work = (P.unlock i t.work, 1)) := by show _ = _; simp only [PSt.update, hn]
    rw [hn] at ha
    clear hn
    go_enter Tryz.func113, Tryz.ntmps113
    go_wp2_with fail
    refine (unlock_calls H.out HU.out.kind HL.out Ht.out).mono ?_
    rintro e w1 ⟨rfl, hZ, hF⟩
    have HG := (show Hid (ZGoes own z w L _ w1) from ZGoes.here ⟨hZ, hF⟩)
    clear hZ hF ha
    go_wp2
    go_ret
    rw [hE.out]
    exact ⟨rfl, HG.out⟩

set_option maxHeartbeats 4000000 in
set_option maxRecDepth 100000 in
theorem update_10 (h : ZAt own z w L P) {i : Nat} {l : WLay} {t : PThread} (hl : L.wks[i]? = some l) (ht : P.ts[i]? = some t) (hn : t.work.next = 10) :
    Calls Tryz.prog 113 #[.pointer (some ⟨L.s, 0, none⟩), .pointer (some ⟨l.b, 0, none⟩)] w fun e w' => e = .returned (.int .i64 (P.update i t.work).2) ∧ ZGoes own z w L (P.update i t.work).1 w' := by
  have hE : Hid (P.update i t.work = ((P.setM (P.mem.lead t.work.tsrc t.work.tside)).setW i { t.work with next := 11 }, 1)) := by show _ = _; simp only [PSt.update, hn]
  have ha := (h.wk i l t hl ht).at_.cell
  simp only [PThread.cells, hn] at ha
  have H := (show Hid (ZAt own z w L P) from h)
  have HL := (show Hid (L.wks[i]? = some l) from hl)
  have Ht := (show Hid (P.ts[i]? = some t) from ht)
  clear h hl ht hn
  go_enter Tryz.func113, Tryz.ntmps113
  go_wp2_with fail
  refine wp_region_one 9 L.ml (fun w' => MAt w' L.ml (P.mem.lead t.work.tsrc t.work.tside) ∧ MFr L.ml w w') (fun _ h => h.2) (by kernel_rfl) (by kernel_rfl) (by kernel_rfl) (by kernel_rfl) (by decide) ?_
  intro U W hU hW
  have hau : ∀ u o, (W u).cell? ⟨L.s, o, none⟩ = (P.head L)[o]? := fun u => (H.out.memCells (hW u)).1
  have hlu : ∀ u o, (W u).cell? ⟨l.b, o, none⟩ = (t.cells i l)[o]? := fun u => (H.out.memCells (hW u)).2 i l t HL.out Ht.out
  simp only [PSt.head] at hau
  simp only [PThread.cells] at hlu
  clear hW ha
  repeat (refine mix_read rfl rfl ?_; go_big_quiet_step (fail); refine wpQuiet_nil ?_)
  refine mix_effC (.tuple #[]) rfl rfl rfl ?_ ?_
  · intro w' hw'
    have hw0 := hw'.1 rfl
    go_simp
    refine (Lead_calls (H.out.calm hw0).mem t.work.tsrc t.work.tside).mono ?_
    rintro e w'' ⟨rfl, hM, hF⟩
    exact ⟨rfl, hM, (MFr.of0 hw0).trans hF⟩
  go_simp
  refine mix_nil ?_
  intro w2 hM2 hF2
  clear hau hlu
  obtain ⟨hZ2, hZF⟩ := H.out.memSet hM2 hF2
  have H2 := (show Hid (ZAt own z w2 L _) from hZ2)
  have HZF := (show Hid (FrZ own z w w2) from hZF)
  have HT := (show Hid (At w2 l.b _ _) from (H2.out.wk i l t HL.out Ht.out).at_)
  have ha := HT.out.cell
  have haz := HT.out.frozen
  simp only [PThread.cells] at ha
  clear hM2 hF2 hZ2 hZF
  go_wp2
  go_ret
  rw [hE.out, setT_work (P := P.setM (P.mem.lead t.work.tsrc t.work.tside)) Ht.out]
  have R := H2.out.wkCells HL.out Ht.out (t' := { t with work := { t.work with next := 11 } }) ((Fr.refl _ _).set1 7 (.int .i64 11)) (HT.out.set 7 _) rfl rfl rfl rfl rfl rfl
  exact ⟨rfl, ZGoes.here ⟨R.1, FrZ.trans HZF.out (Ext.refl _ _) R.2⟩⟩

set_option maxHeartbeats 4000000 in
set_option maxRecDepth 100000 in
theorem update_11 (h : ZAt own z w L P) {i : Nat} {l : WLay} {t : PThread} (hl : L.wks[i]? = some l) (ht : P.ts[i]? = some t) (hn : t.work.next = 11) :
    Calls Tryz.prog 113 #[.pointer (some ⟨L.s, 0, none⟩), .pointer (some ⟨l.b, 0, none⟩)] w fun e w' => e = .returned (.int .i64 (P.update i t.work).2) ∧ ZGoes own z w L (P.update i t.work).1 w' := by
  have hE : Hid (P.update i t.work = ((P.setM (P.mem.stamp t.work.tsrc t.work.tside t.work.ans.stamp)).setW i { t.work with next := 12 }, 1)) := by show _ = _; simp only [PSt.update, hn]
  have ha := (h.wk i l t hl ht).at_.cell
  simp only [PThread.cells, hn] at ha
  have H := (show Hid (ZAt own z w L P) from h)
  have HL := (show Hid (L.wks[i]? = some l) from hl)
  have Ht := (show Hid (P.ts[i]? = some t) from ht)
  clear h hl ht hn
  go_enter Tryz.func113, Tryz.ntmps113
  go_wp2_with fail
  refine wp_region_one 15 L.ml (fun w' => MAt w' L.ml (P.mem.stamp t.work.tsrc t.work.tside t.work.ans.stamp) ∧ MFr L.ml w w') (fun _ h => h.2) (by kernel_rfl) (by kernel_rfl) (by kernel_rfl) (by kernel_rfl) (by decide) ?_
  intro U W hU hW
  have hau : ∀ u o, (W u).cell? ⟨L.s, o, none⟩ = (P.head L)[o]? := fun u => (H.out.memCells (hW u)).1
  have hlu : ∀ u o, (W u).cell? ⟨l.b, o, none⟩ = (t.cells i l)[o]? := fun u => (H.out.memCells (hW u)).2 i l t HL.out Ht.out
  simp only [PSt.head] at hau
  simp only [PThread.cells] at hlu
  clear hW ha
  repeat (refine mix_read rfl rfl ?_; go_big_quiet_step (fail); refine wpQuiet_nil ?_)
  refine mix_effC (.tuple #[]) rfl rfl rfl ?_ ?_
  · intro w' hw'
    have hw0 := hw'.1 rfl
    go_simp
    refine (Stamp_calls (H.out.calm hw0).mem t.work.tsrc t.work.tside t.work.ans.stamp).mono ?_
    rintro e w'' ⟨rfl, hM, hF⟩
    exact ⟨rfl, hM, (MFr.of0 hw0).trans hF⟩
  go_simp
  refine mix_nil ?_
  intro w2 hM2 hF2
  clear hau hlu
  obtain ⟨hZ2, hZF⟩ := H.out.memSet hM2 hF2
  have H2 := (show Hid (ZAt own z w2 L _) from hZ2)
  have HZF := (show Hid (FrZ own z w w2) from hZF)
  have HT := (show Hid (At w2 l.b _ _) from (H2.out.wk i l t HL.out Ht.out).at_)
  have ha := HT.out.cell
  have haz := HT.out.frozen
  simp only [PThread.cells] at ha
  clear hM2 hF2 hZ2 hZF
  go_wp2
  go_ret
  rw [hE.out, setT_work (P := P.setM (P.mem.stamp t.work.tsrc t.work.tside t.work.ans.stamp)) Ht.out]
  have R := H2.out.wkCells HL.out Ht.out (t' := { t with work := { t.work with next := 12 } }) ((Fr.refl _ _).set1 7 (.int .i64 12)) (HT.out.set 7 _) rfl rfl rfl rfl rfl rfl
  exact ⟨rfl, ZGoes.here ⟨R.1, FrZ.trans HZF.out (Ext.refl _ _) R.2⟩⟩
end
end Go.Proofs.YtfccelbmacjifaaGreat

namespace Go.Proofs.YtfccelbmacjifaaGreat
open Go.RowKit
def setAll (c : List Value) (o : Nat) : List Value → List Value
  | [] => c
  | v :: r => setAll (c.set o v) (o + 1) r
theorem At.setCells {b : Nat} {e : TypeId} : ∀ (vs : List Value) (o : Nat) (w : World) (c : List Value), At w b c e → At (w.setCells b o vs) b (setAll c o vs) e
  | [], _, _, _, h => h
  | v :: r, o, _, _, h => At.setCells r (o + 1) _ _ (h.set o v)
theorem Fr.setCells {S : Nat → Prop} {b : Nat} {a : World} (hb : S b) : ∀ (vs : List Value) (o : Nat) (w : World), Fr S a w → Fr S a (w.setCells b o vs)
  | [], _, _, h => h
  | v :: r, o, _, h => Fr.setCells hb r (o + 1) _ (Fr.setIn hb h o v)
/-- A struct is stored whole. -/
theorem wpList_storeAgg {P : Program} (w : World) {ops : Array Oper} {rest : List Oper} {o : Oper} {a : Act} {Q : Exit → Act → World → Prop} (hgd : o.guard = none) (p x : Operand) (t : TypeId) (ho : o.op = .store t p x) (b off : Nat) (vs : List Value)
    (hp : a.eval p = .pointer (some ⟨b, off, none⟩)) (hx : a.eval x = .agg vs.toArray) (hs : ∀ w : World, (sizeOf t).run P w = .ok vs.length w) (c : List Value) (e : TypeId) (hA : At w b c e) (hfit : off + vs.length ≤ c.length) (h1 : ∀ v ∈ vs, v.oneCell' = true)
    (h : wpList P ops Q rest (a.put o.dst undef) (w.setCells b off vs)) : wpList P ops Q (o :: rest) a w := by
  have hst := run_storeCells_cells (P := P) b off vs 0 w (by
    intro j hj
    rw [Nat.add_zero, hA.cell, List.getElem?_eq_getElem (by omega)]; rfl) (by intro j hj; exact hA.frozen _) h1
  rw [Nat.add_zero] at hst
  refine wpList_plain hgd fun K hK => ?_
  unfold Oper.wp
  have hrun : (execOp a.eval o).run P w = .ok .skip (w.setCells b off vs) := by
    simp only [execOp, ho, hp, hx]
    simp [go_sem, storeVar, hs, hst, Value.cells]
  rw [hrun]
  exact hK _ _ h
/-- A struct is loaded whole. -/
theorem run_loadAll {P : Program} (w : World) (b off : Nat) (vs : List Value) (hc : ∀ j v, vs[j]? = some v → w.cell? ⟨b, off + j, none⟩ = some v) : (loadCellsFrom ⟨b, off, none⟩ 0 vs.length #[]).run P w = .ok vs.toArray w :=
  run_loadCells_list (P := P) (w := w) ⟨b, off, none⟩ vs (by intro j v hv; rw [Addr.add_lit]; exact hc j v hv)
theorem wpList_loadAgg {P : Program} (w : World) {ops : Array Oper} {rest : List Oper} {o : Oper} {a : Act} {Q : Exit → Act → World → Prop} (hgd : o.guard = none) (p : Operand) (t : TypeId) (ho : o.op = .load t p) (b off : Nat) (vs : List Value)
    (hp : a.eval p = .pointer (some ⟨b, off, none⟩)) (hag : ∀ w : World, (isAgg t).run P w = .ok true w) (hs : ∀ w : World, (sizeOf t).run P w = .ok vs.length w) (hc : ∀ j v, vs[j]? = some v → w.cell? ⟨b, off + j, none⟩ = some v)
    (h : wpList P ops Q rest (a.put o.dst (.agg vs.toArray)) w) : wpList P ops Q (o :: rest) a w := by
  have hl := run_loadAll (P := P) w b off vs hc
  refine wpList_plain hgd fun K hK => ?_
  unfold Oper.wp
  have hrun : (execOp a.eval o).run P w = .ok (.value (.agg vs.toArray)) w := by
    simp only [execOp, ho, hp]
    simp [go_sem, Instr.loadAt, hag, hs, hl]
  rw [hrun]
  exact hK _ _ h
theorem results_cellAgg {P : Program} {fn : Func} {k : Tmp} {t : TypeId} (hr : fn.results = #[.cell k t]) (tmps : Array Value) (w : World) (b off : Nat) (vs : List Value) (hp : tmps.getD k undef = .pointer (some ⟨b, off, none⟩))
    (hag : ∀ w : World, (isAgg t).run P w = .ok true w) (hs : ∀ w : World, (sizeOf t).run P w = .ok vs.length w) (hc : ∀ j v, vs[j]? = some v → w.cell? ⟨b, off + j, none⟩ = some v) : (results fn tmps).run P w = .ok (.agg vs.toArray) w := by
  have hl := run_loadAll (P := P) w b off vs hc
  have hp' : tmps[k]?.getD undef = .pointer (some ⟨b, off, none⟩) := by simpa using hp
  simp only [results, hr]
  simp [go_sem, hp', hag, hs, hl]
end Go.Proofs.YtfccelbmacjifaaGreat

