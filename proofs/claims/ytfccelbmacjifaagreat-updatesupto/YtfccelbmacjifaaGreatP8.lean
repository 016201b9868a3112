import Derived.Test.YtfccelbmacjifaaGreatP7
import Derived.Test.YtfccelbmacjifaaGreatP3
namespace Go.Proofs.YtfccelbmacjifaaGreat
open Go.RowKit
theorem Tryz.infoIntZ : (Tryz.prog.info? 3).map (fun i => (i.zero, i.size, i.bytes)) = some (some (.int .i64 0), 1, 8) := by kernel_rfl
section
variable {own : Own} {z : Nat} {w : World} {L : ZLay} {P : PSt}
/-- One node more among those that an Insert has made. -/
theorem ZAt.wkMade (h : ZAt own z w L P) {w' : World} {i g cap : Nat} {l : WLay} {t t' : PThread} (hl : L.wks[i]? = some l) (ht : P.ts[i]? = some t) (hf : Fr (fun k => l.made.ownBlock = some k ∨ k = l.b) w w')
    (hg : l.made.ownBlock = some g ∨ w.heap.size ≤ g) (ho : w'.ownsRow 0 3 1 (.slice (some ⟨g, 0, none⟩) t'.work.made.length cap) t'.work.made.length (intCells t'.work.made))
    (hA : At w' l.b (t'.cells i { l with made := .slice (some ⟨g, 0, none⟩) t'.work.made.length cap }) 114)
    (e1 : t'.work.spans = t.work.spans) (e3 : t'.work.links = t.work.links) (e4 : t'.work.noted = t.work.noted) (e6 : t'.work.ans.spans = t.work.ans.spans) (e7 : t'.last.spans = t.last.spans) :
    ∃ own', Ext own own' w ∧ ZAt own' z w' { L with wks := L.wks.set i { l with made := .slice (some ⟨g, 0, none⟩) t'.work.made.length cap } } (P.setT i t') ∧ FrZ own z w w' := by
  have hT := h.wk i l t hl ht
  have hE : Ext own (own.put g z (.tr i 1)) w := by
    refine Ext.put' (Ext.refl _ _) ?_
    rcases hg with hg | hg
    · exact .inl (hT.made.tg g hg)
    · exact .inr hg
  have hF : FrT own z (fun t => t = .thread i ∨ ∃ k, t = .tr i k) w w' := by
    refine FrT.of hf ?_
    rintro k (hk | rfl)
    · rw [hT.made.tg k hk]; exact ⟨rfl, .inr ⟨1, rfl⟩⟩
    · rw [hT.tg]; exact ⟨rfl, .inl rfl⟩
  have hn : ∀ tag, tag ≠ Tag.thread i → tag ≠ Tag.tr i 1 → ∀ k, own k = ⟨z, tag⟩ → ¬ (l.made.ownBlock = some k ∨ k = l.b) := by
    rintro tag h1 h2 k hk (hk' | rfl)
    · rw [hT.made.tg k hk'] at hk; simp at hk; exact h2 hk.symm
    · rw [hT.tg] at hk; simp at hk; exact h1 hk.symm
  refine ⟨own.put g z (.tr i 1), hE, h.wkSet hl rfl hF hE ⟨hA, by rw [hE _ hT.at_.lt]; exact hT.tg, ?_, ⟨ho, ?_⟩, ?_, ?_, ?_, ?_⟩, hF.zone⟩
  · rw [e1]; exact hT.spans.fr hf hE (hn _ (by simp) (by simp))
  · intro k hk; simp [Value.ownBlock] at hk; subst hk; exact Own.put_same _ _ _ _
  · rw [e3]; exact hT.links.fr hf hE (hn _ (by simp) (by simp))
  · rw [e4]; exact hT.noted.fr hf hE (hn _ (by simp) (by simp))
  · rw [e6]; exact hT.alists.fr hf hE (hn _ (by simp) (by simp))
  · rw [e7]; exact hT.llists.fr hf hE (hn _ (by simp) (by simp))

set_option maxHeartbeats 8000000 in
set_option maxRecDepth 100000 in
theorem prepareInsert_calls (h : ZAt own z w L P) (hk : P.kind = 0) {i : Nat} {l : WLay} {t : PThread} (hl : L.wks[i]? = some l) (ht : P.ts[i]? = some t) (hmade : t.work.made.length ≤ 2) :
    Calls Tryz.prog 168 #[.pointer (some ⟨L.s, 0, none⟩), .pointer (some ⟨l.b, 0, none⟩)] w fun e w' => e = .returned (.tuple #[]) ∧
      ZGoes own z w L ((P.setM (P.prepareInsert t.work).1).setT i { t with work := (P.prepareInsert t.work).2 }) w' := by
  generalize hMe : P.mem.make t.work.key t.work.value = q
  have hE : Hid (P.prepareInsert t.work = ((q.1.addLink q.2 t.work.ahead).pend t.work.stand (q.1.sideFor t.work.stand t.work.key) q.2, { t.work with made := t.work.made ++ [q.2], tsrc := t.work.stand, tside := q.1.sideFor t.work.stand t.work.key })) := by
    show _ = _; simp only [PSt.prepareInsert, if_pos hk, hMe]
  obtain ⟨iI, hiI, hzI, hsI, hbI⟩ := info_parts Tryz.infoIntZ
  have H := (show Hid (ZAt own z w L P) from h)
  have HL := (show Hid (L.wks[i]? = some l) from hl)
  have Ht := (show Hid (P.ts[i]? = some t) from ht)
  have HMe := (show Hid (P.mem.make t.work.key t.work.value = q) from hMe)
  clear h hl ht hMe
  go_enter Tryz.func168, Tryz.ntmps168
  go_wp2_with fail
  refine wp_region_one 14 L.ml (fun w' => MAt w' L.ml q.1 ∧ MFr L.ml w w') (fun _ h => h.2) (by kernel_rfl) (by kernel_rfl) (by kernel_rfl) (by kernel_rfl) (by decide) ?_
  intro U W hU hW
  have hau : ∀ u o, (W u).cell? ⟨L.s, o, none⟩ = (P.head L)[o]? := fun u => (H.out.memCells (hW u)).1
  have hlu : ∀ u o, (W u).cell? ⟨l.b, o, none⟩ = (t.cells i l)[o]? := fun u => (H.out.memCells (hW u)).2 i l t HL.out Ht.out
  simp only [PSt.head] at hau
  simp only [PThread.cells] at hlu
  clear hW
  repeat (refine mix_read rfl rfl ?_; go_big_quiet_step (fail); refine wpQuiet_nil ?_)
  refine mix_effC (.int .i64 q.2) rfl rfl rfl ?_ ?_
  · intro w' hw'
    have hw0 := hw'.1 rfl
    go_simp
    refine (Make_calls (H.out.calm hw0).mem t.work.key t.work.value).mono ?_
    rw [HMe.out]
    rintro e w'' ⟨rfl, hM, hF⟩
    exact ⟨rfl, hM, (MFr.of0 hw0).trans hF⟩
  go_simp
  repeat (refine mix_read rfl rfl ?_; go_big_quiet_step (fail); refine wpQuiet_nil ?_)
  refine mix_nil ?_
  intro w2 hM2 hF2
  clear hau hlu
  obtain ⟨hZ2, hZF⟩ := H.out.memSet hM2 hF2
  have H2 := (show Hid (ZAt own z w2 L (P.setM q.1)) from hZ2)
  have HZF := (show Hid (FrZ own z w w2) from hZF)
  clear hM2 hF2 hZ2 hZF H HMe
  have HT := (show Hid (At w2 l.b _ _) from (H2.out.wk i l t HL.out Ht.out).at_)
  have ha := HT.out.cell
  have haz := HT.out.frozen
  have hrow := (H2.out.wk i l t HL.out Ht.out).made.row
  have HR := (show Hid (w2.ownsRow 0 _ _ _ _ _) from hrow)
  simp only [PThread.cells] at ha
  clear hrow
  go_wp2_with (at_builtin; refine wpList_push _ rfl _ _ 77 rfl 0 3 iI (.int .i64 0) 1 8 Tryz.underlying77 hiI hzI hsI hbI rfl (by decide) _ _ _ rfl (ownsRow_alloc HR.out _) w2.heap.size [.int .i64 q.2] rfl rfl 3 (At.newAt (by simp) _ _) (by simp [Value.oneCell']) (by unfold maxLen; omega) (by omega) (by omega) ?_)
  intro g cap w3 hown hg hge
  have hA3 : At w3 l.b (t.cells i l) 114 := (HT.out.alloc _).grown hg (HT.out.ne_row HR.out (by decide))
  have hF3 : Fr (fun k => l.made.ownBlock = some k ∨ k = l.b) w2 (w3.setCell ⟨l.b, 13, none⟩ (.slice (some ⟨g, 0, none⟩) (t.work.made.length + 1) cap)) :=
    Fr.setIn (.inr rfl) (((Fr.refl _ _).alloc _).grown hg (fun k hk => .inl (.inl hk))) _ _
  have hrow3 : (w3.setCell ⟨l.b, 13, none⟩ (.slice (some ⟨g, 0, none⟩) (t.work.made.length + 1) cap)).ownsRow 0 3 1 (.slice (some ⟨g, 0, none⟩) (t.work.made ++ [q.2]).length cap) (t.work.made ++ [q.2]).length (intCells (t.work.made ++ [q.2])) := by
    have := ownsRow_setOther hown (a := ⟨l.b, 13, none⟩) (hA3.ne_row hown (by decide)) (.slice (some ⟨g, 0, none⟩) (t.work.made.length + 1) cap)
    simpa [intCells] using this
  obtain ⟨own1, hE1, hZ1, hFZ1⟩ := H2.out.wkMade HL.out Ht.out (t' := { t with work := { t.work with made := t.work.made ++ [q.2] } }) hF3 (by rcases hge with h | h; exact .inl h; exact .inr (by omega)) hrow3 (by simp only [List.length_append, List.length_cons, List.length_nil, Nat.zero_add]; exact hA3.set 13 _) rfl rfl rfl rfl rfl
  have ha3 := hA3.cell
  have hz3 := hA3.frozen
  simp only [PThread.cells] at ha3
  have H4 := (show Hid (ZAt own1 z _ _ _) from hZ1)
  have HE1 := (show Hid (Ext own own1 w) from fun j hj => hE1 j (Nat.lt_of_lt_of_le hj HZF.out.size))
  have HF4 := (show Hid (FrZ own z w _) from FrZ.trans HZF.out (Ext.refl _ _) hFZ1)
  clear hown hg hge hA3 hF3 hrow3 hE1 hZ1 hFZ1 ha haz HR HT H2 HZF
  go_wp2_with fail
  clear ha3 hz3
  generalize w3.setCell ⟨l.b, 13, none⟩ (.slice (some ⟨g, 0, none⟩) (t.work.made.length + 1) cap) = w4 at *
  obtain ⟨l1, hl1⟩ : ∃ x : WLay, x = { l with made := .slice (some ⟨g, 0, none⟩) (t.work.made ++ [q.2]).length cap } := ⟨_, rfl⟩
  have hb1 : l.b = l1.b := by rw [hl1]
  have H4' := H4.out
  rw [← hl1] at H4'
  have HL1 := (show Hid (({ L with wks := L.wks.set i l1 } : ZLay).wks[i]? = some l1) from by
    obtain ⟨h1, _⟩ := List.getElem?_eq_some_iff.1 HL.out
    show (L.wks.set i l1)[i]? = some l1
    simp [h1])
  have HMP := (show Hid (({ L with wks := L.wks.set i l1 } : ZLay).wks.map (·.b) = L.wks.map (·.b)) from by
    show (L.wks.set i l1).map (·.b) = _
    rw [List.map_set]
    exact setL_same (by simp [HL.out, hb1]))
  have e1 : ({ L with wks := L.wks.set i l1 } : ZLay).s = L.s := rfl
  have e2 : ({ L with wks := L.wks.set i l1 } : ZLay).ml = L.ml := rfl
  generalize ({ L with wks := L.wks.set i l1 } : ZLay) = L1 at *
  obtain ⟨t1, ht1⟩ : ∃ x : PThread, x = { t with work := { t.work with made := t.work.made ++ [q.2] } } := ⟨_, rfl⟩
  rw [← ht1] at H4'
  obtain ⟨P1, hP1⟩ : ∃ x : PSt, x = (P.setM q.1).setT i t1 := ⟨_, rfl⟩
  rw [← hP1] at H4'
  have Ht1 := (show Hid (P1.ts[i]? = some t1) from by rw [hP1]; exact setT_get (P.setM q.1) Ht.out _)
  have hmem1 : P1.mem = q.1 := by rw [hP1]; rfl
  have hk1 : P1.kind = 0 := by rw [hP1]; exact hk
  have hEnd : Hid (∀ M1 M2 : PMem, ((P1.setM M1).setM M2).setT i { t1 with work := { t1.work with tsrc := t.work.stand, tside := q.1.sideFor t.work.stand t.work.key } } = (P.setM M2).setT i { t with work := { t.work with made := t.work.made ++ [q.2], tsrc := t.work.stand, tside := q.1.sideFor t.work.stand t.work.key } }) := by
    intro M1 M2; rw [hP1, ht1]; simp [PSt.setM, PSt.setT, List.set_set]
  have x1 : t1.work.stand = t.work.stand := by rw [ht1]
  have x2 : t1.work.key = t.work.key := by rw [ht1]
  have x3 : t1.work.ahead = t.work.ahead := by rw [ht1]
  rw [hb1, ← e1]
  have H5 := (show Hid (ZAt own1 z w4 L1 P1) from H4')
  have HMEM := (show Hid (P1.mem = q.1) from hmem1)
  have X1 := (show Hid (t1.work.stand = t.work.stand) from x1)
  have X2 := (show Hid (t1.work.key = t.work.key) from x2)
  have X3 := (show Hid (t1.work.ahead = t.work.ahead) from x3)
  have E2 := (show Hid (L1.ml = L.ml) from e2)
  have E1 := (show Hid (L1.s = L.s) from e1)
  clear H4 H4' hP1 ht1 hl1 hmem1 x1 x2 x3 hb1 e1 e2 hk
  rw [← X1.out, ← X2.out, ← X3.out] at hE
  rw [← X1.out, ← X2.out] at hEnd
  rw [← HMEM.out] at hE hEnd
  refine wp_region_box 14 15 16 4 [.int .i64 0, .int .i64 0] [.int .i64 t1.work.stand, .int .i64 (b2i (P1.mem.sideFor t1.work.stand t1.work.key))] 109 (by kernel_rfl) (by kernel_rfl) (by kernel_rfl) (by decide) (by decide) (by decide) (by decide) (by kernel_rfl) (by kernel_rfl) ?_
  intro addr hge U W hU hW
  have hau : ∀ u o, (W u).cell? ⟨L1.s, o, none⟩ = (P1.head L1)[o]? := fun u => ((H5.out).calm (hW u)).hd.cell
  have hlu : ∀ u o, (W u).cell? ⟨l1.b, o, none⟩ = (t1.cells i l1)[o]? := fun u => (((H5.out).calm (hW u)).wk i l1 t1 HL1.out Ht1.out).at_.cell
  simp only [PSt.head] at hau
  simp only [PThread.cells] at hlu
  clear hW
  repeat (refine box_read (by decide) (by decide) (by decide) rfl ?_; go_big_quiet_step (fail); refine wpQuiet_nil ?_)
  refine box_call (lnk t1.work.stand (P1.mem.sideFor t1.work.stand t1.work.key)) rfl rfl ?_ ?_
  · intro w' hw0
    go_simp
    refine (LinkFor_size (H5.out.calm hw0).mem _ _).mono ?_
    rintro e w'' ⟨rfl, hF, hz'⟩
    exact ⟨rfl, hF, hz'⟩
  unfold lnk
  go_simp
  refine box_alloc (by decide) rfl rfl ?_ ?_
  · intro w'
    go_simp
    exact ⟨rfl, rfl⟩
  go_simp
  refine box_store (by decide) (by decide) rfl rfl ?_ ?_
  · intro w' hA
    have hc := hA.cell
    have hf := hA.frozen
    have HA := (show Hid (At w' addr _ _) from hA)
    clear hA hau hlu
    go_simp
    refine ⟨rfl, ((Fr.refl _ _).set1 _ _).set1 _ _, (HA.out.set 0 (.int .i64 t1.work.stand)).set 1 (.int .i64 (b2i (P1.mem.sideFor t1.work.stand t1.work.key)))⟩
  go_simp
  refine box_nil ?_
  intro w5 hF5 hA5
  have H6 := (show Hid (ZAt own1 z w5 L1 P1) from H5.out.calm hF5)
  have HF5 := (show Hid (Fr (fun _ => False) w4 w5) from hF5)
  have HA5 := (show Hid (At w5 addr _ _) from hA5)
  clear hF5 hA5 hau hlu H5
  obtain ⟨ha, haz, hal, hs, hsz, hsl, n1, n2⟩ := H6.out.view HL1.out Ht1.out
  simp only [PThread.cells, PSt.head, hk1] at ha hs
  clear haz hsz
  go_wp2_with fail
  refine wp_region_one 10 L1.ml (fun w' => MAt w' L1.ml (P1.mem.addLink q.2 t1.work.ahead) ∧ MFr L1.ml w5 w') (fun _ h => h.2) (by kernel_rfl) (by kernel_rfl) (by kernel_rfl) (by kernel_rfl) (by decide) ?_
  intro U W hU hW
  have hau : ∀ u o, (W u).cell? ⟨L1.s, o, none⟩ = (P1.head L1)[o]? := fun u => (H6.out.memCells (hW u)).1
  have hlu : ∀ u o, (W u).cell? ⟨l1.b, o, none⟩ = (t1.cells i l1)[o]? := fun u => (H6.out.memCells (hW u)).2 i l1 t1 HL1.out Ht1.out
  simp only [PSt.head] at hau
  simp only [PThread.cells] at hlu
  clear hW ha hs
  repeat (refine mix_read rfl rfl ?_; go_big_quiet_step (fail); refine wpQuiet_nil ?_)
  refine mix_effC (.tuple #[]) rfl rfl rfl ?_ ?_
  · intro w' hw'
    have hw0 := hw'.1 rfl
    go_simp
    refine (AddLink_calls (H6.out.calm hw0).mem q.2 t1.work.ahead).mono ?_
    rintro e w'' ⟨rfl, hM, hF⟩
    exact ⟨rfl, hM, (MFr.of0 hw0).trans hF⟩
  go_simp
  refine mix_nil ?_
  intro w6 hM6 hF6
  clear hau hlu
  have hA6 : At w6 addr [.int .i64 t1.work.stand, .int .i64 (b2i (P1.mem.sideFor t1.work.stand t1.work.key))] 109 := by
    refine Fr.at hF6 HA5.out ?_
    have h1 := HA5.out.ne_row H6.out.mem.nodes (by decide)
    have h2 := HA5.out.ne_row H6.out.mem.ents (by decide)
    simp [Value.ownBlock] at h1 h2
    rintro (e | e)
    · exact h1 e.symm
    · exact h2 e.symm
  obtain ⟨hZ6, hZF6⟩ := H6.out.memSet hM6 hF6
  have H7 := (show Hid (ZAt own1 z w6 L1 (P1.setM (P1.mem.addLink q.2 t1.work.ahead))) from hZ6)
  have HF7 := (show Hid (FrZ own z w w6) from FrZ.trans HF4.out HE1.out (FrZ.trans (Fr.mono HF5.out (fun _ _ h => h.elim)) (Ext.refl _ _) hZF6))
  have hc6 := hA6.cell
  clear hM6 hF6 hZ6 hZF6 hA6 HA5 HF5 HF4 H6
  go_wp2_with fail
  refine (pend_calls H7.out HL1.out Ht1.out t1.work.stand (P1.mem.sideFor t1.work.stand t1.work.key) q.2).mono ?_
  rintro e w7 ⟨rfl, hZ, hF⟩
  have H8 := (show Hid (ZAt own1 z w7 L1 _) from hZ)
  have HF8 := (show Hid (FrZ own z w w7) from FrZ.trans HF7.out HE1.out hF)
  clear hZ hF hc6
  go_wp2
  refine bodyPost_ret (results_none rfl _ _ _) rfl ?_
  rw [hE.out]
  refine ⟨rfl, own1, L1, ?_, HE1.out, HF8.out, E1.out, E2.out, HMP.out⟩
  have H8' := H8.out
  have hh := hEnd.out (P1.mem.addLink q.2 t1.work.ahead) ((P1.mem.addLink q.2 t1.work.ahead).pend t1.work.stand (P1.mem.sideFor t1.work.stand t1.work.key) q.2)
  rw [X1.out, X2.out, X3.out] at hh H8' ⊢
  exact Eq.mp (congrArg (ZAt own1 z w7 L1) hh) H8'
end
end Go.Proofs.YtfccelbmacjifaaGreat

namespace Go.Proofs.YtfccelbmacjifaaGreat
open Go.RowKit
section
variable {own : Own} {z : Nat} {w : World} {L : ZLay} {P : PSt}
/-- The last cell of a step. -/
theorem ZGoes.cells {w1 w2 : World} {P1 : PSt} (h : ZGoes own z w L P1 w1) {i : Nat} {l : WLay} {t1 t2 : PThread} (hl : L.wks[i]? = some l) (ht : P1.ts[i]? = some t1) (hf : Fr (fun k => k = l.b) w1 w2)
    (hA : ∀ l1 : WLay, l1.b = l.b → At w1 l.b (t1.cells i l1) 114 → At w2 l.b (t2.cells i l1) 114)
    (e1 : t2.work.spans = t1.work.spans) (e2 : t2.work.made = t1.work.made) (e3 : t2.work.links = t1.work.links) (e4 : t2.work.noted = t1.work.noted) (e6 : t2.work.ans.spans = t1.work.ans.spans) (e7 : t2.last.spans = t1.last.spans) :
    ZGoes own z w L (P1.setT i t2) w2 := by
  obtain ⟨own1, L1, hZ, hE, hF, h1, h2, h3⟩ := h
  obtain ⟨l1, hl1, hb⟩ := wks_get h3 hl
  have hAt := (hZ.wk i l1 t1 hl1 ht).at_
  rw [hb] at hAt
  have := hZ.wkCells hl1 ht (t' := t2) (by rw [hb]; exact hf) (by rw [hb]; exact hA l1 hb hAt) e1 e2 e3 e4 e6 e7
  exact ZGoes.trans hE hF h1 h2 h3 (ZGoes.here this)
theorem ZGoes.at_ {w1 : World} {P1 : PSt} (h : ZGoes own z w L P1 w1) {i : Nat} {l : WLay} {t1 : PThread} (hl : L.wks[i]? = some l) (ht : P1.ts[i]? = some t1) : ∃ l1 : WLay, l1.b = l.b ∧ At w1 l.b (t1.cells i l1) 114 := by
  obtain ⟨own1, L1, hZ, hE, hF, h1, h2, h3⟩ := h
  obtain ⟨l1, hl1, hb⟩ := wks_get h3 hl
  have hAt := (hZ.wk i l1 t1 hl1 ht).at_
  rw [hb] at hAt
  exact ⟨l1, hb, hAt⟩

set_option maxHeartbeats 4000000 in
set_option maxRecDepth 100000 in
theorem prepare_calls (h : ZAt own z w L P) (hk : P.kind = 0) {i : Nat} {l : WLay} {t : PThread} (hl : L.wks[i]? = some l) (ht : P.ts[i]? = some t) (hmade : t.work.made.length ≤ 2) :
    Calls Tryz.prog 134 #[.pointer (some ⟨L.s, 0, none⟩), .pointer (some ⟨l.b, 0, none⟩)] w fun e w' => e = .returned (.tuple #[]) ∧ ZGoes own z w L (P.prepare i t.work) w' := by
  obtain ⟨ha, haz, hal, hs, hsz, hsl, n1, n2⟩ := h.view hl ht
  simp only [PThread.cells, PSt.head] at ha hs
  have H := (show Hid (ZAt own z w L P) from h)
  have HL := (show Hid (L.wks[i]? = some l) from hl)
  have Ht := (show Hid (P.ts[i]? = some t) from ht)
  clear h hl ht haz hsz
  go_enter Tryz.func134, Tryz.ntmps134
  go_wp2_with fail
  refine (needs_calls H.out t.work.kind).mono ?_
  rintro e w' ⟨rfl, rfl⟩
  go_wp2_with fail
  refine (MRoom_calls H.out.mem).mono ?_
  rintro e w' ⟨rfl, rfl⟩
  by_cases hno : P.mem.room.1 < (P.needs t.work.kind).1 ∨ P.mem.room.2 < (P.needs t.work.kind).2
  · have hE : Hid (P.prepare i t.work = P.setW i (t.work.settle { err := 7 })) := by show _ = _; simp only [PSt.prepare, if_pos hno]
    have fin : ∀ w1, ZGoes own z w' L (P.setT i { t with work := t.work.settle { err := 7 } }) w1 → ZGoes own z w' L (P.prepare i t.work) w1 := by
      intro w1 h; rw [hE.out, setT_work Ht.out]; exact h
    have FIN := (show Hid (∀ w1, _ → _) from fin)
    clear fin
    by_cases h1 : P.mem.room.1 < (P.needs t.work.kind).1
    · clear hno
      go_wp2_with fail
      refine (settle_calls H.out HL.out Ht.out { err := 7 } rfl).mono ?_
      rintro e w1 ⟨rfl, hG⟩
      have HG := (show Hid (ZGoes _ _ _ _ _ _) from hG)
      clear hG ha hs
      go_wp2
      refine bodyPost_ret (results_none rfl _ _ _) rfl ?_
      exact ⟨rfl, FIN.out _ HG.out⟩
    · have h2 : P.mem.room.2 < (P.needs t.work.kind).2 := by rcases hno with h | h; exact absurd h h1; exact h
      clear hno
      go_wp2_with fail
      refine (settle_calls H.out HL.out Ht.out { err := 7 } rfl).mono ?_
      rintro e w1 ⟨rfl, hG⟩
      have HG := (show Hid (ZGoes _ _ _ _ _ _) from hG)
      clear hG ha hs
      go_wp2
      refine bodyPost_ret (results_none rfl _ _ _) rfl ?_
      exact ⟨rfl, FIN.out _ HG.out⟩
  · have h1 : ¬ P.mem.room.1 < (P.needs t.work.kind).1 := fun h => hno (.inl h)
    have h2 : ¬ P.mem.room.2 < (P.needs t.work.kind).2 := fun h => hno (.inr h)
    cases hkd : (t.work.kind == 1)
    · have hkd' : ¬ t.work.kind = 1 := by simpa using hkd
      have hE : Hid (P.prepare i t.work = (P.setM (P.prepareRemove t.work).1).setW i { (P.prepareRemove t.work).2 with next := 8 }) := by show _ = _; simp only [PSt.prepare, if_neg hno, if_neg hkd']
      clear hno hkd'
      go_wp2_with fail
      refine (prepareRemove_calls H.out hk HL.out Ht.out).mono ?_
      rintro e w1 ⟨rfl, hZ, hF⟩
      have HG := (show Hid (ZGoes own z w' L _ w1) from ZGoes.here ⟨hZ, hF⟩)
      have Ht1 := (show Hid (_ = some _) from setT_get (P.setM (P.prepareRemove t.work).1) Ht.out { t with work := (P.prepareRemove t.work).2 })
      clear hZ hF ha hs
      obtain ⟨l1, hb1, hA1⟩ := HG.out.at_ HL.out Ht1.out
      have ha := hA1.cell
      have haz := hA1.frozen
      simp only [PThread.cells] at ha
      clear hA1
      go_wp2
      go_end0
      have R := HG.out.cells HL.out Ht1.out (t2 := { t with work := { (P.prepareRemove t.work).2 with next := 8 } }) ((Fr.refl _ _).set1 7 (.int .i64 8)) (fun l1 _ h => h.set 7 (.int .i64 8)) rfl rfl rfl rfl rfl rfl
      rw [hE.out, setT_work (P := P.setM (P.prepareRemove t.work).1) Ht.out]
      rw [setT_setT] at R
      exact ⟨rfl, R⟩
    · have hkd' : t.work.kind = 1 := by simpa using hkd
      have hE : Hid (P.prepare i t.work = (P.setM (P.prepareInsert t.work).1).setW i { (P.prepareInsert t.work).2 with next := 8 }) := by show _ = _; simp only [PSt.prepare, if_neg hno, if_pos hkd']
      clear hno hkd'
      go_wp2_with fail
      refine (prepareInsert_calls H.out hk HL.out Ht.out hmade).mono ?_
      rintro e w1 ⟨rfl, hG⟩
      have HG := (show Hid (ZGoes own z w' L _ w1) from hG)
      have Ht1 := (show Hid (_ = some _) from setT_get (P.setM (P.prepareInsert t.work).1) Ht.out { t with work := (P.prepareInsert t.work).2 })
      clear hG ha hs
      obtain ⟨l1, hb1, hA1⟩ := HG.out.at_ HL.out Ht1.out
      have ha := hA1.cell
      have haz := hA1.frozen
      simp only [PThread.cells] at ha
      clear hA1
      go_wp2
      go_end0
      have R := HG.out.cells HL.out Ht1.out (t2 := { t with work := { (P.prepareInsert t.work).2 with next := 8 } }) ((Fr.refl _ _).set1 7 (.int .i64 8)) (fun l1 _ h => h.set 7 (.int .i64 8)) rfl rfl rfl rfl rfl rfl
      rw [hE.out, setT_work (P := P.setM (P.prepareInsert t.work).1) Ht.out]
      rw [setT_setT] at R
      exact ⟨rfl, R⟩

set_option maxHeartbeats 4000000 in
set_option maxRecDepth 100000 in
theorem nodesTakenOut_calls (h : ZAt own z w L P) (hk : P.kind = 0) {i : Nat} {l : WLay} {t : PThread} (hl : L.wks[i]? = some l) (ht : P.ts[i]? = some t) :
    Calls Tryz.prog 171 #[.pointer (some ⟨L.s, 0, none⟩), .pointer (some ⟨l.b, 0, none⟩)] w fun e w' => ∃ b, e = .returned (.slice (some ⟨b, 0, none⟩) 1 1) ∧ At w' b [.int .i64 t.work.ahead] 3 ∧ Fr (fun _ => False) w w' := by
  obtain ⟨ha, haz, hal, hs, hsz, hsl, n1, n2⟩ := h.view hl ht
  simp only [PThread.cells, PSt.head, hk] at ha hs
  clear h hl ht haz hsz
  go_enter Tryz.func171, Tryz.ntmps171
  go_wp2
  go_ret
  exact ⟨w.heap.size, rfl, At.new w [.int .i64 t.work.ahead] _, (Fr.refl _ _).alloc _⟩
end
end Go.Proofs.YtfccelbmacjifaaGreat

namespace Go.Proofs.YtfccelbmacjifaaGreat
open Go.RowKit
theorem frees_append (M : PMem) : ∀ a b : List Int, M.frees (a ++ b) = (M.frees a).frees b
  | [], _ => rfl
  | n :: r, b => by simp only [List.cons_append, PMem.frees]; exact frees_append _ r b
theorem stampsNew_append (M : PMem) (st : Int) : ∀ a b : List Int, M.stampsNew st (a ++ b) = (M.stampsNew st a).stampsNew st b
  | [], _ => rfl
  | n :: r, b => by simp only [List.cons_append, PMem.stampsNew]; exact stampsNew_append _ st r b
theorem Row.shape {own : Own} {z : Nat} {w : World} {tag : Tag} {e : TypeId} {size : Nat} {v : Value} {n : Nat} {xs : List Value} (h : Row own z w tag e size v n xs) : ∃ a cap, v = .slice a n cap ∧ (n ≠ 0 → ∃ g, a = some ⟨g, 0, none⟩ ∧ own g = ⟨z, tag⟩) := by
  rcases h.row.2 with ⟨h1, h2⟩ | ⟨g, cap, cur, h1, _⟩
  · exact ⟨none, 0, by rw [h1, h2], fun h => absurd h2 h⟩
  · exact ⟨some ⟨g, 0, none⟩, cap, h1, fun _ => ⟨g, rfl, h.tg g (by rw [h1]; rfl)⟩⟩
section
variable {own : Own} {z : Nat} {w : World} {L : ZLay} {P : PSt}
/-- A made node's number, in any world that leaves the rows of the worker alone. -/
theorem ZAt.madeCell (h : ZAt own z w L P) {w' : World} (hf : MFr L.ml w w') {i : Nat} {l : WLay} {t : PThread} (hl : L.wks[i]? = some l) (ht : P.ts[i]? = some t) {g n cap : Nat} (hv : l.made = .slice (some ⟨g, 0, none⟩) n cap) {k : Nat} {x : Int} (hx : t.work.made[k]? = some x) :
    w'.cell? ⟨g, k, none⟩ = some (.int .i64 x) := by
  have hT := (h.wk i l t hl ht).made
  have hn : ¬ (g = L.ml.nb ∨ g = L.ml.eb) := by
    have htg := hT.tg g (by rw [hv]; rfl)
    rintro (e | e)
    · rw [e, h.no] at htg; simp at htg
    · rw [e, h.eo] at htg; simp at htg
  have hr := Fr.owns hf hT.row (by intro j hj; rw [hv] at hj; simp [Value.ownBlock] at hj; subst hj; exact hn)
  have hnn : n = t.work.made.length := by
    rcases hT.row.2 with ⟨h1, _⟩ | ⟨g', cap', cur, h1, _⟩
    · rw [hv] at h1; cases h1
    · rw [hv] at h1; simp at h1; exact h1.2.1
  subst hnn
  rw [hv] at hr
  exact ownsRow_cell hr (by simp [intCells, hx])

set_option maxHeartbeats 4000000 in
set_option maxRecDepth 100000 in
theorem undo_calls (h : ZAt own z w L P) {i : Nat} {l : WLay} {t : PThread} (hl : L.wks[i]? = some l) (ht : P.ts[i]? = some t) (hmade : t.work.made.length ≤ 2) :
    Calls Tryz.prog 170 #[.pointer (some ⟨L.s, 0, none⟩), .pointer (some ⟨l.b, 0, none⟩)] w fun e w' => e = .returned (.tuple #[]) ∧
      ZAt own z w' L (P.setM ((P.mem.unpend t.work.tsrc t.work.tside).frees t.work.made)) ∧ FrZ own z w w' := by
  have H := (show Hid (ZAt own z w L P) from h)
  have HL := (show Hid (L.wks[i]? = some l) from hl)
  have Ht := (show Hid (P.ts[i]? = some t) from ht)
  obtain ⟨ma, mcap, hmv, hmg⟩ := ((h.wk i l t hl ht).made).shape
  have HMV := (show Hid (l.made = _) from hmv)
  have HMG := (show Hid (t.work.made.length ≠ 0 → _) from hmg)
  clear h hl ht hmg
  go_enter Tryz.func170, Tryz.ntmps170
  go_wp2_with fail
  refine wp_region_one 9 L.ml (fun w' => MAt w' L.ml (P.mem.unpend t.work.tsrc t.work.tside) ∧ MFr L.ml w w') (fun _ h => h.2) (by kernel_rfl) (by kernel_rfl) (by kernel_rfl) (by kernel_rfl) (by decide) ?_
  intro U W hU hW
  have hau : ∀ u o, (W u).cell? ⟨L.s, o, none⟩ = (P.head L)[o]? := fun u => (H.out.memCells (hW u)).1
  have hlu : ∀ u o, (W u).cell? ⟨l.b, o, none⟩ = (t.cells i l)[o]? := fun u => (H.out.memCells (hW u)).2 i l t HL.out Ht.out
  simp only [PSt.head] at hau
  simp only [PThread.cells] at hlu
  clear hW
  repeat (refine mix_read rfl rfl ?_; go_big_quiet_step (fail); refine wpQuiet_nil ?_)
  refine mix_effC (.tuple #[]) rfl rfl rfl ?_ ?_
  · intro w' hw'
    have hw0 := hw'.1 rfl
    go_simp
    refine (Unpend_calls (H.out.calm hw0).mem t.work.tsrc t.work.tside).mono ?_
    rintro e w'' ⟨rfl, hM, hF⟩
    exact ⟨rfl, hM, (MFr.of0 hw0).trans hF⟩
  go_simp
  refine mix_nil ?_
  intro w2 hM2 hF2
  clear hau hlu
  generalize hM0 : P.mem.unpend t.work.tsrc t.work.tside = M0 at hM2
  have HM0 := (show Hid (P.mem.unpend t.work.tsrc t.work.tside = M0) from hM0)
  obtain ⟨hZ2, hZF⟩ := H.out.memSet hM2 hF2
  have H2 := (show Hid (ZAt own z w2 L (P.setM (M0.frees (t.work.made.take 0)))) from hZ2)
  have HZF := (show Hid (FrZ own z w w2) from hZF)
  clear hM2 hF2 hZ2 hZF H hM0
  have ha := (H2.out.wk i l t HL.out Ht.out).at_.cell
  simp only [PThread.cells] at ha
  rw [hmv] at ha
  go_wp2_with fail
  clear ha
  go_loopw [4, 21] (fun _ j wr => ∃ k : Nat, k ≤ t.work.made.length ∧ j = .int .i64 k ∧ Hid (ZAt own z wr L (P.setM (M0.frees (t.work.made.take k)))) ∧ Hid (FrZ own z w wr)) (fun _ j _ => t.work.made.length - (intOf j).toNat)
  case atStart => exact ⟨0, Nat.zero_le _, rfl, H2, HZF⟩
  case round =>
    clear H2 HZF
    obtain ⟨k, hk, rfl, H2, HZF⟩ := hrel
    by_cases hlt : k < t.work.made.length
    · obtain ⟨g, rfl, _⟩ := HMG.out (by omega)
      have hx : t.work.made[k]? = some t.work.made[k] := List.getElem?_eq_getElem hlt
      have hnext : t.work.made.take (k + 1) = t.work.made.take k ++ [t.work.made[k]] := List.take_succ_eq_append_getElem hlt
      generalize t.work.made[k] = x at hx hnext
      have hE : Hid (M0.frees (t.work.made.take (k + 1)) = (M0.frees (t.work.made.take k)).free x) := by show _ = _; rw [hnext, frees_append]; rfl
      have HX := (show Hid (t.work.made[k]? = some x) from hx)
      clear hx hnext
      go_wp2_with fail
      refine wp_region_one 12 L.ml (fun w' => MAt w' L.ml ((M0.frees (t.work.made.take k)).free x) ∧ MFr L.ml wr w') (fun _ h => h.2) (by kernel_rfl) (by kernel_rfl) (by kernel_rfl) (by kernel_rfl) (by decide) ?_
      intro U W hU hW
      have hau : ∀ u o, (W u).cell? ⟨L.s, o, none⟩ = ((P.setM (M0.frees (t.work.made.take k))).head L)[o]? := fun u => (H2.out.memCells (hW u)).1
      have hlu : ∀ u o, (W u).cell? ⟨l.b, o, none⟩ = (t.cells i l)[o]? := fun u => (H2.out.memCells (hW u)).2 i l t HL.out Ht.out
      have hgu : ∀ u, (W u).cell? ⟨g, k, none⟩ = some (.int .i64 x) := fun u => H2.out.madeCell (hW u) HL.out Ht.out HMV.out HX.out
      simp only [PSt.head, PSt.setM] at hau
      simp only [PThread.cells, hmv] at hlu
      clear hW
      repeat (refine mix_read rfl rfl ?_; go_big_quiet_step (fail); refine wpQuiet_nil ?_)
      refine mix_effC (.tuple #[]) rfl rfl rfl ?_ ?_
      · intro w' hw'
        have hw0 := hw'.1 rfl
        go_simp
        refine (Free_calls (H2.out.calm hw0).mem x).mono ?_
        rintro e w'' ⟨rfl, hM, hF⟩
        exact ⟨rfl, hM, (MFr.of0 hw0).trans hF⟩
      go_simp
      refine mix_nil ?_
      intro w3 hM3 hF3
      clear hau hlu hgu
      obtain ⟨hZ3, hZF3⟩ := H2.out.memSet hM3 hF3
      have H3 := (show Hid (ZAt own z w3 L (P.setM (M0.frees (t.work.made.take (k + 1))))) from by rw [hE.out]; exact hZ3)
      have HZF3 := (show Hid (FrZ own z w w3) from FrZ.trans HZF.out (Ext.refl _ _) hZF3)
      clear hM3 hF3 hZ3 hZF3
      go_wp2
      go_roundw
      case rel => exact ⟨k + 1, by omega, by go_num, H3, HZF3⟩
      case measure => simp [intOf]; omega
    · have hk' : k = t.work.made.length := by omega
      subst hk'
      have H3 := H2.out
      rw [List.take_length] at H3
      have H4 := (show Hid (ZAt own z wr L _) from H3)
      clear H3
      go_wp2
      go_end0
      rw [HM0.out]
      exact ⟨rfl, H4.out, HZF.out⟩
end
end Go.Proofs.YtfccelbmacjifaaGreat

namespace Go.Proofs.YtfccelbmacjifaaGreat
open Go.RowKit
/-- A region that draws its order: it reads, it calls what only makes new blocks, and stores at last. -/
theorem wp_region_calmstore {Pg : Program} {id : Nat} {Q : Exit → Go.Act → World → Prop} {a : Go.Act} {w : World} {l : List Oper} (c e : Nat) (C : World → Prop) (hm : Pg.follows .mixedOrders = true) (hB : Region.lexB .any l.toArray = true)
    (hch : chainB .any l.toArray [c, e] = true) (hnd : [c, e].Nodup) (hcov : coverB .any l.toArray e = true) (hlow : lowB .any l.toArray = true) (hin : ∀ j ∈ [c, e], j < l.length)
    (h : ∀ (U : Type) (W : U → World), Nonempty U → (∀ u, Fr (fun _ => False) w (W u)) → wpMix Pg l.toArray (fun w' => ∃ u, w' = W u) (fun k w' => (k ≤ 1 → Fr (fun _ => False) w w') ∧ (k = 2 → C w')) [c, e] (fun a' => ∀ w', C w' → Q .normal a' w') l 0 0 a) :
    (Code.region id l.toArray true).wp Pg Q a w := by
  have hW := h { w' : World // Fr (fun _ => False) w w' } (fun u => u.1) ⟨⟨w, Fr.refl _ _⟩⟩ (fun u => u.2)
  refine wp_region_mixS [c, e] (fun w' => ∃ u : { w' : World // Fr (fun _ => False) w w' }, w' = u.1) (fun k w' => (k ≤ 1 → Fr (fun _ => False) w w') ∧ (k = 2 → C w')) 1 rfl hm hB hch hnd hlow hin ⟨fun _ => (Fr.refl _ _).drew, by simp⟩
    (fun k w' hk hw => ⟨⟨w', hw.1 hk⟩, rfl⟩) (.inl (by simpa using hcov)) ?_
  simpa using hW
section
variable {own : Own} {z : Nat} {w : World} {L : ZLay} {P : PSt}
/-- The clock is turned. -/
theorem ZAt.clockSet (h : ZAt own z w L P) (c : Int) : ZAt own z (w.setCell ⟨L.s, 2, none⟩ (.int .i64 c)) L { P with clock := c } ∧ FrZ own z w (w.setCell ⟨L.s, 2, none⟩ (.int .i64 c)) := by
  have hf : Fr (fun k => k = L.s) w (w.setCell ⟨L.s, 2, none⟩ (.int .i64 c)) := (Fr.refl _ _).set1 _ _
  have he := Ext.refl own w
  have hn : ∀ tag, tag ≠ Tag.store → ∀ k, own k = ⟨z, tag⟩ → ¬ k = L.s := by
    rintro tag hne k hk rfl; rw [h.hown] at hk; simp at hk; exact hne hk.symm
  refine ⟨⟨h.hd.set 2 _, h.hown, MAt.same h.mem hf (hn _ (by simp) _ h.mo) (hn _ (by simp) _ h.no) (hn _ (by simp) _ h.eo), h.mo, h.no, h.eo, h.th.fr hf he (hn _ (by simp)), h.wlen,
    fun i l t hl ht => (h.wk i l t hl ht).fr hf he (hn _ (by simp)) (fun k j => hn _ (by simp) k) (hn _ (by simp)), h.ret.fr hf he (hn _ (by simp)), h.few⟩, ?_⟩
  exact Fr.mono hf (by rintro k _ rfl; rw [h.hown])

set_option maxHeartbeats 4000000 in
set_option maxRecDepth 100000 in
theorem take_limit (h : ZAt own z w L P) {i : Nat} {l : WLay} {t : PThread} (hl : L.wks[i]? = some l) (ht : P.ts[i]? = some t) (hmade : t.work.made.length ≤ 2) (hlim : P.limit ≤ P.clock) :
    Calls Tryz.prog 135 #[.pointer (some ⟨L.s, 0, none⟩), .pointer (some ⟨l.b, 0, none⟩)] w fun e w' => e = .returned (.tuple #[]) ∧ ZGoes own z w L (P.take i t.work) w' := by
  have hE : Hid (P.take i t.work = (P.setM ((P.mem.unpend t.work.tsrc t.work.tside).frees t.work.made)).setW i (t.work.settle { err := 8 })) := by show _ = _; simp only [PSt.take, if_pos hlim]
  have hs := h.hd.cell
  simp only [PSt.head] at hs
  have H := (show Hid (ZAt own z w L P) from h)
  have HL := (show Hid (L.wks[i]? = some l) from hl)
  have Ht := (show Hid (P.ts[i]? = some t) from ht)
  clear h hl ht
  go_enter Tryz.func135, Tryz.ntmps135
  go_wp2_with fail
  go_quiet (fail)
  have hd : Fr (fun _ => False) w (w.drewN nq) := (Fr.refl _ _).drewN _
  have H1 := (show Hid (ZAt own z (w.drewN nq) L P) from H.out.calm hd)
  have HD := (show Hid (Fr (fun _ => False) w (w.drewN nq)) from hd)
  clear hd hs H
  generalize w.drewN nq = w1 at *
  go_wp2_with fail
  refine (undo_calls H1.out HL.out Ht.out hmade).mono ?_
  rintro e w2 ⟨rfl, hZ, hF⟩
  have H2 := (show Hid (ZAt own z w2 L _) from hZ)
  have HF2 := (show Hid (FrZ own z w w2) from FrZ.trans (Fr.mono HD.out (fun _ _ h => h.elim)) (Ext.refl _ _) hF)
  clear hZ hF
  go_wp2_with fail
  refine (settle_calls H2.out HL.out Ht.out { err := 8 } rfl).mono ?_
  rintro e w3 ⟨rfl, hG⟩
  have HG := (show Hid (ZGoes _ _ _ _ _ _) from hG)
  clear hG
  go_wp2
  refine bodyPost_ret (results_none rfl _ _ _) rfl ?_
  rw [hE.out, setT_work (P := P.setM ((P.mem.unpend t.work.tsrc t.work.tside).frees t.work.made)) Ht.out]
  exact ⟨rfl, ZGoes.trans (Ext.refl _ _) HF2.out rfl rfl rfl HG.out⟩

set_option maxHeartbeats 8000000 in
set_option maxRecDepth 100000 in
theorem take_remove (h : ZAt own z w L P) {i : Nat} {l : WLay} {t : PThread} (hl : L.wks[i]? = some l) (ht : P.ts[i]? = some t) (hlim : ¬ P.limit ≤ P.clock) (hc0 : 0 ≤ P.clock) (hl40 : P.limit ≤ 1099511627776) (hkd : t.work.kind = 2) :
    Calls Tryz.prog 135 #[.pointer (some ⟨L.s, 0, none⟩), .pointer (some ⟨l.b, 0, none⟩)] w fun e w' => e = .returned (.tuple #[]) ∧ ZGoes own z w L (P.take i t.work) w' := by
  have hE : Hid (P.take i t.work = ({ P with clock := P.clock + 1 } : PSt).setW i { t.work with ans := { did := true, stamp := P.clock + 1, value := (P.mem.node t.work.ahead).value }, next := 9 }) := by show _ = _; simp only [PSt.take, if_neg hlim, if_pos hkd]
  have hs := h.hd.cell
  simp only [PSt.head] at hs
  have H := (show Hid (ZAt own z w L P) from h)
  have HL := (show Hid (L.wks[i]? = some l) from hl)
  have Ht := (show Hid (P.ts[i]? = some t) from ht)
  clear h hl ht
  go_enter Tryz.func135, Tryz.ntmps135
  go_wp2_with fail
  go_quiet (fail)
  have hd : Fr (fun _ => False) w (w.drewN nq) := (Fr.refl _ _).drewN _
  have H1 := (show Hid (ZAt own z (w.drewN nq) L P) from H.out.calm hd)
  have HD := (show Hid (FrZ own z w (w.drewN nq)) from Fr.mono hd (fun _ _ h => h.elim))
  clear hd hs H
  generalize w.drewN nq = w1 at *
  obtain ⟨ha, haz, hal, hs, hsz, hsl, n1, n2⟩ := H1.out.view HL.out Ht.out
  simp only [PThread.cells, PSt.head, hkd] at ha hs
  obtain ⟨hZ2, hF2⟩ := H1.out.clockSet (P.clock + 1)
  have H2 := (show Hid (ZAt own z _ L _) from hZ2)
  have HF2 := (show Hid (FrZ own z w _) from FrZ.trans HD.out (Ext.refl _ _) hF2)
  have HT2 := (show Hid (At (w1.setCell ⟨L.s, 2, none⟩ (.int .i64 (P.clock + 1))) l.b _ _) from (hZ2.wk i l t HL.out Ht.out).at_)
  clear hZ2 hF2 H1 HD
  go_wp2_with fail
  have hG := H2.out.wkAns HL.out Ht.out (t' := { t with work := { t.work with ans := { did := true, stamp := P.clock + 1 } } }) (w' := (((((w1.setCell ⟨L.s, 2, none⟩ (.int .i64 (P.clock + 1))).setCell ⟨l.b, 18, none⟩ (.int .i64 0)).setCell ⟨l.b, 19, none⟩ (.bool true)).setCell ⟨l.b, 20, none⟩ (.int .i64 0)).setCell ⟨l.b, 21, none⟩ (.int .i64 (P.clock + 1))).setCell ⟨l.b, 22, none⟩ (.slice none 0 0))
    (by repeat (with_reducible first | refine Fr.set1 ?_ _ _ | exact Fr.refl _ _)) (((((HT2.out.set 18 _).set 19 _).set 20 _).set 21 _).set 22 _) rfl rfl rfl rfl rfl rfl
  have HG := (show Hid (ZGoes own z _ L _ _) from hG)
  clear hG ha haz hs hsz HT2 H2
  generalize ((((((w1.setCell ⟨L.s, 2, none⟩ (.int .i64 (P.clock + 1))).setCell ⟨l.b, 18, none⟩ (.int .i64 0)).setCell ⟨l.b, 19, none⟩ (.bool true)).setCell ⟨l.b, 20, none⟩ (.int .i64 0)).setCell ⟨l.b, 21, none⟩ (.int .i64 (P.clock + 1))).setCell ⟨l.b, 22, none⟩ (.slice none 0 0)) = w3 at *
  obtain ⟨own3, L3, hZ3, hE3, hF3, e1, e2, e3⟩ := HG.out
  obtain ⟨l3, hl3, hb3⟩ := wks_get e3 HL.out
  have H3 := (show Hid (ZAt own3 z w3 L3 _) from hZ3)
  have HE3 := (show Hid (Ext own own3 w) from fun j hj => hE3 j (Nat.lt_of_lt_of_le hj HF2.out.size))
  have HF3 := (show Hid (FrZ own z w w3) from FrZ.trans HF2.out (Ext.refl _ _) hF3)
  have HL3 := (show Hid (L3.wks[i]? = some l3) from hl3)
  have E1 := (show Hid (L3.s = L.s) from e1)
  have E2 := (show Hid (L3.ml = L.ml) from e2)
  have E3 := (show Hid (L3.wks.map (·.b) = L.wks.map (·.b)) from e3)
  have Ht3 := (show Hid (_ = some _) from setT_get ({ P with clock := P.clock + 1 } : PSt) Ht.out { t with work := { t.work with ans := { did := true, stamp := P.clock + 1 } } })
  rw [← e1, ← hb3]
  clear HG hZ3 hE3 hF3 e1 e2 e3 hl3 hb3 HF2 n1 n2 hal hsl
  have HT3 := (show Hid (At w3 l3.b _ _) from (H3.out.wk i l3 _ HL3.out Ht3.out).at_)
  refine wp_region_calmstore 10 16 (fun w' => ∃ w1, Fr (fun _ => False) w3 w1 ∧ w' = w1.setCell ⟨l3.b, 20, none⟩ (.int .i64 (P.mem.node t.work.ahead).value)) (by kernel_rfl) (by kernel_rfl) (by kernel_rfl) (by decide) (by kernel_rfl) (by kernel_rfl) (by decide) ?_
  intro U W hU hW
  have hau : ∀ u o, (W u).cell? ⟨L3.s, o, none⟩ = _ := fun u => ((H3.out).calm (hW u)).hd.cell
  have hlu : ∀ u o, (W u).cell? ⟨l3.b, o, none⟩ = _ := fun u => (((H3.out).calm (hW u)).wk i l3 _ HL3.out Ht3.out).at_.cell
  simp only [PSt.head, PSt.setT] at hau
  simp only [PThread.cells] at hlu
  clear hW
  repeat (refine mix_read rfl rfl ?_; go_big_quiet_step (fail); refine wpQuiet_nil ?_)
  refine mix_effC (nodeVal (P.mem.node t.work.ahead)) rfl rfl rfl ?_ ?_
  · intro w' hw'
    have hw0 := hw'.1 (by decide)
    go_simp
    refine (Node_calls (H3.out.calm hw0).mem t.work.ahead).mono ?_
    rintro e w'' ⟨rfl, hF⟩
    exact ⟨rfl, hw0.trans hF⟩
  have hfd := field_value (P.mem.node t.work.ahead)
  go_simp
  repeat (refine mix_read rfl rfl ?_; go_big_quiet_step (fail); refine wpQuiet_nil ?_)
  refine mix_effC undef rfl rfl rfl ?_ ?_
  · intro w' hw'
    have hw0 := hw'.1 (by decide)
    have hA := hw0.at HT3.out (fun h => h)
    have hc := hA.cell
    have hf := hA.frozen
    simp only [PThread.cells] at hc
    clear hau hlu
    go_simp
    exact ⟨rfl, w', hw0, rfl⟩
  go_simp
  refine mix_nil ?_
  intro w5 w4 hF4 hw5
  subst hw5
  clear hau hlu hfd
  have H4 := (show Hid (ZAt own3 z w4 L3 _) from H3.out.calm hF4)
  have HF4 := (show Hid (FrZ own z w w4) from FrZ.trans HF3.out HE3.out (Fr.mono hF4 (fun _ _ h => h.elim)))
  have HT4 := (show Hid (At w4 l3.b _ _) from (H4.out.wk i l3 _ HL3.out Ht3.out).at_)
  clear hF4 H3 HF3 HT3
  have ha := HT4.out.cell
  have haz := HT4.out.frozen
  simp only [PThread.cells] at ha
  go_wp2
  refine bodyPost_ret (results_none rfl _ _ _) rfl ?_
  rw [hE.out, setT_work (P := { P with clock := P.clock + 1 }) Ht.out]
  have R := H4.out.wkCells HL3.out Ht3.out (t' := { t with work := { t.work with ans := { did := true, stamp := P.clock + 1, value := (P.mem.node t.work.ahead).value }, next := 9 } }) (((Fr.refl _ _).set1 20 (.int .i64 (P.mem.node t.work.ahead).value)).set1 7 (.int .i64 9)) ((HT4.out.set 20 _).set 7 _) rfl rfl rfl rfl rfl rfl
  rw [setT_setT] at R
  exact ⟨rfl, ZGoes.trans HE3.out HF4.out E1.out E2.out E3.out (ZGoes.here R)⟩
end
end Go.Proofs.YtfccelbmacjifaaGreat

