import Derived.Test.YtfccelbmacjifaaGreatP16
import Derived.Test.YtfccelbmacjifaaGreatP13
namespace Go.Proofs.YtfccelbmacjifaaGreat
open Go.RowKit
theorem Tryz.infoIntZ : (Tryz.prog.info? 3).map (fun i => (i.zero, i.size, i.bytes)) = some (some (.int .i64 0), 1, 8) := by kernel_rfl
section
variable {own : Own} {z : Nat} {w : World} {L : ZLay} {P : PSt}
/-- One node more among those that an Insert has made. -/
theorem ZAt.wkMade (h : ZAt own z w L P) {w' : World} {i g cap : Nat} {l : WLay} {t t' : PThread} (hl : L.wks[i]? = some l) (ht : P.ts[i]? = some t) (hf : Fr (fun k => l.made.ownBlock = some k ∨ k = l.b) w w')
    (hg : l.made.ownBlock = some g ∨ w.heap.size ≤ g) (ho : w'.ownsRow 0 3 1 (.slice (some ⟨g, 0, none⟩) t'.work.made.length cap) t'.work.made.length (intCells t'.work.made))
    (hA : At w' l.b (t'.cells i { l with made := .slice (some ⟨g, 0, none⟩) t'.work.made.length cap }) 114)
    (e1 : t'.work.spans = t.work.spans) (e3 : t'.work.links = t.work.links) (e4 : t'.work.noted = t.work.noted) (e6 : t'.work.ans.spans = t.work.ans.spans) (e7 : t'.last.spans = t.last.spans) :
    ∃ own', Ext own own' w ∧ ZAt own' z w' { L with wks := L.wks.set i { l with made := .slice (some ⟨g, 0, none⟩) t'.work.made.length cap } } (P.setT i t') ∧ FrZ own z w w' := by
  have hT := h.wk i l t hl ht
  have hE : Ext own (own.put g z (.tr i 1)) w := by
    refine Ext.put' (Ext.refl _ _) ?_
    rcases hg with hg | hg
    · exact .inl (hT.made.tg g hg)
    · exact .inr hg
  have hF : FrT own z (fun t => t = .thread i ∨ ∃ k, t = .tr i k) w w' := by
    refine FrT.of hf ?_
    rintro k (hk | rfl)
    · rw [hT.made.tg k hk]; exact ⟨rfl, .inr ⟨1, rfl⟩⟩
    · rw [hT.tg]; exact ⟨rfl, .inl rfl⟩
  have hn : ∀ tag, tag ≠ Tag.thread i → tag ≠ Tag.tr i 1 → ∀ k, own k = ⟨z, tag⟩ → ¬ (l.made.ownBlock = some k ∨ k = l.b) := by
    rintro tag h1 h2 k hk (hk' | rfl)
    · rw [hT.made.tg k hk'] at hk; simp at hk; exact h2 hk.symm
    · rw [hT.tg] at hk; simp at hk; exact h1 hk.symm
  refine ⟨own.put g z (.tr i 1), hE, h.wkSet hl rfl hF hE ⟨hA, by rw [hE _ hT.at_.lt]; exact hT.tg, ?_, ⟨ho, ?_⟩, ?_, ?_, ?_, ?_⟩, hF.zone⟩
  · rw [e1]; exact hT.spans.fr hf hE (hn _ (by simp) (by simp))
  · intro k hk; simp [Value.ownBlock] at hk; subst hk; exact Own.put_same _ _ _ _
  · rw [e3]; exact hT.links.fr hf hE (hn _ (by simp) (by simp))
  · rw [e4]; exact hT.noted.fr hf hE (hn _ (by simp) (by simp))
  · rw [e6]; exact hT.alists.fr hf hE (hn _ (by simp) (by simp))
  · rw [e7]; exact hT.llists.fr hf hE (hn _ (by simp) (by simp))

set_option maxHeartbeats 8000000 in
set_option maxRecDepth 100000 in
theorem prepareInsert_calls (h : ZAt own z w L P) (hk : P.kind = 0) {i : Nat} {l : WLay} {t : PThread} (hl : L.wks[i]? = some l) (ht : P.ts[i]? = some t) (hmade : t.work.made.length ≤ 2) :
    Calls Tryz.prog 168 #[.pointer (some ⟨L.s, 0, none⟩), .pointer (some ⟨l.b, 0, none⟩)] w fun e w' => e = .returned (.tuple #[]) ∧
      ZGoes own z w L ((P.setM (P.prepareInsert t.work).1).setT i { t with work := (P.prepareInsert t.work).2 }) w' := by
  generalize hMe : P.mem.make t.work.key t.work.value = q
  have hE : Hid (P.prepareInsert t.work = ((q.1.addLink q.2 t.work.ahead).pend t.work.stand (q.1.sideFor t.work.stand t.work.key) q.2, { t.work with made := t.work.made ++ [q.2], tsrc := t.work.stand, tside := q.1.sideFor t.work.stand t.work.key })) := by
    show _ = _; simp only [PSt.prepareInsert, if_pos hk, hMe]
  obtain ⟨iI, hiI, hzI, hsI, hbI⟩ := info_parts Tryz.infoIntZ
  have H := (show Hid (ZAt own z w L P) from h)
  have HL := (show Hid (L.wks[i]? = some l) from hl)
  have Ht := (show Hid (P.ts[i]? = some t) from ht)
  have HMe := (show Hid (P.mem.make t.work.key t.work.value = q) from hMe)
  clear h hl ht hMe
  go_enter Tryz.func168, Tryz.ntmps168
  go_wp2_with fail
  refine wp_region_one 14 L.ml (fun w' => MAt w' L.ml q.1 ∧ MFr L.ml w w') (fun _ h => h.2) (by kernel_rfl) (by kernel_rfl) (by kernel_rfl) (by kernel_rfl) (by decide) ?_
  intro U W hU hW
  have hau : ∀ u o, (W u).cell? ⟨L.s, o, none⟩ = (P.head L)[o]? := fun u => (H.out.memCells (hW u)).1
  have hlu : ∀ u o, (W u).cell? ⟨l.b, o, none⟩ = (t.cells i l)[o]? := fun u => (H.out.memCells (hW u)).2 i l t HL.out Ht.out
  simp only [PSt.head] at hau
  simp only [PThread.cells] at hlu
  clear hW
  repeat (refine mix_read rfl rfl ?_; go_big_quiet_step (fail); refine wpQuiet_nil ?_)
  refine mix_effC (.int .i64 q.2) rfl rfl rfl ?_ ?_
  · intro w' hw'
    have hw0 := hw'.1 rfl
    go_simp
    refine (Make_calls (H.out.calm hw0).mem t.work.key t.work.value).mono ?_
    rw [HMe.out]
    rintro e w'' ⟨rfl, hM, hF⟩
    exact ⟨rfl, hM, (MFr.of0 hw0).trans hF⟩
  go_simp
  repeat (refine mix_read rfl rfl ?_; go_big_quiet_step (fail); refine wpQuiet_nil ?_)
  refine mix_nil ?_
  intro w2 hM2 hF2
  clear hau hlu
  obtain ⟨hZ2, hZF⟩ := H.out.memSet hM2 hF2
  have H2 := (show Hid (ZAt own z w2 L (P.setM q.1)) from hZ2)
  have HZF := (show Hid (FrZ own z w w2) from hZF)
  clear hM2 hF2 hZ2 hZF H HMe
  have HT := (show Hid (At w2 l.b _ _) from (H2.out.wk i l t HL.out Ht.out).at_)
  have ha := HT.out.cell
  have haz := HT.out.frozen
  have hrow := (H2.out.wk i l t HL.out Ht.out).made.row
  have HR := (show Hid (w2.ownsRow 0 _ _ _ _ _) from hrow)
  simp only [PThread.cells] at ha
  clear hrow
  go_wp2_with (at_builtin; refine wpList_push _ rfl _ _ 77 rfl 0 3 iI (.int .i64 0) 1 8 Tryz.underlying77 hiI hzI hsI hbI rfl (by decide) _ _ _ rfl (ownsRow_alloc HR.out _) w2.heap.size [.int .i64 q.2] rfl rfl 3 (At.newAt (by simp) _ _) (by simp [Value.oneCell']) (by unfold maxLen; omega) (by omega) (by omega) ?_)
  intro g cap w3 hown hg hge
  have hA3 : At w3 l.b (t.cells i l) 114 := (HT.out.alloc _).grown hg (HT.out.ne_row HR.out (by decide))
  have hF3 : Fr (fun k => l.made.ownBlock = some k ∨ k = l.b) w2 (w3.setCell ⟨l.b, 13, none⟩ (.slice (some ⟨g, 0, none⟩) (t.work.made.length + 1) cap)) :=
    Fr.setIn (.inr rfl) (((Fr.refl _ _).alloc _).grown hg (fun k hk => .inl (.inl hk))) _ _
  have hrow3 : (w3.setCell ⟨l.b, 13, none⟩ (.slice (some ⟨g, 0, none⟩) (t.work.made.length + 1) cap)).ownsRow 0 3 1 (.slice (some ⟨g, 0, none⟩) (t.work.made ++ [q.2]).length cap) (t.work.made ++ [q.2]).length (intCells (t.work.made ++ [q.2])) := by
    have := ownsRow_setOther hown (a := ⟨l.b, 13, none⟩) (hA3.ne_row hown (by decide)) (.slice (some ⟨g, 0, none⟩) (t.work.made.length + 1) cap)
    simpa [intCells] using this
  obtain ⟨own1, hE1, hZ1, hFZ1⟩ := H2.out.wkMade HL.out Ht.out (t' := { t with work := { t.work with made := t.work.made ++ [q.2] } }) hF3 (by rcases hge with h | h; exact .inl h; exact .inr (by omega)) hrow3 (by simp only [List.length_append, List.length_cons, List.length_nil, Nat.zero_add]; exact hA3.set 13 _) rfl rfl rfl rfl rfl
  have ha3 := hA3.cell
  have hz3 := hA3.frozen
  simp only [PThread.cells] at ha3
  have H4 := (show Hid (ZAt own1 z _ _ _) from hZ1)
  have HE1 := (show Hid (Ext own own1 w) from fun j hj => hE1 j (Nat.lt_of_lt_of_le hj HZF.out.size))
  have HF4 := (show Hid (FrZ own z w _) from FrZ.trans HZF.out (Ext.refl _ _) hFZ1)
  clear hown hg hge hA3 hF3 hrow3 hE1 hZ1 hFZ1 ha haz HR HT H2 HZF
  go_wp2_with fail
  clear ha3 hz3
  generalize w3.setCell ⟨l.b, 13, none⟩ (.slice (some ⟨g, 0, none⟩) (t.work.made.length + 1) cap) = w4 at *
  obtain ⟨l1, hl1⟩ : ∃ x : WLay, x = { l with made := .slice (some ⟨g, 0, none⟩) (t.work.made ++ [q.2]).length cap } := ⟨_, rfl⟩
  have hb1 : l.b = l1.b := by rw [hl1]
  have H4' := H4.out
  rw [← hl1] at H4'
  have HL1 := (show Hid (({ L with wks := L.wks.set i l1 } : ZLay).wks[i]? = some l1) from by
    obtain ⟨h1, _⟩ := List.getElem?_eq_some_iff.1 HL.out
    show (L.wks.set i l1)[i]? = some l1
    simp [h1])
  have HMP := (show Hid (({ L with wks := L.wks.set i l1 } : ZLay).wks.map (·.b) = L.wks.map (·.b)) from by
    show (L.wks.set i l1).map (·.b) = _
    rw [List.map_set]
    exact setL_same (by simp [HL.out, hb1]))
  have e1 : ({ L with wks := L.wks.set i l1 } : ZLay).s = L.s := rfl
  have e2 : ({ L with wks := L.wks.set i l1 } : ZLay).ml = L.ml := rfl
  generalize ({ L with wks := L.wks.set i l1 } : ZLay) = L1 at *
  obtain ⟨t1, ht1⟩ : ∃ x : PThread, x = { t with work := { t.work with made := t.work.made ++ [q.2] } } := ⟨_, rfl⟩
  rw [← ht1] at H4'
  obtain ⟨P1, hP1⟩ : ∃ x : PSt, x = (P.setM q.1).setT i t1 := ⟨_, rfl⟩
  rw [← hP1] at H4'
  have Ht1 := (show Hid (P1.ts[i]? = some t1) from by rw [hP1]; exact setT_get (P.setM q.1) Ht.out _)
  have hmem1 : P1.mem = q.1 := by rw [hP1]; rfl
  have hk1 : P1.kind = 0 := by rw [hP1]; exact hk
  have hEnd : Hid (∀ M1 M2 : PMem, ((P1.setM M1).setM M2).setT i { t1 with work := { t1.work with tsrc := t.work.stand, tside := q.1.sideFor t.work.stand t.work.key } } = (P.setM M2).setT i { t with work := { t.work with made := t.work.made ++ [q.2], tsrc := t.work.stand, tside := q.1.sideFor t.work.stand t.work.key } }) := by
    intro M1 M2; rw [hP1, ht1]; simp [PSt.setM, PSt.setT, List.set_set]
  have x1 : t1.work.stand = t.work.stand := by rw [ht1]
  have x2 : t1.work.key = t.work.key := by rw [ht1]
  have x3 : t1.work.ahead = t.work.ahead := by rw [ht1]
  rw [hb1, ← e1]
  have H5 := (show Hid (ZAt own1 z w4 L1 P1) from H4')
  have HMEM := (show Hid (P1.mem = q.1) from hmem1)
  have X1 := (show Hid (t1.work.stand = t.work.stand) from x1)
  have X2 := (show Hid (t1.work.key = t.work.key) from x2)
  have X3 := (show Hid (t1.work.ahead = t.work.ahead) from x3)
  have E2 := (show Hid (L1.ml = L.ml) from e2)
  have E1 := (show Hid (L1.s = L.s) from e1)
  clear H4 H4' hP1 ht1 hl1 hmem1 x1 x2 x3 hb1 e1 e2 hk
  rw [← X1.out, ← X2.out, ← X3.out] at hE
  rw [← X1.out, ← X2.out] at hEnd
  rw [← HMEM.out] at hE hEnd
  refine wp_region_box 14 15 16 4 [.int .i64 0, .int .i64 0] [.int .i64 t1.work.stand, .int .i64 (b2i (P1.mem.sideFor t1.work.stand t1.work.key))] 109 (by kernel_rfl) (by kernel_rfl) (by kernel_rfl) (by decide) (by decide) (by decide) (by decide) (by kernel_rfl) (by kernel_rfl) ?_
  intro addr hge U W hU hW
  have hau : ∀ u o, (W u).cell? ⟨L1.s, o, none⟩ = (P1.head L1)[o]? := fun u => ((H5.out).calm (hW u)).hd.cell
  have hlu : ∀ u o, (W u).cell? ⟨l1.b, o, none⟩ = (t1.cells i l1)[o]? := fun u => (((H5.out).calm (hW u)).wk i l1 t1 HL1.out Ht1.out).at_.cell
  simp only [PSt.head] at hau
  simp only [PThread.cells] at hlu
  clear hW
  repeat (refine box_read (by decide) (by decide) (by decide) rfl ?_; go_big_quiet_step (fail); refine wpQuiet_nil ?_)
  refine box_call (lnk t1.work.stand (P1.mem.sideFor t1.work.stand t1.work.key)) rfl rfl ?_ ?_
  · intro w' hw0
    go_simp
    refine (LinkFor_size (H5.out.calm hw0).mem _ _).mono ?_
    rintro e w'' ⟨rfl, hF, hz'⟩
    exact ⟨rfl, hF, hz'⟩
  unfold lnk
  go_simp
  refine box_alloc (by decide) rfl rfl ?_ ?_
  · intro w'
    go_simp
    exact ⟨rfl, rfl⟩
  go_simp
  refine box_store (by decide) (by decide) rfl rfl ?_ ?_
  · intro w' hA
    have hc := hA.cell
    have hf := hA.frozen
    have HA := (show Hid (At w' addr _ _) from hA)
    clear hA hau hlu
    go_simp
    refine ⟨rfl, ((Fr.refl _ _).set1 _ _).set1 _ _, (HA.out.set 0 (.int .i64 t1.work.stand)).set 1 (.int .i64 (b2i (P1.mem.sideFor t1.work.stand t1.work.key)))⟩
  go_simp
  refine box_nil ?_
  intro w5 hF5 hA5
  have H6 := (show Hid (ZAt own1 z w5 L1 P1) from H5.out.calm hF5)
  have HF5 := (show Hid (Fr (fun _ => False) w4 w5) from hF5)
  have HA5 := (show Hid (At w5 addr _ _) from hA5)
  clear hF5 hA5 hau hlu H5
  obtain ⟨ha, haz, hal, hs, hsz, hsl, n1, n2⟩ := H6.out.view HL1.out Ht1.out
  simp only [PThread.cells, PSt.head, hk1] at ha hs
  clear haz hsz
  go_wp2_with fail
  refine wp_region_one 10 L1.ml (fun w' => MAt w' L1.ml (P1.mem.addLink q.2 t1.work.ahead) ∧ MFr L1.ml w5 w') (fun _ h => h.2) (by kernel_rfl) (by kernel_rfl) (by kernel_rfl) (by kernel_rfl) (by decide) ?_
  intro U W hU hW
  have hau : ∀ u o, (W u).cell? ⟨L1.s, o, none⟩ = (P1.head L1)[o]? := fun u => (H6.out.memCells (hW u)).1
  have hlu : ∀ u o, (W u).cell? ⟨l1.b, o, none⟩ = (t1.cells i l1)[o]? := fun u => (H6.out.memCells (hW u)).2 i l1 t1 HL1.out Ht1.out
  simp only [PSt.head] at hau
  simp only [PThread.cells] at hlu
  clear hW ha hs
  repeat (refine mix_read rfl rfl ?_; go_big_quiet_step (fail); refine wpQuiet_nil ?_)
  refine mix_effC (.tuple #[]) rfl rfl rfl ?_ ?_
  · intro w' hw'
    have hw0 := hw'.1 rfl
    go_simp
    refine (AddLink_calls (H6.out.calm hw0).mem q.2 t1.work.ahead).mono ?_
    rintro e w'' ⟨rfl, hM, hF⟩
    exact ⟨rfl, hM, (MFr.of0 hw0).trans hF⟩
  go_simp
  refine mix_nil ?_
  intro w6 hM6 hF6
  clear hau hlu
  have hA6 : At w6 addr [.int .i64 t1.work.stand, .int .i64 (b2i (P1.mem.sideFor t1.work.stand t1.work.key))] 109 := by
    refine Fr.at hF6 HA5.out ?_
    have h1 := HA5.out.ne_row H6.out.mem.nodes (by decide)
    have h2 := HA5.out.ne_row H6.out.mem.ents (by decide)
    simp [Value.ownBlock] at h1 h2
    rintro (e | e)
    · exact h1 e.symm
    · exact h2 e.symm
  obtain ⟨hZ6, hZF6⟩ := H6.out.memSet hM6 hF6
  have H7 := (show Hid (ZAt own1 z w6 L1 (P1.setM (P1.mem.addLink q.2 t1.work.ahead))) from hZ6)
  have HF7 := (show Hid (FrZ own z w w6) from FrZ.trans HF4.out HE1.out (FrZ.trans (Fr.mono HF5.out (fun _ _ h => h.elim)) (Ext.refl _ _) hZF6))
  have hc6 := hA6.cell
  clear hM6 hF6 hZ6 hZF6 hA6 HA5 HF5 HF4 H6
  go_wp2_with fail
  refine (pend_calls H7.out HL1.out Ht1.out t1.work.stand (P1.mem.sideFor t1.work.stand t1.work.key) q.2).mono ?_
  rintro e w7 ⟨rfl, hZ, hF⟩
  have H8 := (show Hid (ZAt own1 z w7 L1 _) from hZ)
  have HF8 := (show Hid (FrZ own z w w7) from FrZ.trans HF7.out HE1.out hF)
  clear hZ hF hc6
  go_wp2
  refine bodyPost_ret (results_none rfl _ _ _) rfl ?_
  rw [hE.out]
  refine ⟨rfl, own1, L1, ?_, HE1.out, HF8.out, E1.out, E2.out, HMP.out⟩
  have H8' := H8.out
  have hh := hEnd.out (P1.mem.addLink q.2 t1.work.ahead) ((P1.mem.addLink q.2 t1.work.ahead).pend t1.work.stand (P1.mem.sideFor t1.work.stand t1.work.key) q.2)
  rw [X1.out, X2.out, X3.out] at hh H8' ⊢
  exact Eq.mp (congrArg (ZAt own1 z w7 L1) hh) H8'
end
end Go.Proofs.YtfccelbmacjifaaGreat

set_option linter.unusedSimpArgs false
namespace Go.Proofs.YtfccelbmacjifaaGreat
open Go.RowKit
section
variable {w : World} {l : MLay} {M : PMem}
theorem any_take {α : Type} {l : List α} {k : Nat} {x : α} (p : α → Bool) (h : l[k]? = some x) : (l.take (k + 1)).any p = ((l.take k).any p || p x) := by
  rw [List.take_add_one, h, List.any_append]; simp
set_option maxHeartbeats 4000000 in
set_option maxRecDepth 100000 in
theorem hasStamp_calls (h : MAt w l M) (n : Int) (s : Bool) (ab t : Int) :
    Calls Tryz.prog 179 #[.pointer (some ⟨l.m, 0, none⟩), lnk n s, .int .i64 ab, .int .i64 t] w fun e w' => e = .returned (.bool (M.es.any (stampAbove n s ab t))) ∧ Fr (fun _ => False) w w' := by
  have hs := h.esmall
  have HB := (show Hid (Boxed _ _ _ _ _ _ _) from Boxed.new h n s)
  have hc := HB.out.mem.hd.cell
  clear h
  unfold lnk
  go_enter Tryz.func179, Tryz.ntmps179
  go_wp2
  clear hc
  go_loopw [16] (fun i wr => ∃ k : Nat, k ≤ M.es.length ∧ i = .int .i64 k ∧ Hid ((M.es.take k).any (stampAbove n s ab t) = false) ∧ Hid (Boxed w wr l M w.heap.size n s)) (fun i _ => M.es.length - (intOf i).toNat)
  case atStart => exact ⟨0, Nat.zero_le _, rfl, rfl, HB⟩
  case round =>
    clear HB
    obtain ⟨k, hk, rfl, HE, HB⟩ := hrel
    have hc := HB.out.mem.hd.cell
    have hb := HB.out.box.cell
    by_cases hlt : k < M.es.length
    · have hx : Hid (M.es[k]? = some M.es[k]) := List.getElem?_eq_getElem hlt
      generalize M.es[k] = x at hx
      have c0 := MemAt.ent HB.out.mem hx.out (j := 0) (u := .bool x.used) rfl
      have c1 := MemAt.ent HB.out.mem hx.out (j := 1) (u := .bool x.pending) rfl
      have c2 := MemAt.ent HB.out.mem hx.out (j := 2) (u := .int .i64 x.src) rfl
      have c3 := MemAt.ent HB.out.mem hx.out (j := 3) (u := .int .i64 (b2i x.side)) rfl
      have c4 := MemAt.ent HB.out.mem hx.out (j := 4) (u := .int .i64 x.dst) rfl
      have c5 := MemAt.ent HB.out.mem hx.out (j := 5) (u := .int .i64 x.stamp) rfl
      rw [Nat.add_zero] at c0
      have HN := (show Hid _ from any_take (stampAbove n s ab t) hx.out)
      have HM := (show Hid (stampAbove n s ab t x = true → M.es.any (stampAbove n s ab t) = true) from fun h => List.any_eq_true.2 ⟨x, List.mem_of_getElem? hx.out, h⟩)
      have hlb := HB.out.box.lt
      have hlm := HB.out.mem.hd.lt
      go_wp2_with fail
      refine (isStamped_calls x n s _).mono ?_
      rintro e w1 ⟨rfl, hF⟩
      have HB1 := (show Hid (Boxed w w1 l M w.heap.size n s) from HB.out.step (((Fr.refl _ _).alloc _).trans hF))
      have HX := (show Hid (At w1 wr.heap.size [.bool x.used, .bool x.pending, .int .i64 x.src, .int .i64 (b2i x.side), .int .i64 x.dst, .int .i64 x.stamp] 168) from hF.at (At.new wr [.bool x.used, .bool x.pending, .int .i64 x.src, .int .i64 (b2i x.side), .int .i64 x.dst, .int .i64 x.stamp] _) (fun h => h))
      have hxc := HX.out.cell
      clear hF HB hc hb c0 c1 c2 c3 c4 c5 hlb hlm
      cases hst : isSt n s x
      · go_wp2
        go_roundw
        case rel => exact ⟨k + 1, by omega, by go_num, by show List.any _ _ = _; rw [HN.out, HE.out]; simp [stampAbove, hst], HB1⟩
        case measure => simp [intOf]; omega
      · by_cases h2 : ab < x.stamp
        · by_cases h1 : x.stamp ≤ t
          · go_wp2
            go_ret
            exact ⟨ret_bool (HM.out (by simp [stampAbove, hst, h1, h2])).symm, HB1.out.fr⟩
          · go_wp2
            go_roundw
            case rel => exact ⟨k + 1, by omega, by go_num, by show List.any _ _ = _; rw [HN.out, HE.out]; simp [stampAbove, hst]; omega, HB1⟩
            case measure => simp [intOf]; omega
        · go_wp2
          go_roundw
          case rel => exact ⟨k + 1, by omega, by go_num, by show List.any _ _ = _; rw [HN.out, HE.out]; simp [stampAbove, hst]; omega, HB1⟩
          case measure => simp [intOf]; omega
    · have hke : k = M.es.length := by omega
      have HF : Hid (M.es.any (stampAbove n s ab t) = false) := by
        have := HE.out
        rw [hke, List.take_length] at this
        exact this
      clear HE hke
      go_wp2
      go_ret
      exact ⟨ret_bool HF.out.symm, HB.out.fr⟩

theorem dropTo_len (t : Int) (es : List PEntry) : ∀ k, (dropTo t es k).length = es.length
  | 0 => rfl
  | k + 1 => by
    rw [dropTo, dropOne]
    split
    · split
      · rw [List.length_set]; exact dropTo_len t es k
      · exact dropTo_len t es k
    · exact dropTo_len t es k
set_option maxHeartbeats 4000000 in
set_option maxRecDepth 100000 in
theorem Drop_calls (h : MAt w l M) (t : Int) :
    Calls Tryz.prog 148 #[.pointer (some ⟨l.m, 0, none⟩), .int .i64 t] w fun e w' => e = .returned (.tuple #[]) ∧ MAt w' l (M.drop t) ∧ MFr l w w' := by
  have hes := h.esmall
  have hc := h.hd.cell
  have H0 := (show Hid (MAt w l { M with es := dropTo t M.es 0 }) from h)
  have hE : Hid (M.drop t = { M with es := dropTo t M.es M.es.length }) := rfl
  clear h
  go_enter Tryz.func148, Tryz.ntmps148
  go_wp2
  clear hc
  go_loopw [11] (fun i wr => ∃ k : Nat, k ≤ M.es.length ∧ i = .int .i64 k ∧ Hid (MAt wr l { M with es := dropTo t M.es k }) ∧ Hid (MFr l w wr)) (fun i _ => M.es.length - (intOf i).toNat)
  case atStart => exact ⟨0, Nat.zero_le _, rfl, H0, .of0 (Fr.refl _ _)⟩
  case round =>
    clear H0
    obtain ⟨k, hk, rfl, H, HF⟩ := hrel
    have hc := H.out.hd.cell
    have hDL := dropTo_len t M.es k
    rw [show (({ M with es := dropTo t M.es k } : PMem).es).length = M.es.length from hDL] at hc
    by_cases hlt : k < M.es.length
    · have hx : Hid ((dropTo t M.es k)[k]? = some ((dropTo t M.es k)[k]'(by rw [hDL]; exact hlt))) := List.getElem?_eq_getElem _
      generalize (dropTo t M.es k)[k]'(by rw [hDL]; exact hlt) = x at hx
      have HD : Hid (dropTo t M.es (k + 1) = if isSt x.src x.side x && (dropTo t M.es k).any (stampAbove x.src x.side x.stamp t) then (dropTo t M.es k).set k PEntry.zero else dropTo t M.es k) := by
        show _ = _
        rw [dropTo, dropOne, hx.out]
      generalize hes' : dropTo t M.es k = es' at H hx HD hDL
      have c0 := MemAt.ent H.out hx.out (j := 0) (u := .bool x.used) rfl
      have c1 := MemAt.ent H.out hx.out (j := 1) (u := .bool x.pending) rfl
      have c2 := MemAt.ent H.out hx.out (j := 2) (u := .int .i64 x.src) rfl
      have c3 := MemAt.ent H.out hx.out (j := 3) (u := .int .i64 (b2i x.side)) rfl
      have c4 := MemAt.ent H.out hx.out (j := 4) (u := .int .i64 x.dst) rfl
      have c5 := MemAt.ent H.out hx.out (j := 5) (u := .int .i64 x.stamp) rfl
      rw [Nat.add_zero] at c0
      have hlm := H.out.hd.lt
      clear hes' hDL
      go_wp2_with fail
      refine (isStamped_calls x x.src x.side _).mono ?_
      rintro e w1 ⟨rfl, hF⟩
      have H1 := (show Hid (MAt w1 l { M with es := es' }) from MAt.same0 H.out (((Fr.refl _ _).alloc _).trans hF))
      have HF1 := (show Hid (MFr l w w1) from Fr.trans HF.out (MFr.of0 (((Fr.refl _ _).alloc _).trans hF)))
      have HX := (show Hid (At w1 wr.heap.size [.bool x.used, .bool x.pending, .int .i64 x.src, .int .i64 (b2i x.side), .int .i64 x.dst, .int .i64 x.stamp] 168) from hF.at (At.new wr [.bool x.used, .bool x.pending, .int .i64 x.src, .int .i64 (b2i x.side), .int .i64 x.dst, .int .i64 x.stamp] _) (fun h => h))
      have hxc := HX.out.cell
      clear hF H HF hc c0 c1 c2 c3 c4 c5 hlm
      cases hst : isSt x.src x.side x
      · go_wp2
        go_roundw
        case rel => exact ⟨k + 1, by omega, by go_num, by show MAt _ _ _; rw [HD.out, hst]; exact H1.out, HF1⟩
        case measure => simp [intOf]; omega
      · go_wp2_with fail
        refine (hasStamp_calls H1.out x.src x.side x.stamp t).mono ?_
        rintro e w2 ⟨rfl, hF⟩
        have H2 := (show Hid (MAt w2 l { M with es := es' }) from MAt.same0 H1.out hF)
        have HF2 := (show Hid (MFr l w w2) from Fr.trans HF1.out (MFr.of0 hF))
        clear hF hxc HX H1 HF1
        cases hsa : es'.any (stampAbove x.src x.side x.stamp t)
        · go_wp2
          go_roundw
          case rel => exact ⟨k + 1, by omega, by go_num, by show MAt _ _ _; rw [HD.out, hst, hsa]; exact H2.out, HF2⟩
          case measure => simp [intOf]; omega
        · have hc := H2.out.hd.cell
          have hEL := (show Hid (es'.length = M.es.length) from by
            have := H2.out.ents
            have hd := dropTo_len t M.es (k + 1)
            rw [HD.out, hst, hsa] at hd
            show _ = _; simpa using hd)
          rw [show (({ M with es := es' } : PMem).es).length = M.es.length from hEL.out] at hc
          have c0 := MemAt.ent H2.out hx.out (j := 0) (u := .bool x.used) rfl
          have c1 := MemAt.ent H2.out hx.out (j := 1) (u := .bool x.pending) rfl
          have c2 := MemAt.ent H2.out hx.out (j := 2) (u := .int .i64 x.src) rfl
          have c3 := MemAt.ent H2.out hx.out (j := 3) (u := .int .i64 (b2i x.side)) rfl
          have c4 := MemAt.ent H2.out hx.out (j := 4) (u := .int .i64 x.dst) rfl
          have c5 := MemAt.ent H2.out hx.out (j := 5) (u := .int .i64 x.stamp) rfl
          rw [Nat.add_zero] at c0
          have hf := ownsRow_frozen H2.out.ents
          have hset := MemAt.putEnt H2.out hx.out PEntry.zero
          have HS := (show Hid (MAt _ l { M with es := dropTo t M.es (k + 1) }) from by rw [HD.out, hst, hsa]; exact hset)
          clear hset
          go_wp2
          go_roundw
          case rel =>
            refine ⟨k + 1, by omega, by go_num, HS, ?_⟩
            refine Fr.trans HF2.out ?_
            repeat (with_reducible first | refine Fr.setIn (.inr rfl) ?_ _ _ | refine Fr.drewN ?_ _ | refine Fr.drew ?_ | exact Fr.refl _ _)
          case measure => simp [intOf]; omega
    · have hk' : k = M.es.length := by omega
      subst hk'
      go_wp2
      go_end0
      exact ⟨rfl, by rw [hE.out]; exact H.out, HF.out⟩

theorem retired_app : ∀ (l : List PNode) (x : PNode) (i : Nat), retiredFrom (l ++ [x]) i = retiredFrom l i ++ (if x.retired then [i + l.length] else [])
  | [], x, i => by simp [retiredFrom]
  | y :: r, x, i => by
    rw [List.cons_append, retiredFrom, retiredFrom, retired_app r x (i + 1)]
    have : i + 1 + r.length = i + (y :: r).length := by simp; omega
    rw [this]
    split <;> simp
theorem retired_take {l : List PNode} {k : Nat} {x : PNode} (h : l[k]? = some x) : retiredFrom (l.take (k + 1)) 0 = retiredFrom (l.take k) 0 ++ (if x.retired then [k] else []) := by
  have hk := (List.getElem?_eq_some_iff.1 h).1
  rw [List.take_add_one, h, Option.toList_some, retired_app, List.length_take, Nat.min_eq_left (Nat.le_of_lt hk), Nat.zero_add]
theorem retired_len : ∀ (l : List PNode) (i : Nat), (retiredFrom l i).length ≤ l.length
  | [], _ => Nat.le_refl _
  | x :: r, i => by
    rw [retiredFrom]
    have := retired_len r (i + 1)
    split <;> simp <;> omega
/-- Numbers of their own. -/
structure OwnNats (w0 w : World) (v : Value) (ps : List Nat) : Prop where
  row : w.ownsRow 0 3 1 v ps.length (natCells ps)
  new : ∀ k, v.ownBlock = some k → w0.heap.size ≤ k
  fr : Fr (fun _ => False) w0 w
theorem OwnNats.shape {w0 w : World} {v : Value} {ps : List Nat} (h : OwnNats w0 w v ps) : ∃ a c, v = .slice a ps.length c := by
  rcases h.row.2 with ⟨h1, h2⟩ | ⟨g, cap, _, h, _⟩
  · exact ⟨none, 0, by rw [h1, h2]⟩
  · exact ⟨_, cap, h⟩
set_option maxHeartbeats 4000000 in
set_option maxRecDepth 100000 in
theorem RetiredNodes_calls (h : MAt w l M) :
    Calls Tryz.prog 147 #[.pointer (some ⟨l.m, 0, none⟩)] w fun e w' => ∃ a n c, e = .returned (.slice a n c) ∧ OwnNats w w' (.slice a n c) (retiredFrom M.ns 0) := by
  obtain ⟨iI, hiI, hzI, hsI, hbI⟩ := info_parts Tryz.infoIntZ
  have hs := h.nsmall
  have hc := h.hd.cell
  have H := (show Hid (MAt w l M) from h)
  clear h
  go_enter Tryz.func147, Tryz.ntmps147
  go_wp2
  clear hc
  go_loopw [3, 10] (fun v i wr => ∃ k : Nat, k ≤ M.ns.length ∧ i = .int .i64 k ∧ Hid (OwnNats w wr v (retiredFrom (M.ns.take k) 0))) (fun _ i _ => M.ns.length - (intOf i).toNat)
  case atStart => exact ⟨0, Nat.zero_le _, rfl, ⟨⟨by simp [retiredFrom, natCells], .inl ⟨rfl, rfl⟩⟩, by intro k hk; simp [Value.ownBlock] at hk, Fr.refl _ _⟩⟩
  case round =>
    obtain ⟨k, hk, rfl, HO⟩ := hrel
    have HMr := (show Hid (MAt wr l M) from MAt.same0 H.out HO.out.fr)
    have hc := HMr.out.hd.cell
    by_cases hlt : k < M.ns.length
    · have hx : Hid (M.ns[k]? = some M.ns[k]) := List.getElem?_eq_getElem hlt
      generalize M.ns[k] = x at hx
      have c3 := MemAt.node HMr.out hx.out (j := 3) (u := .bool x.retired) rfl
      have HT := (show Hid _ from retired_take hx.out)
      cases hr : x.retired
      · rw [hr] at c3
        go_wp2
        go_roundw
        case rel => exact ⟨k + 1, by omega, by go_num, by show OwnNats _ _ _ _; rw [HT.out, hr]; simpa using HO.out⟩
        case measure => simp [intOf]; omega
      · rw [hr] at c3
        have hrl := retired_len (M.ns.take k) 0
        rw [List.length_take] at hrl
        obtain ⟨L, hL⟩ : ∃ L, L = retiredFrom (M.ns.take k) 0 := ⟨_, rfl⟩
        rw [← hL] at HO HT hrl
        have HRL := (show Hid (L.length ≤ 100) from by show _ ≤ _; omega)
        clear hL hrl
        have hLn := HRL.out
        go_wp2_with (at_builtin; refine wpList_push _ rfl _ _ 77 rfl 0 3 iI _ 1 8 Tryz.underlying77 hiI hzI hsI hbI rfl (by decide) _ L.length (natCells L) rfl (ownsRow_alloc HO.out.row _) wr.heap.size [.int .i64 k] rfl rfl 3 (At.newAt (by simp) _ _) (by simp [Value.oneCell']) (by unfold maxLen; omega) (by omega) (by simp) ?_)
        intro g cap w3 hown hgr hge
        have HO3 : Hid (OwnNats w w3 (.slice (some ⟨g, 0, none⟩) (L.length + 1) cap) (retiredFrom (M.ns.take (k + 1)) 0)) := by
          show OwnNats _ _ _ _
          rw [HT.out, hr]
          refine ⟨by simpa [natCells] using hown, ?_, Fr.grown (HO.out.fr.alloc _) hgr (fun k hk => .inr (HO.out.new k hk))⟩
          intro j hj
          simp [Value.ownBlock] at hj
          subst hj
          rcases hge with h | h
          · exact HO.out.new _ h
          · have := HO.out.fr.size; first | omega | (simp at h; omega)
        clear hown hgr hge HO hc c3
        go_wp2
        go_roundw
        case rel => exact ⟨k + 1, by omega, by go_num, HO3⟩
        case measure => simp [intOf]; omega
    · have hke : k = M.ns.length := by omega
      subst hke
      rw [List.take_length] at HO
      obtain ⟨a, c, hv⟩ := HO.out.shape
      subst hv
      go_wp2
      go_ret
      exact ⟨a, _, c, rfl, HO.out⟩
end
end Go.Proofs.YtfccelbmacjifaaGreat

namespace Go.Proofs.YtfccelbmacjifaaGreat
open Go.RowKit
section
variable {own : Own} {z : Nat} {w : World} {L : ZLay} {P : PSt}
/-- The last cell of a step. -/
theorem ZGoes.cells {w1 w2 : World} {P1 : PSt} (h : ZGoes own z w L P1 w1) {i : Nat} {l : WLay} {t1 t2 : PThread} (hl : L.wks[i]? = some l) (ht : P1.ts[i]? = some t1) (hf : Fr (fun k => k = l.b) w1 w2)
    (hA : ∀ l1 : WLay, l1.b = l.b → At w1 l.b (t1.cells i l1) 114 → At w2 l.b (t2.cells i l1) 114)
    (e1 : t2.work.spans = t1.work.spans) (e2 : t2.work.made = t1.work.made) (e3 : t2.work.links = t1.work.links) (e4 : t2.work.noted = t1.work.noted) (e6 : t2.work.ans.spans = t1.work.ans.spans) (e7 : t2.last.spans = t1.last.spans) :
    ZGoes own z w L (P1.setT i t2) w2 := by
  obtain ⟨own1, L1, hZ, hE, hF, h1, h2, h3⟩ := h
  obtain ⟨l1, hl1, hb⟩ := wks_get h3 hl
  have hAt := (hZ.wk i l1 t1 hl1 ht).at_
  rw [hb] at hAt
  have := hZ.wkCells hl1 ht (t' := t2) (by rw [hb]; exact hf) (by rw [hb]; exact hA l1 hb hAt) e1 e2 e3 e4 e6 e7
  exact ZGoes.trans hE hF h1 h2 h3 (ZGoes.here this)
theorem ZGoes.at_ {w1 : World} {P1 : PSt} (h : ZGoes own z w L P1 w1) {i : Nat} {l : WLay} {t1 : PThread} (hl : L.wks[i]? = some l) (ht : P1.ts[i]? = some t1) : ∃ l1 : WLay, l1.b = l.b ∧ At w1 l.b (t1.cells i l1) 114 := by
  obtain ⟨own1, L1, hZ, hE, hF, h1, h2, h3⟩ := h
  obtain ⟨l1, hl1, hb⟩ := wks_get h3 hl
  have hAt := (hZ.wk i l1 t1 hl1 ht).at_
  rw [hb] at hAt
  exact ⟨l1, hb, hAt⟩

set_option maxHeartbeats 4000000 in
set_option maxRecDepth 100000 in
theorem prepare_calls (h : ZAt own z w L P) (hk : P.kind = 0) {i : Nat} {l : WLay} {t : PThread} (hl : L.wks[i]? = some l) (ht : P.ts[i]? = some t) (hmade : t.work.made.length ≤ 2) :
    Calls Tryz.prog 134 #[.pointer (some ⟨L.s, 0, none⟩), .pointer (some ⟨l.b, 0, none⟩)] w fun e w' => e = .returned (.tuple #[]) ∧ ZGoes own z w L (P.prepare i t.work) w' := by
  obtain ⟨ha, haz, hal, hs, hsz, hsl, n1, n2⟩ := h.view hl ht
  simp only [PThread.cells, PSt.head] at ha hs
  have H := (show Hid (ZAt own z w L P) from h)
  have HL := (show Hid (L.wks[i]? = some l) from hl)
  have Ht := (show Hid (P.ts[i]? = some t) from ht)
  clear h hl ht haz hsz
  go_enter Tryz.func134, Tryz.ntmps134
  go_wp2_with fail
  refine (needs_calls H.out t.work.kind).mono ?_
  rintro e w' ⟨rfl, rfl⟩
  go_wp2_with fail
  refine (MRoom_calls H.out.mem).mono ?_
  rintro e w' ⟨rfl, rfl⟩
  by_cases hno : P.mem.room.1 < (P.needs t.work.kind).1 ∨ P.mem.room.2 < (P.needs t.work.kind).2
  · have hE : Hid (P.prepare i t.work = P.setW i (t.work.settle { err := 7 })) := by show _ = _; simp only [PSt.prepare, if_pos hno]
    have fin : ∀ w1, ZGoes own z w' L (P.setT i { t with work := t.work.settle { err := 7 } }) w1 → ZGoes own z w' L (P.prepare i t.work) w1 := by
      intro w1 h; rw [hE.out, setT_work Ht.out]; exact h
    have FIN := (show Hid (∀ w1, _ → _) from fin)
    clear fin
    by_cases h1 : P.mem.room.1 < (P.needs t.work.kind).1
    · clear hno
      go_wp2_with fail
      refine (settle_calls H.out HL.out Ht.out { err := 7 } rfl).mono ?_
      rintro e w1 ⟨rfl, hG⟩
      have HG := (show Hid (ZGoes _ _ _ _ _ _) from hG)
      clear hG ha hs
      go_wp2
      refine bodyPost_ret (results_none rfl _ _ _) rfl ?_
      exact ⟨rfl, FIN.out _ HG.out⟩
    · have h2 : P.mem.room.2 < (P.needs t.work.kind).2 := by rcases hno with h | h; exact absurd h h1; exact h
      clear hno
      go_wp2_with fail
      refine (settle_calls H.out HL.out Ht.out { err := 7 } rfl).mono ?_
      rintro e w1 ⟨rfl, hG⟩
      have HG := (show Hid (ZGoes _ _ _ _ _ _) from hG)
      clear hG ha hs
      go_wp2
      refine bodyPost_ret (results_none rfl _ _ _) rfl ?_
      exact ⟨rfl, FIN.out _ HG.out⟩
  · have h1 : ¬ P.mem.room.1 < (P.needs t.work.kind).1 := fun h => hno (.inl h)
    have h2 : ¬ P.mem.room.2 < (P.needs t.work.kind).2 := fun h => hno (.inr h)
    cases hkd : (t.work.kind == 1)
    · have hkd' : ¬ t.work.kind = 1 := by simpa using hkd
      have hE : Hid (P.prepare i t.work = (P.setM (P.prepareRemove t.work).1).setW i { (P.prepareRemove t.work).2 with next := 8 }) := by show _ = _; simp only [PSt.prepare, if_neg hno, if_neg hkd']
      clear hno hkd'
      go_wp2_with fail
      refine (prepareRemove_calls H.out hk HL.out Ht.out).mono ?_
      rintro e w1 ⟨rfl, hZ, hF⟩
      have HG := (show Hid (ZGoes own z w' L _ w1) from ZGoes.here ⟨hZ, hF⟩)
      have Ht1 := (show Hid (_ = some _) from setT_get (P.setM (P.prepareRemove t.work).1) Ht.out { t with work := (P.prepareRemove t.work).2 })
      clear hZ hF ha hs
      obtain ⟨l1, hb1, hA1⟩ := HG.out.at_ HL.out Ht1.out
      have ha := hA1.cell
      have haz := hA1.frozen
      simp only [PThread.cells] at ha
      clear hA1
      go_wp2
      go_end0
      have R := HG.out.cells HL.out Ht1.out (t2 := { t with work := { (P.prepareRemove t.work).2 with next := 8 } }) ((Fr.refl _ _).set1 7 (.int .i64 8)) (fun l1 _ h => h.set 7 (.int .i64 8)) rfl rfl rfl rfl rfl rfl
      rw [hE.out, setT_work (P := P.setM (P.prepareRemove t.work).1) Ht.out]
      rw [setT_setT] at R
      exact ⟨rfl, R⟩
    · have hkd' : t.work.kind = 1 := by simpa using hkd
      have hE : Hid (P.prepare i t.work = (P.setM (P.prepareInsert t.work).1).setW i { (P.prepareInsert t.work).2 with next := 8 }) := by show _ = _; simp only [PSt.prepare, if_neg hno, if_pos hkd']
      clear hno hkd'
      go_wp2_with fail
      refine (prepareInsert_calls H.out hk HL.out Ht.out hmade).mono ?_
      rintro e w1 ⟨rfl, hG⟩
      have HG := (show Hid (ZGoes own z w' L _ w1) from hG)
      have Ht1 := (show Hid (_ = some _) from setT_get (P.setM (P.prepareInsert t.work).1) Ht.out { t with work := (P.prepareInsert t.work).2 })
      clear hG ha hs
      obtain ⟨l1, hb1, hA1⟩ := HG.out.at_ HL.out Ht1.out
      have ha := hA1.cell
      have haz := hA1.frozen
      simp only [PThread.cells] at ha
      clear hA1
      go_wp2
      go_end0
      have R := HG.out.cells HL.out Ht1.out (t2 := { t with work := { (P.prepareInsert t.work).2 with next := 8 } }) ((Fr.refl _ _).set1 7 (.int .i64 8)) (fun l1 _ h => h.set 7 (.int .i64 8)) rfl rfl rfl rfl rfl rfl
      rw [hE.out, setT_work (P := P.setM (P.prepareInsert t.work).1) Ht.out]
      rw [setT_setT] at R
      exact ⟨rfl, R⟩

set_option maxHeartbeats 4000000 in
set_option maxRecDepth 100000 in
theorem nodesTakenOut_calls (h : ZAt own z w L P) (hk : P.kind = 0) {i : Nat} {l : WLay} {t : PThread} (hl : L.wks[i]? = some l) (ht : P.ts[i]? = some t) :
    Calls Tryz.prog 171 #[.pointer (some ⟨L.s, 0, none⟩), .pointer (some ⟨l.b, 0, none⟩)] w fun e w' => ∃ b, e = .returned (.slice (some ⟨b, 0, none⟩) 1 1) ∧ At w' b [.int .i64 t.work.ahead] 3 ∧ Fr (fun _ => False) w w' := by
  obtain ⟨ha, haz, hal, hs, hsz, hsl, n1, n2⟩ := h.view hl ht
  simp only [PThread.cells, PSt.head, hk] at ha hs
  clear h hl ht haz hsz
  go_enter Tryz.func171, Tryz.ntmps171
  go_wp2
  go_ret
  exact ⟨w.heap.size, rfl, At.new w [.int .i64 t.work.ahead] _, (Fr.refl _ _).alloc _⟩
end
end Go.Proofs.YtfccelbmacjifaaGreat

namespace Go.Proofs.YtfccelbmacjifaaGreat
open Go.RowKit
theorem frees_append (M : PMem) : ∀ a b : List Int, M.frees (a ++ b) = (M.frees a).frees b
  | [], _ => rfl
  | n :: r, b => by simp only [List.cons_append, PMem.frees]; exact frees_append _ r b
theorem stampsNew_append (M : PMem) (st : Int) : ∀ a b : List Int, M.stampsNew st (a ++ b) = (M.stampsNew st a).stampsNew st b
  | [], _ => rfl
  | n :: r, b => by simp only [List.cons_append, PMem.stampsNew]; exact stampsNew_append _ st r b
theorem Row.shape {own : Own} {z : Nat} {w : World} {tag : Tag} {e : TypeId} {size : Nat} {v : Value} {n : Nat} {xs : List Value} (h : Row own z w tag e size v n xs) : ∃ a cap, v = .slice a n cap ∧ (n ≠ 0 → ∃ g, a = some ⟨g, 0, none⟩ ∧ own g = ⟨z, tag⟩) := by
  rcases h.row.2 with ⟨h1, h2⟩ | ⟨g, cap, cur, h1, _⟩
  · exact ⟨none, 0, by rw [h1, h2], fun h => absurd h2 h⟩
  · exact ⟨some ⟨g, 0, none⟩, cap, h1, fun _ => ⟨g, rfl, h.tg g (by rw [h1]; rfl)⟩⟩
section
variable {own : Own} {z : Nat} {w : World} {L : ZLay} {P : PSt}
/-- A made node's number, in any world that leaves the rows of the worker alone. -/
theorem ZAt.madeCell (h : ZAt own z w L P) {w' : World} (hf : MFr L.ml w w') {i : Nat} {l : WLay} {t : PThread} (hl : L.wks[i]? = some l) (ht : P.ts[i]? = some t) {g n cap : Nat} (hv : l.made = .slice (some ⟨g, 0, none⟩) n cap) {k : Nat} {x : Int} (hx : t.work.made[k]? = some x) :
    w'.cell? ⟨g, k, none⟩ = some (.int .i64 x) := by
  have hT := (h.wk i l t hl ht).made
  have hn : ¬ (g = L.ml.nb ∨ g = L.ml.eb) := by
    have htg := hT.tg g (by rw [hv]; rfl)
    rintro (e | e)
    · rw [e, h.no] at htg; simp at htg
    · rw [e, h.eo] at htg; simp at htg
  have hr := Fr.owns hf hT.row (by intro j hj; rw [hv] at hj; simp [Value.ownBlock] at hj; subst hj; exact hn)
  have hnn : n = t.work.made.length := by
    rcases hT.row.2 with ⟨h1, _⟩ | ⟨g', cap', cur, h1, _⟩
    · rw [hv] at h1; cases h1
    · rw [hv] at h1; simp at h1; exact h1.2.1
  subst hnn
  rw [hv] at hr
  exact ownsRow_cell hr (by simp [intCells, hx])

set_option maxHeartbeats 4000000 in
set_option maxRecDepth 100000 in
theorem undo_calls (h : ZAt own z w L P) {i : Nat} {l : WLay} {t : PThread} (hl : L.wks[i]? = some l) (ht : P.ts[i]? = some t) (hmade : t.work.made.length ≤ 2) :
    Calls Tryz.prog 170 #[.pointer (some ⟨L.s, 0, none⟩), .pointer (some ⟨l.b, 0, none⟩)] w fun e w' => e = .returned (.tuple #[]) ∧
      ZAt own z w' L (P.setM ((P.mem.unpend t.work.tsrc t.work.tside).frees t.work.made)) ∧ FrZ own z w w' := by
  have H := (show Hid (ZAt own z w L P) from h)
  have HL := (show Hid (L.wks[i]? = some l) from hl)
  have Ht := (show Hid (P.ts[i]? = some t) from ht)
  obtain ⟨ma, mcap, hmv, hmg⟩ := ((h.wk i l t hl ht).made).shape
  have HMV := (show Hid (l.made = _) from hmv)
  have HMG := (show Hid (t.work.made.length ≠ 0 → _) from hmg)
  clear h hl ht hmg
  go_enter Tryz.func170, Tryz.ntmps170
  go_wp2_with fail
  refine wp_region_one 9 L.ml (fun w' => MAt w' L.ml (P.mem.unpend t.work.tsrc t.work.tside) ∧ MFr L.ml w w') (fun _ h => h.2) (by kernel_rfl) (by kernel_rfl) (by kernel_rfl) (by kernel_rfl) (by decide) ?_
  intro U W hU hW
  have hau : ∀ u o, (W u).cell? ⟨L.s, o, none⟩ = (P.head L)[o]? := fun u => (H.out.memCells (hW u)).1
  have hlu : ∀ u o, (W u).cell? ⟨l.b, o, none⟩ = (t.cells i l)[o]? := fun u => (H.out.memCells (hW u)).2 i l t HL.out Ht.out
  simp only [PSt.head] at hau
  simp only [PThread.cells] at hlu
  clear hW
  repeat (refine mix_read rfl rfl ?_; go_big_quiet_step (fail); refine wpQuiet_nil ?_)
  refine mix_effC (.tuple #[]) rfl rfl rfl ?_ ?_
  · intro w' hw'
    have hw0 := hw'.1 rfl
    go_simp
    refine (Unpend_calls (H.out.calm hw0).mem t.work.tsrc t.work.tside).mono ?_
    rintro e w'' ⟨rfl, hM, hF⟩
    exact ⟨rfl, hM, (MFr.of0 hw0).trans hF⟩
  go_simp
  refine mix_nil ?_
  intro w2 hM2 hF2
  clear hau hlu
  generalize hM0 : P.mem.unpend t.work.tsrc t.work.tside = M0 at hM2
  have HM0 := (show Hid (P.mem.unpend t.work.tsrc t.work.tside = M0) from hM0)
  obtain ⟨hZ2, hZF⟩ := H.out.memSet hM2 hF2
  have H2 := (show Hid (ZAt own z w2 L (P.setM (M0.frees (t.work.made.take 0)))) from hZ2)
  have HZF := (show Hid (FrZ own z w w2) from hZF)
  clear hM2 hF2 hZ2 hZF H hM0
  have ha := (H2.out.wk i l t HL.out Ht.out).at_.cell
  simp only [PThread.cells] at ha
  rw [hmv] at ha
  go_wp2_with fail
  clear ha
  go_loopw [4, 21] (fun _ j wr => ∃ k : Nat, k ≤ t.work.made.length ∧ j = .int .i64 k ∧ Hid (ZAt own z wr L (P.setM (M0.frees (t.work.made.take k)))) ∧ Hid (FrZ own z w wr)) (fun _ j _ => t.work.made.length - (intOf j).toNat)
  case atStart => exact ⟨0, Nat.zero_le _, rfl, H2, HZF⟩
  case round =>
    clear H2 HZF
    obtain ⟨k, hk, rfl, H2, HZF⟩ := hrel
    by_cases hlt : k < t.work.made.length
    · obtain ⟨g, rfl, _⟩ := HMG.out (by omega)
      have hx : t.work.made[k]? = some t.work.made[k] := List.getElem?_eq_getElem hlt
      have hnext : t.work.made.take (k + 1) = t.work.made.take k ++ [t.work.made[k]] := List.take_succ_eq_append_getElem hlt
      generalize t.work.made[k] = x at hx hnext
      have hE : Hid (M0.frees (t.work.made.take (k + 1)) = (M0.frees (t.work.made.take k)).free x) := by show _ = _; rw [hnext, frees_append]; rfl
      have HX := (show Hid (t.work.made[k]? = some x) from hx)
      clear hx hnext
      go_wp2_with fail
      refine wp_region_one 12 L.ml (fun w' => MAt w' L.ml ((M0.frees (t.work.made.take k)).free x) ∧ MFr L.ml wr w') (fun _ h => h.2) (by kernel_rfl) (by kernel_rfl) (by kernel_rfl) (by kernel_rfl) (by decide) ?_
      intro U W hU hW
      have hau : ∀ u o, (W u).cell? ⟨L.s, o, none⟩ = ((P.setM (M0.frees (t.work.made.take k))).head L)[o]? := fun u => (H2.out.memCells (hW u)).1
      have hlu : ∀ u o, (W u).cell? ⟨l.b, o, none⟩ = (t.cells i l)[o]? := fun u => (H2.out.memCells (hW u)).2 i l t HL.out Ht.out
      have hgu : ∀ u, (W u).cell? ⟨g, k, none⟩ = some (.int .i64 x) := fun u => H2.out.madeCell (hW u) HL.out Ht.out HMV.out HX.out
      simp only [PSt.head, PSt.setM] at hau
      simp only [PThread.cells, hmv] at hlu
      clear hW
      repeat (refine mix_read rfl rfl ?_; go_big_quiet_step (fail); refine wpQuiet_nil ?_)
      refine mix_effC (.tuple #[]) rfl rfl rfl ?_ ?_
      · intro w' hw'
        have hw0 := hw'.1 rfl
        go_simp
        refine (Free_calls (H2.out.calm hw0).mem x).mono ?_
        rintro e w'' ⟨rfl, hM, hF⟩
        exact ⟨rfl, hM, (MFr.of0 hw0).trans hF⟩
      go_simp
      refine mix_nil ?_
      intro w3 hM3 hF3
      clear hau hlu hgu
      obtain ⟨hZ3, hZF3⟩ := H2.out.memSet hM3 hF3
      have H3 := (show Hid (ZAt own z w3 L (P.setM (M0.frees (t.work.made.take (k + 1))))) from by rw [hE.out]; exact hZ3)
      have HZF3 := (show Hid (FrZ own z w w3) from FrZ.trans HZF.out (Ext.refl _ _) hZF3)
      clear hM3 hF3 hZ3 hZF3
      go_wp2
      go_roundw
      case rel => exact ⟨k + 1, by omega, by go_num, H3, HZF3⟩
      case measure => simp [intOf]; omega
    · have hk' : k = t.work.made.length := by omega
      subst hk'
      have H3 := H2.out
      rw [List.take_length] at H3
      have H4 := (show Hid (ZAt own z wr L _) from H3)
      clear H3
      go_wp2
      go_end0
      rw [HM0.out]
      exact ⟨rfl, H4.out, HZF.out⟩
end
end Go.Proofs.YtfccelbmacjifaaGreat

