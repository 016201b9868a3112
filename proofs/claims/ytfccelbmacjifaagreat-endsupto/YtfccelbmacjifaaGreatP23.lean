import Derived.Test.YtfccelbmacjifaaGreatP22
import Derived.Test.YtfccelbmacjifaaGreatP19
set_option linter.unusedSimpArgs false
namespace Go.Proofs.YtfccelbmacjifaaGreat
open Go.RowKit
def nodeCells (x : PNode) : List Value := [.int .i64 x.key, .int .i64 x.value, .bool x.dead, .bool x.retired, .int .i64 x.retiredAt, .bool x.used, .int .i64 x.holder, .int .i64 x.links, .int .i64 (x.leads false), .int .i64 (x.leads true)]
section
variable {own : Own} {z : Nat} {w : World} {L : ZLay} {P : PSt}
theorem ZAt.wkLinks (h : ZAt own z w L P) {i : Nat} {l : WLay} {t : PThread} (hl : L.wks[i]? = some l) (ht : P.ts[i]? = some t) {w1 : World} {v : Value} {LW : List (Int × Bool)} (hO : OwnLinks w w1 v LW) :
    ∃ own' L' l', ZAt own' z (w1.setCell ⟨l.b, 16, none⟩ v) L' (P.setT i { t with work := { t.work with links := LW } }) ∧ L'.wks[i]? = some l' ∧ l'.b = l.b ∧ Ext own own' w ∧ FrZ own z w (w1.setCell ⟨l.b, 16, none⟩ v) ∧ L'.s = L.s ∧ L'.ml = L.ml ∧ L'.wks.map (·.b) = L.wks.map (·.b) := by
  have hWk := h.wk i l t hl ht
  have hE : Ext own (fun k => if v.ownBlock = some k then ⟨z, .tr i 2⟩ else own k) w := by
    intro k hk
    show (if _ then _ else _) = _
    rw [if_neg]
    intro e
    have := hO.new k e
    omega
  have hF : Fr (fun k => k = l.b) w (w1.setCell ⟨l.b, 16, none⟩ v) := Fr.set1 (Fr.mono hO.fr (fun _ _ h => h.elim)) _ _
  have hFT : FrT own z (fun t => t = .thread i ∨ ∃ k, t = .tr i k) w (w1.setCell ⟨l.b, 16, none⟩ v) := FrT.one hF hWk.tg (.inl rfl)
  have hn : ∀ tag, tag ≠ Tag.thread i → ∀ k, own k = ⟨z, tag⟩ → ¬ k = l.b := by
    rintro tag hne k hk rfl; rw [hWk.tg] at hk; simp at hk; exact hne hk.symm
  have hA1 := hO.fr.at hWk.at_ (fun h => h)
  refine ⟨_, _, { l with links := v }, h.wkSet (l' := { l with links := v }) (t' := { t with work := { t.work with links := LW } }) hl rfl hFT hE ⟨hA1.set 16 _, (hE _ hWk.at_.lt).trans hWk.tg, hWk.spans.fr hF hE (hn _ (by simp)), hWk.made.fr hF hE (hn _ (by simp)), ⟨ownsRow_setOther hO.row (a := ⟨l.b, 16, none⟩) (hA1.ne_row hO.row (by decide)) v, fun k hk => by show (if _ then _ else _) = _; rw [if_pos hk]⟩, hWk.noted.fr hF hE (hn _ (by simp)), hWk.alists.fr hF hE (hn _ (by simp)), hWk.llists.fr hF hE (hn _ (by simp))⟩, (show (L.wks.set i _)[i]? = some _ from by rw [List.getElem?_set_self (List.getElem?_eq_some_iff.1 hl).1]), rfl, hE, hFT.zone, rfl, rfl, ?_⟩
  show (L.wks.set i _).map (·.b) = _
  rw [List.map_set]
  exact setL_same (by simp [hl])
/-- New lists become the store's. -/
theorem OwnLists.lists {w1 : World} {v : Value} {ll : List (List (Int × Int))} (hO : OwnLists w w1 v ll) (own : Own) (z : Nat) : ∃ own', Ext own own' w ∧ ListsAt own' z w1 v ll := by
  refine ⟨fun k => if w.heap.size ≤ k then ⟨z, .lists⟩ else own k, fun k hk => by show (if _ then _ else _) = _; rw [if_neg (by omega)], hO.nil, ?_⟩
  obtain ⟨ins, h1, h2, h3⟩ := hO.top
  exact ⟨ins, h1, ⟨h2, fun k hk => by show (if _ then _ else _) = _; rw [if_pos (hO.new k hk)]⟩, fun j u l hu hl => ⟨(h3 j u l hu hl).1, fun k hk => by show (if _ then _ else _) = _; rw [if_pos ((h3 j u l hu hl).2 k hk)]⟩⟩
set_option maxHeartbeats 4000000 in
set_option maxRecDepth 100000 in
theorem scan_calls (h : ZAt own z w L P) (hk : P.kind = 0) {i : Nat} {l : WLay} {t : PThread} (hl : L.wks[i]? = some l) (ht : P.ts[i]? = some t) (n : Int) (hlk : t.work.links.length = 1) (h16 : t.work.spans.length ≤ 16) (hn : t.work.noted.length ≤ 2 ^ 39) :
    Calls Tryz.prog 130 #[.pointer (some ⟨L.s, 0, none⟩), .pointer (some ⟨l.b, 0, none⟩), .int .i64 n] w fun e w' => e = .returned (.tuple #[]) ∧ ZGoes own z w L (P.setT i { t with work := P.scan t.work n }) w' := by
  obtain ⟨iP, hiP, hzP, hsP, hbP⟩ := info_parts Tryz.infoPr
  obtain ⟨ha, haz, hal, hs, hsz, hsl, n1, n2⟩ := h.view hl ht
  simp only [PThread.cells] at ha
  simp only [PSt.head] at hs
  obtain ⟨sa, sc, hsv, _⟩ := (h.wk i l t hl ht).spans.shape
  have HPS : Hid (PairsAt w sa t.work.spans) := PairsAt.ofRow (by have := (h.wk i l t hl ht).spans; rw [hsv] at this; exact this)
  rw [hsv] at ha
  have H := (show Hid (ZAt own z w L P) from h)
  have HK := (show Hid (P.kind = 0) from hk)
  have HL := (show Hid (L.wks[i]? = some l) from hl)
  have Ht := (show Hid (P.ts[i]? = some t) from ht)
  clear h hk hl ht hsz haz
  go_enter Tryz.func130, Tryz.ntmps130
  go_wp2_with fail
  refine (leastLo_calls w sa sc t.work.spans (by omega) HPS.out).mono ?_
  rintro e w1 ⟨rfl, rfl⟩
  go_wp2_with fail
  refine (greatestHi_calls w1 sa sc t.work.spans (by omega) HPS.out).mono ?_
  rintro e w1 ⟨rfl, rfl⟩
  go_wp2_with fail
  refine (Node_calls H.out.mem n).mono ?_
  rintro e w2 ⟨rfl, hF⟩
  have H2 := (show Hid (ZAt own z w2 L P) from H.out.calm hF)
  have HF2 := (show Hid (Fr _ w1 w2) from hF)
  clear hF H HPS ha hal hs hsl
  have HE : Hid (∀ N LW, (if (!((P.mem.node n).links == 2) && isIn (P.mem.node n).key (leastLo t.work.spans) (greatestHi t.work.spans)) = true then t.work.noted ++ [((P.mem.node n).key, (P.mem.node n).value)] else t.work.noted) = N → P.linksWithin n (leastLo t.work.spans) (greatestHi t.work.spans) ++ t.work.links.drop 1 = LW →
      P.scan t.work n = if LW.length = 0 then ({ t.work with noted := N, links := LW } : PWork).conclude (answerOf t.work.spans N t.work.time) else { t.work with noted := N, links := LW }) := by
    rintro N LW rfl rfl; rfl
  have HLW : Hid (P.linksWithin n (leastLo t.work.spans) (greatestHi t.work.spans) ++ t.work.links.drop 1 = if (P.mem.node n).key ≤ greatestHi t.work.spans then [(n, false)] else []) := by
    show _ = _
    rw [List.drop_eq_nil_of_le (by omega), List.append_nil]
    unfold PSt.linksWithin
    rw [if_pos HK.out]
  generalize hlo : leastLo t.work.spans = lo at HE HLW ⊢
  generalize hhi : greatestHi t.work.spans = hi at HE HLW ⊢
  clear hlo hhi
  generalize P.mem.node n = x at HE HLW ⊢
  unfold nodeVal
  go_wp2_with fail
  generalize hw3 : World.alloc w2 _ = w3
  have hF3 : Fr (fun _ => False) w2 w3 := by subst hw3; exact (Fr.refl _ _).alloc _
  have HX3 : Hid (At w3 w2.heap.size (nodeCells x) 166) := by subst hw3; exact At.new _ _ _
  clear hw3
  refine (IsInner_calls x w3).mono ?_
  rintro e w5 ⟨rfl, hF4⟩
  have H4 := (show Hid (ZAt own z w5 L P) from H2.out.calm (hF3.trans hF4))
  have HF4 := (show Hid (Fr (fun _ => False) w1 w5) from HF2.out.trans (hF3.trans hF4))
  have HX4 := (show Hid (At w5 w2.heap.size _ _) from hF4.at HX3.out (fun h => h))
  clear H2 HF2 hF3 HX3 hF4
  obtain ⟨ha, haz, hal, hs, hsz, hsl, _, _⟩ := H4.out.view HL.out Ht.out
  have hxc := HX4.out.cell
  simp only [nodeCells] at hxc
  simp only [PThread.cells] at ha
  simp only [PSt.head] at hs
  clear hsz haz
  cases hin : (x.links == 2)
  focus
    go_wp2_with fail
    refine (isWithin_calls _ _ _ _).mono ?_
    rintro e w6 ⟨rfl, hw⟩
    have hw := hw.symm
    subst hw
    cases hwi : isIn x.key lo hi
  rotate_left
  focus
    obtain ⟨N, hN⟩ : ∃ N, N = t.work.noted ++ [(x.key, x.value)] := ⟨_, rfl⟩
    have HN : Hid ((if (!(x.links == 2) && isIn x.key lo hi) = true then t.work.noted ++ [(x.key, x.value)] else t.work.noted) = N) := by show _ = _; rw [hin, hwi, hN]; rfl
    have HNl : Hid (N.length ≤ 2 ^ 39 + 1) := by show _ ≤ _; rw [hN, List.length_append, List.length_singleton]; omega
    go_wp2_with fail
    have hrow := (H4.out.wk i l t HL.out Ht.out).noted
    obtain ⟨na, nc, hnv, _⟩ := hrow.shape
    have Hrow1 := hrow.row
    rw [hnv] at Hrow1
    have hrow1 : (w5.drew.alloc (.cells #[.int .i64 x.key, .int .i64 x.value] 147)).ownsRow 0 147 2 (.slice na t.work.noted.length nc) t.work.noted.length (t.work.noted.flatMap pairCells) := ownsRow_alloc (World.ownsRow.drew Hrow1) _
    obtain ⟨g, gcap, w6, hown, hg, hge, hrun⟩ := push_runs (P := Tryz.prog) (w5.drew.alloc (.cells #[.int .i64 x.key, .int .i64 x.value] 147)) 58 58 0 147 iP (.agg #[.int .i64 0, .int .i64 0]) 2 16 Tryz.underlying58 hiP hzP hsP hbP rfl (by decide) _ _ _ hrow1
      w5.heap.size [.int .i64 x.key, .int .i64 x.value] rfl 147 (At.newAt rfl _ _) (by simp [Value.oneCell']) (by unfold maxLen; omega) (by omega) (by simp)
    have HT5 := (show Hid (At w5 l.b _ _) from (H4.out.wk i l t HL.out Ht.out).at_)
    have M2 : Hid ((Value.slice na t.work.noted.length nc).ownBlock ≠ some l.b) := HT5.out.ne_row Hrow1 (by decide)
    have M3 : Hid ((Value.slice na t.work.noted.length nc).ownBlock ≠ some w2.heap.size) := HX4.out.ne_row Hrow1 (by decide)
    have HT6 := (show Hid (At w6 l.b _ _) from ((HT5.out.drew).alloc _).grown hg M2.out)
    have HX6 := (show Hid (At w6 w2.heap.size _ _) from ((HX4.out.drew).alloc _).grown hg M3.out)
    have HRun := (show Hid (∀ (o : Oper) (a : Act) (s x : Operand), _) from hrun)
    have HOwn := (show Hid (w6.ownsRow 0 _ _ _ _ _) from hown)
    have HG := (show Hid (World.grownBy _ w6 _) from hg)
    have HGe := (show Hid (_ ∨ _) from hge)
    have Hrow := (show Hid _ from hrow)
    have Hnv := (show Hid (l.noted = .slice na t.work.noted.length nc) from hnv)
    clear hrun hown hg hge hrow1 Hrow1 ha hxc hs hal hsl hrow hnv
    refine wp_region_mix [11, 12, 16] (fun k => match k with | 0 => w5.drew | 1 => w5.drew.alloc (.cells #[.int .i64 x.key, .int .i64 x.value] 147) | 2 => w6 | _ => w6.setCell ⟨l.b, 17, none⟩ (.slice (some ⟨g, 0, none⟩) (t.work.noted.length + 1) gcap)) 2 rfl (by kernel_rfl) (by kernel_rfl) (by kernel_rfl) (by decide) (by kernel_rfl) (by kernel_rfl) (by decide) rfl ?_
    intro W hW
    have ha : ∀ u o, (W u).cell? ⟨l.b, o, none⟩ = (t.cells i l)[o]? := by
      intro u
      obtain ⟨k, hk, he⟩ := hW u
      rw [he]
      rcases (show k = 0 ∨ k = 1 ∨ k = 2 by omega) with rfl | rfl | rfl
      · exact HT5.out.drew.cell
      · exact (HT5.out.drew.alloc _).cell
      · exact HT6.out.cell
    have hx : ∀ u o, (W u).cell? ⟨w2.heap.size, o, none⟩ = (nodeCells x)[o]? := by
      intro u
      obtain ⟨k, hk, he⟩ := hW u
      rw [he]
      rcases (show k = 0 ∨ k = 1 ∨ k = 2 by omega) with rfl | rfl | rfl
      · exact HX4.out.drew.cell
      · exact (HX4.out.drew.alloc _).cell
      · exact HX6.out.cell
    simp only [PThread.cells, Hnv.out] at ha
    simp only [nodeCells] at hx
    clear hW
    have hc6 := HT6.out.cell
    have hz6 := HT6.out.frozen
    simp only [PThread.cells] at hc6
    repeat (refine mix_read rfl rfl ?_; go_big_quiet_step (fail); refine wpQuiet_nil ?_)
    refine mix_eff (v := .slice (some ⟨w5.heap.size, 0, none⟩) 1 1) rfl rfl rfl ?_ ?_
    · go_simp
      exact ⟨rfl, rfl⟩
    refine mix_eff rfl rfl rfl (HRun.out _ _ _ _ rfl rfl rfl rfl) ?_
    go_simp
    repeat (refine mix_read rfl rfl ?_; go_big_quiet_step (fail); refine wpQuiet_nil ?_)
    refine mix_eff (v := undef) rfl rfl rfl ?_ ?_
    · go_simp
      exact ⟨rfl, rfl⟩
    refine mix_nil ?_
    go_simp
    have hne : l.b ≠ g := by
      have := HT6.out.ne_row HOwn.out (by decide)
      intro e; apply this; simp [Value.ownBlock, e]
    have hF7 : Fr (fun k => k = l.b ∨ l.noted.ownBlock = some k) w5 (w6.setCell ⟨l.b, 17, none⟩ (.slice (some ⟨g, 0, none⟩) (t.work.noted.length + 1) gcap)) :=
      Fr.setIn (.inl rfl) ((((Fr.refl _ _).drew).alloc _).grown HG.out (fun k hk => .inl (.inr (by rw [Hnv.out]; exact hk)))) _ _
    have hE7 : Ext own (own.put g z (.tr i 3)) w5 := Ext.put' (Ext.refl _ _) (by
      rcases HGe.out with h | h
      · exact .inl (Hrow.out.tg g (by rw [Hnv.out]; exact h))
      · exact .inr (by simp at h; omega))
    have hWk := H4.out.wk i l t HL.out Ht.out
    have hFT : FrT own z (fun t => t = .thread i ∨ ∃ k, t = .tr i k) w5 (w6.setCell ⟨l.b, 17, none⟩ (.slice (some ⟨g, 0, none⟩) (t.work.noted.length + 1) gcap)) := FrT.of hF7 (by
      rintro k (rfl | hk)
      · rw [hWk.tg]; exact ⟨rfl, .inl rfl⟩
      · rw [hWk.noted.tg k hk]; exact ⟨rfl, .inr ⟨3, rfl⟩⟩)
    have hnS : ∀ tag, tag ≠ Tag.thread i → tag ≠ Tag.tr i 3 → ∀ k, own k = ⟨z, tag⟩ → ¬ (k = l.b ∨ l.noted.ownBlock = some k) := by
      rintro tag h1 h2 k hk (rfl | hk')
      · rw [hWk.tg] at hk; simp at hk; exact h1 hk.symm
      · rw [hWk.noted.tg k hk'] at hk; simp at hk; exact h2 hk.symm
    have hZ7 := H4.out.wkSet (l' := { l with noted := .slice (some ⟨g, 0, none⟩) (t.work.noted.length + 1) gcap }) (t' := { t with work := { t.work with noted := N } }) HL.out rfl hFT hE7 ⟨HT6.out.set 17 _, by rw [hE7 _ HT5.out.lt]; exact hWk.tg, hWk.spans.fr hF7 hE7 (hnS _ (by simp) (by simp)), hWk.made.fr hF7 hE7 (hnS _ (by simp) (by simp)), hWk.links.fr hF7 hE7 (hnS _ (by simp) (by simp)), ⟨by
        have := ownsRow_setOther HOwn.out (a := ⟨l.b, 17, none⟩) (by simp [Value.ownBlock]; exact fun e => hne e.symm) (.slice (some ⟨g, 0, none⟩) (t.work.noted.length + 1) gcap)
        simpa [hN, pairCells] using this, by intro k hk; simp [Value.ownBlock] at hk; subst hk; exact Own.put_same _ _ _ _⟩, hWk.alists.fr hF7 hE7 (hnS _ (by simp) (by simp)), hWk.llists.fr hF7 hE7 (hnS _ (by simp) (by simp))⟩
    have hFz := hFT.zone
    generalize w6.setCell ⟨l.b, 17, none⟩ (.slice (some ⟨g, 0, none⟩) (t.work.noted.length + 1) gcap) = wq at *
    obtain ⟨ownq, Lq, lq, HQ, HLq, Hbq, HG⟩ : ∃ ownq Lq lq, Hid (ZAt ownq z wq Lq (P.setT i { t with work := { t.work with noted := N } })) ∧ Hid (Lq.wks[i]? = some lq) ∧ Hid (lq.b = l.b) ∧ Hid (Ext own ownq w1 ∧ FrZ own z w1 wq ∧ Lq.s = L.s ∧ Lq.ml = L.ml ∧ Lq.wks.map (·.b) = L.wks.map (·.b)) := by
      refine ⟨_, _, { l with noted := .slice (some ⟨g, 0, none⟩) (t.work.noted.length + 1) gcap }, hZ7, (show (L.wks.set i _)[i]? = some _ from by rw [List.getElem?_set_self (List.getElem?_eq_some_iff.1 HL.out).1]), rfl, fun k hk => hE7 k (Nat.lt_of_lt_of_le hk HF4.out.size), FrZ.trans (Fr.mono HF4.out (fun _ _ h => h.elim)) (Ext.refl _ _) hFz, rfl, rfl, ?_⟩
      show (L.wks.set i _).map (·.b) = _
      rw [List.map_set]
      exact setL_same (by simp [HL.out])
    clear hZ7 hFz hFT hF7 hE7 hWk hnS hne hN ha hx hc6 hz6 HT5 HT6 HX4 HX6 M2 M3 HRun HOwn HGe Hrow Hnv H4 HF4
    go_wp2_with fail
  rotate_left
  iterate 2
    focus
      obtain ⟨N, hN⟩ : ∃ N, N = t.work.noted := ⟨_, rfl⟩
      have HN : Hid ((if (!(x.links == 2) && isIn x.key lo hi) = true then t.work.noted ++ [(x.key, x.value)] else t.work.noted) = N) := by show _ = _; first | (rw [hin, hwi, hN]; rfl) | (rw [hin, hN]; rfl)
      have HNl : Hid (N.length ≤ 2 ^ 39 + 1) := by show _ ≤ _; rw [hN]; omega
      clear ha hs hxc hal hsl
      go_wp2_with fail
      generalize w5 = wq at *
      obtain ⟨ownq, Lq, lq, HQ, HLq, Hbq, HG⟩ : ∃ ownq Lq lq, Hid (ZAt ownq z wq Lq (P.setT i { t with work := { t.work with noted := N } })) ∧ Hid (Lq.wks[i]? = some lq) ∧ Hid (lq.b = l.b) ∧ Hid (Ext own ownq w1 ∧ FrZ own z w1 wq ∧ Lq.s = L.s ∧ Lq.ml = L.ml ∧ Lq.wks.map (·.b) = L.wks.map (·.b)) := by
        refine ⟨own, L, l, ?_, HL.out, rfl, Ext.refl _ _, Fr.mono HF4.out (fun _ _ h => h.elim), rfl, rfl, rfl⟩
        show ZAt _ _ _ _ (P.setT i _)
        have : P.setT i { t with work := { t.work with noted := N } } = P := by
          subst hN
          show { P with ts := P.ts.set i t } = P
          rw [setL_same Ht.out]
        rw [this]; exact H4.out
      clear hN HX4 H4 HF4
    rotate_left
  all_goals
    have hlw := linksWithin_calls HQ.out HK.out n lo hi
    rw [HG.out.2.2.1] at hlw
    refine hlw.mono ?_
    clear hlw
    rintro e w6 ⟨v, rfl, hO⟩
    have hLW : P.linksWithin n lo hi = if x.key ≤ hi then [(n, false)] else [] := by
      have := HLW.out
      rw [List.drop_eq_nil_of_le (by omega), List.append_nil] at this
      exact this
    obtain ⟨LW, hW⟩ : ∃ LW, LW = if x.key ≤ hi then [(n, false)] else [] := ⟨_, rfl⟩
    have HW := (show Hid (LW = _) from hW)
    have HE2 := (show Hid _ from HE.out N LW HN.out (by rw [HLW.out, hW]))
    have HO : Hid (OwnLinks wq w6 v LW) := by show OwnLinks _ _ _ _; rw [hW, ← hLW]; exact hO
    obtain ⟨va, vc, rfl⟩ := ownsShape HO.out.row
    clear hO hLW HE HLW HN
    have H6 := (show Hid (ZAt ownq z w6 Lq _) from HQ.out.calm HO.out.fr)
    have Ht6 : Hid ((P.setT i { t with work := { t.work with noted := N } }).ts[i]? = some { t with work := { t.work with noted := N } }) := by
      show (P.ts.set i _)[i]? = _
      rw [List.getElem?_set_self (List.getElem?_eq_some_iff.1 Ht.out).1]
    obtain ⟨own7, L7, l7, hZ7, hL7, hb7, hE7, hF7, hs7, hm7, hw7⟩ := HQ.out.wkLinks HLq.out Ht6.out HO.out
    obtain ⟨ha, haz, hal, _, _, _, _, _⟩ := H6.out.view HLq.out Ht6.out
    obtain ⟨ka, kc, hkv, _⟩ := (H6.out.wk i lq _ HLq.out Ht6.out).links.shape
    simp only [PThread.cells, hkv, hlk] at ha
    rw [Hbq.out] at ha haz hal hZ7 hF7
    have hEz : Ext own own7 w1 := Ext.trans HG.out.1 hE7 HG.out.2.1.size
    have hFz := FrZ.trans HG.out.2.1 HG.out.1 hF7
    have hPP : ∀ k : PWork, (((P.setT i { t with work := { t.work with noted := N } }).setT i { t with work := k }) = P.setT i { t with work := k }) := by
      intro k; show ({ P with ts := (P.ts.set i _).set i _ } : PSt) = { P with ts := P.ts.set i _ }; rw [List.set_set]
    have HZ7 := (show Hid (ZAt own7 z _ _ _) from hZ7)
    have HE7 := (show Hid (Ext own own7 w1) from hEz)
    have HF7 := (show Hid (FrZ own z w1 _) from hFz)
    have HPP := (show Hid (∀ k : PWork, _) from hPP)
    have HLs := (show Hid (L7.s = L.s ∧ L7.ml = L.ml ∧ L7.wks.map (·.b) = L.wks.map (·.b)) from ⟨hs7.trans HG.out.2.2.1, hm7.trans HG.out.2.2.2.1, hw7.trans HG.out.2.2.2.2⟩)
    have HL7 := (show Hid (L7.wks[i]? = some l7) from hL7)
    have HB7 := (show Hid (l7.b = l.b) from hb7.trans Hbq.out)
    rw [HPP.out] at HZ7
    clear HQ hW hZ7 hE7 hEz hFz hF7 hPP H6 hs7 hm7 hw7 hL7 hb7 HPP HLq HG
    go_wp2_with fail
    refine wp_loop_rounds 1 ?_
    rw [rounds_succ]
    by_cases hle : x.key ≤ hi
    · have hLl : LW.length = 1 := by rw [HW.out, if_pos hle]; rfl
      rw [hLl] at HO HE2 HZ7 HF7 ⊢
      go_wp2
      go_end0
      rw [HE2.out]
      exact ⟨rfl, own7, L7, HZ7.out, HE7.out, HF7.out, HLs.out⟩
    · have hLl : LW.length = 0 := by rw [HW.out, if_neg hle]; rfl
      rw [hLl] at HO HE2 HZ7 HF7 ⊢
      go_wp2_with fail
      clear ha haz hal HO
      generalize w6.setCell ⟨l.b, 16, none⟩ (.slice va 0 vc) = w7 at *
      have Ht7 : Hid ((P.setT i { t with work := { t.work with noted := N, links := LW } }).ts[i]? = some { t with work := { t.work with noted := N, links := LW } }) := by
        show (P.ts.set i _)[i]? = _
        rw [List.getElem?_set_self (List.getElem?_eq_some_iff.1 Ht.out).1]
      have hWk := HZ7.out.wk i l7 _ HL7.out Ht7.out
      obtain ⟨pa, pc, hpv, _⟩ := hWk.spans.shape
      obtain ⟨qa, qc, hqv, _⟩ := hWk.noted.shape
      have HPS : Hid (PairsAt w7 pa t.work.spans) := PairsAt.ofRow (by have := hWk.spans; rw [hpv] at this; exact this)
      have HPN : Hid (PairsAt w7 qa N) := PairsAt.ofRow (by have := hWk.noted; rw [hqv] at this; exact this)
      have HT7 := (show Hid (At w7 l.b _ _) from by rw [← HB7.out]; exact hWk.at_)
      have HV := (show Hid (l7.spans = .slice pa t.work.spans.length pc ∧ l7.noted = .slice qa N.length qc) from ⟨hpv, hqv⟩)
      clear hWk hpv hqv
      refine wp_region_late 15 [.int .i64 0, .bool false, .int .i64 0, .int .i64 0, .slice none 0 0] 93 rfl (by kernel_rfl) (by kernel_rfl) rfl (by kernel_rfl) ?_
      intro U W hU hW
      have ha : ∀ u o, (W u).cell? ⟨l.b, o, none⟩ = (({ t with work := { t.work with noted := N, links := LW } } : PThread).cells i l7)[o]? := by
        intro u
        rcases hW u with h | h <;> rw [h]
        · exact HT7.out.drew.cell
        · exact (HT7.out.drew.alloc _).cell
      simp only [PThread.cells, HV.out.1, HV.out.2] at ha
      clear hW
      repeat (refine late_read rfl ?_; go_big_quiet_step (fail); refine wpQuiet_nil ?_)
      refine late_end ⟨rfl, ?_, ?_, ?_⟩
      · go_simp
      all_goals clear ha
      · go_wp2_with fail
        have hd : Fr (fun _ => False) w7 w7.drew := (Fr.refl _ _).drew
        refine (answerOfScan_calls w7.drew pa pc t.work.spans h16 (HPS.out.calm hd) qa qc N (by have := HNl.out; omega) (HPN.out.calm hd) t.work.time).mono ?_
        rintro e w8 ⟨ua, un, uc, rfl, hO⟩
        obtain ⟨own8, hE8, hLs8⟩ := hO.lists own7 z
        have hZ8 := (HZ7.out.calm hd).fr hO.fr hE8 (fun _ _ h => h)
        have HE8 := (show Hid (Ext own7 own8 w7) from hE8)
        have HF8 := (show Hid (Fr (fun _ => False) w7 w8) from hd.trans hO.fr)
        have HS8 := (show Hid (ListsAt own8 z w8 _ _) from hLs8)
        have HZ8 := (show Hid (ZAt own8 z w8 L7 _) from hZ8)
        clear hO hE8 hLs8 hZ8 hd
        generalize answerOf t.work.spans N t.work.time = A at *
        unfold ansV
        go_wp2_with fail
        generalize hw9 : World.alloc w8 _ = w9
        have hF9 : Fr (fun _ => False) w8 w9 := by subst hw9; exact (Fr.refl _ _).alloc _
        clear hw9
        have hcon := conclude_calls (HZ8.out.calm hF9) HL7.out Ht7.out A ua un uc (HS8.out.fr hF9 (Ext.refl _ _) (fun _ _ h => h))
        rw [HB7.out] at hcon
        refine hcon.mono ?_
        clear hcon
        rintro e w10 ⟨rfl, hZ⟩
        have HZ := (show Hid (ZGoes own8 z w9 L7 _ w10) from hZ)
        have HF9 := (show Hid (Fr _ w8 w9) from hF9)
        clear hZ hF9
        go_wp2
        go_end0
        rw [HE2.out, if_pos (by trivial)]
        refine ⟨rfl, ZGoes.trans (own1 := own8) (Ext.trans HE7.out HE8.out HF7.out.size) (FrZ.trans HF7.out HE7.out (Fr.mono (HF8.out.trans HF9.out) (fun _ _ h => h.elim))) HLs.out.1 HLs.out.2.1 HLs.out.2.2 ?_⟩
        have hPP : ∀ x y : PThread, (P.setT i x).setT i y = P.setT i y := by
          intro x y; show ({ P with ts := (P.ts.set i _).set i _ } : PSt) = { P with ts := P.ts.set i _ }; rw [List.set_set]
        have hZ := HZ.out
        rw [hPP] at hZ
        exact hZ
      · have HX := (show Hid (At (w7.drew.alloc _) w7.heap.size _ _) from At.new w7.drew [.int .i64 0, .bool false, .int .i64 0, .int .i64 0, .slice none 0 0] 93)
        have hd : Fr (fun _ => False) w7 (w7.drew.alloc (.cells #[.int .i64 0, .bool false, .int .i64 0, .int .i64 0, .slice none 0 0] 93)) := ((Fr.refl _ _).drew).alloc _
        go_wp2_with fail
        refine (answerOfScan_calls _ pa pc t.work.spans h16 (HPS.out.calm hd) qa qc N (by have := HNl.out; omega) (HPN.out.calm hd) t.work.time).mono ?_
        rintro e w8 ⟨ua, un, uc, rfl, hO⟩
        obtain ⟨own8, hE8, hLs8⟩ := hO.lists (own7.put w7.heap.size z (.oth 9)) z
        have HOb : Hid (own8 w7.heap.size = ⟨z, .oth 9⟩) := (hE8 _ (by show _ < (w7.drew.alloc _).heap.size; simp)).trans (Own.put_same _ _ _ _)
        have HE8 := (show Hid (Ext own7 own8 w7) from fun k hk => (hE8 k (Nat.lt_of_lt_of_le hk hd.size)).trans (Own.put_ne _ _ _ (by omega)))
        have HF8 := (show Hid (Fr (fun _ => False) w7 w8) from hd.trans hO.fr)
        have HS8 := (show Hid (ListsAt own8 z w8 _ _) from hLs8)
        have HX8 := (show Hid (At w8 w7.heap.size _ _) from hO.fr.at HX.out (fun h => h))
        clear hO hE8 hLs8 hd HX
        generalize answerOf t.work.spans N t.work.time = A at *
        unfold ansV
        have hxc := HX8.out.cell
        have hxz := HX8.out.frozen
        go_wp2_with fail
        generalize hw9 : World.setCell _ ⟨w7.heap.size, 4, none⟩ _ = w9
        have hF9 : Fr (fun k => k = w7.heap.size) w8 w9 := by
          subst hw9
          repeat (with_reducible first | refine Fr.set1 ?_ _ _ | exact Fr.refl _ _)
        have hF79 : Fr (fun _ => False) w7 w9 := by
          subst hw9
          repeat (with_reducible first | refine Fr.setNew (Nat.le_refl _) ?_ _ _ | exact HF8.out)
        clear hw9 hxc hxz HX8
        have hcon := conclude_calls (HZ7.out.fr hF79 HE8.out (fun _ _ h => h)) HL7.out Ht7.out A ua un uc (HS8.out.fr hF9 (Ext.refl _ _) (fun k hk e => by rw [e, HOb.out] at hk; simp at hk))
        rw [HB7.out] at hcon
        refine hcon.mono ?_
        clear hcon
        rintro e w10 ⟨rfl, hZ⟩
        have HZ := (show Hid (ZGoes own8 z w9 L7 _ w10) from hZ)
        have HF9 := (show Hid (Fr _ w7 w9) from hF79)
        clear hZ hF9 hF79
        go_wp2
        go_end0
        rw [HE2.out, if_pos (by trivial)]
        refine ⟨rfl, ZGoes.trans (own1 := own8) (Ext.trans HE7.out HE8.out HF7.out.size) (FrZ.trans HF7.out HE7.out (Fr.mono HF9.out (fun _ _ h => h.elim))) HLs.out.1 HLs.out.2.1 HLs.out.2.2 ?_⟩
        have hPP : ∀ x y : PThread, (P.setT i x).setT i y = P.setT i y := by
          intro x y; show ({ P with ts := (P.ts.set i _).set i _ } : PSt) = { P with ts := P.ts.set i _ }; rw [List.set_set]
        have hZ := HZ.out
        rw [hPP] at hZ
        exact hZ
end
end Go.Proofs.YtfccelbmacjifaaGreat

set_option linter.unusedSimpArgs false
namespace Go.Proofs.YtfccelbmacjifaaGreat
open Go.RowKit
section
variable {own : Own} {z : Nat} {w : World} {L : ZLay} {P : PSt}
set_option maxHeartbeats 4000000 in
set_option maxRecDepth 100000 in
theorem stepOfRead_calls (h : ZAt own z w L P) (hk : P.kind = 0) {i : Nat} {l : WLay} {t : PThread} (hl : L.wks[i]? = some l) (ht : P.ts[i]? = some t) (hkd : t.work.kind = 3 ∨ t.work.kind = 4) (hlk : t.work.kind = 4 → t.work.links.length = 1 ∧ t.work.spans.length ≤ 16 ∧ t.work.noted.length ≤ 2 ^ 39) :
    Calls Tryz.prog 112 #[.pointer (some ⟨L.s, 0, none⟩), .pointer (some ⟨l.b, 0, none⟩)] w fun e w' => e = .returned (.int .i64 (P.read i t.work).2) ∧ ZGoes own z w L (P.read i t.work).1 w' := by
  have HE : Hid (∀ b a, P.mem.hasPending (P.linkNext t.work).1 (P.linkNext t.work).2 = b → P.mem.ledTo (P.linkNext t.work).1 (P.linkNext t.work).2 t.work.time = a → P.read i t.work = if b then (P, 2) else (P.setW i (if t.work.kind = 3 then P.lookUp t.work a else P.scan t.work a), 1)) := by
    rintro b a rfl rfl; rfl
  have HW : Hid (∀ k, P.setW i k = P.setT i { t with work := k }) := by
    intro k
    exact setT_work ht k
  have H := (show Hid (ZAt own z w L P) from h)
  have HL := (show Hid (L.wks[i]? = some l) from hl)
  have Ht := (show Hid (P.ts[i]? = some t) from ht)
  have HK := (show Hid (P.kind = 0 ∧ (t.work.kind = 4 → _)) from ⟨hk, hlk⟩)
  have HKD := (show Hid (t.work.kind = 3 ∨ t.work.kind = 4) from hkd)
  clear h hl ht hk hlk hkd
  go_enter Tryz.func112, Tryz.ntmps112
  go_wp2_with fail
  refine (linkToFollow_calls H.out HL.out Ht.out).mono ?_
  rintro e w1 ⟨rfl, hF1⟩
  generalize P.linkNext t.work = p at HE ⊢
  obtain ⟨pn, ps⟩ := p
  have HF1 := (show Hid (Fr _ w w1) from hF1)
  clear hF1
  unfold lnk
  go_wp2_with fail
  generalize hw2 : World.alloc w1 _ = w2
  have HF2 : Hid (Fr (fun _ => False) w w2) := by subst hw2; exact HF1.out.alloc _
  have HX : Hid (At w2 w1.heap.size [.int .i64 pn, .int .i64 (b2i ps)] 109) := by subst hw2; exact At.new _ _ _
  clear hw2 HF1
  have H2 := (show Hid (ZAt own z w2 L P) from H.out.calm HF2.out)
  clear H
  refine wp_region_calm [5] 0 rfl (by kernel_rfl) (by kernel_rfl) (by kernel_rfl) (by decide) (by kernel_rfl) (by decide) ?_
  intro U W hU hW
  have hau : ∀ u o, (W u).cell? ⟨L.s, o, none⟩ = (P.head L)[o]? := fun u => ((H2.out).calm (hW u)).hd.cell
  have hxu : ∀ u o, (W u).cell? ⟨w1.heap.size, o, none⟩ = [Value.int .i64 pn, .int .i64 (b2i ps)][o]? := fun u => ((hW u).at HX.out (fun h => h)).cell
  simp only [PSt.head] at hau
  clear hW
  repeat (refine mix_read rfl rfl ?_; go_big_quiet_step (fail); refine wpQuiet_nil ?_)
  refine mix_effC (.bool (P.mem.hasPending pn ps)) rfl rfl rfl ?_ ?_
  · intro w' hw'
    go_simp
    refine (HasPending_calls (H2.out.calm hw').mem pn ps).mono ?_
    rintro e w'' ⟨rfl, hF⟩
    exact ⟨rfl, hw'.trans hF⟩
  go_simp
  refine mix_nil ?_
  intro w3 hw3
  have HF3 := (show Hid (Fr (fun _ => False) w w3) from HF2.out.trans hw3)
  have H3 := (show Hid (ZAt own z w3 L P) from H2.out.calm hw3)
  have HX3 := (show Hid (At w3 w1.heap.size _ _) from hw3.at HX.out (fun h => h))
  clear hau hxu hw3 HF2 HX H2
  have HE2 := (show Hid _ from HE.out _ _ rfl rfl)
  clear HE
  generalize P.mem.hasPending pn ps = hp at HE2 ⊢
  cases hp
  · go_wp2_with fail
    refine wp_region_calm [10] 0 rfl (by kernel_rfl) (by kernel_rfl) (by kernel_rfl) (by decide) (by kernel_rfl) (by decide) ?_
    intro U W hU hW
    have hau : ∀ u o, (W u).cell? ⟨L.s, o, none⟩ = (P.head L)[o]? := fun u => ((H3.out).calm (hW u)).hd.cell
    have hlu : ∀ u o, (W u).cell? ⟨l.b, o, none⟩ = (t.cells i l)[o]? := fun u => (((H3.out).calm (hW u)).wk i l t HL.out Ht.out).at_.cell
    have hxu : ∀ u o, (W u).cell? ⟨w1.heap.size, o, none⟩ = [Value.int .i64 pn, .int .i64 (b2i ps)][o]? := fun u => ((hW u).at HX3.out (fun h => h)).cell
    simp only [PSt.head] at hau
    simp only [PThread.cells] at hlu
    clear hW
    repeat (refine mix_read rfl rfl ?_; go_big_quiet_step (fail); refine wpQuiet_nil ?_)
    refine mix_effC (.int .i64 (P.mem.ledTo pn ps t.work.time)) rfl rfl rfl ?_ ?_
    · intro w' hw'
      go_simp
      refine (LedTo_calls (H3.out.calm hw').mem pn ps t.work.time).mono ?_
      rintro e w'' ⟨rfl, hF⟩
      exact ⟨rfl, hw'.trans hF⟩
    go_simp
    repeat (refine mix_read rfl rfl ?_; go_big_quiet_step (fail); refine wpQuiet_nil ?_)
    refine mix_nil ?_
    intro w4 hw4
    have HF4 := (show Hid (Fr (fun _ => False) w w4) from HF3.out.trans hw4)
    have H4 := (show Hid (ZAt own z w4 L P) from H3.out.calm hw4)
    clear hau hlu hxu hw4 HF3 H3 HX3
    obtain ⟨ha, haz, hal, _, _, _, _, _⟩ := H4.out.view HL.out Ht.out
    simp only [PThread.cells] at ha
    generalize P.mem.ledTo pn ps t.work.time = ah at HE2 ⊢
    rcases HKD.out with h3 | h4
    · rw [h3] at ha
      go_wp2_with fail
      refine (lookUp_calls H4.out HL.out Ht.out ah).mono ?_
      rintro e w5 ⟨rfl, hZ⟩
      have HZ := (show Hid (ZGoes own z w L _ w5) from ZGoes.calm HF4.out hZ)
      clear hZ ha
      go_wp2
      go_ret
      rw [HE2.out, if_neg (by simp), if_pos h3, HW.out]
      exact ⟨rfl, HZ.out⟩
    · rw [h4] at ha
      go_wp2_with fail
      obtain ⟨q1, q2, q3⟩ := HK.out.2 h4
      refine (scan_calls H4.out HK.out.1 HL.out Ht.out ah q1 q2 q3).mono ?_
      rintro e w5 ⟨rfl, hZ⟩
      have HZ := (show Hid (ZGoes own z w L _ w5) from ZGoes.calm HF4.out hZ)
      clear hZ ha
      go_wp2
      go_ret
      rw [HE2.out, if_neg (by simp), if_neg (by omega), HW.out]
      exact ⟨rfl, HZ.out⟩
  · go_wp2
    go_ret
    rw [HE2.out, if_pos (by trivial)]
    exact ⟨rfl, ZGoes.calm HF3.out ⟨own, L, H3.out, Ext.refl _ _, Fr.refl _ _, rfl, rfl, rfl⟩⟩
theorem step_read {i : Nat} {t : PThread} (hkd : t.work.kind = 3 ∨ t.work.kind = 4) (hn : 4 ≤ t.work.next ∧ t.work.next ≤ 12) : P.step i t = P.read i t.work := by
  unfold PSt.step
  split
  · next h => omega
  · next h => omega
  · next h => omega
  · next h => omega
  · rw [if_pos hkd]
theorem ZStep_read (h : ZAt own z w L P) (hk : P.kind = 0) {i : Nat} {t : PThread} (ht : P.ts[i]? = some t) (hb : t.busy = true) (hn : 1 ≤ t.work.next ∧ t.work.next ≤ 13) (hkd : t.work.kind = 3 ∨ t.work.kind = 4) (hlk : t.work.kind = 4 → 4 ≤ t.work.next ∧ t.work.next ≤ 12 → t.work.links.length = 1 ∧ t.work.spans.length ≤ 16 ∧ t.work.noted.length ≤ 2 ^ 39) :
    Calls Tryz.prog 68 #[.pointer (some ⟨L.s, 0, none⟩), .int .i64 i] w fun e w' => e = .returned (.tuple #[.int .i64 (P.step i t).2, .int .i64 0]) ∧ ZGoes own z w L (P.step i t).1 w' :=
  ZStep_gen h ht hb hn true (by rcases hkd with h | h <;> rw [h] <;> rfl) (fun l hl hn' => by
    rw [step_read hkd hn']
    exact stepOfRead_calls h hk hl ht hkd (fun h4 => hlk h4 hn'))
end
end Go.Proofs.YtfccelbmacjifaaGreat

