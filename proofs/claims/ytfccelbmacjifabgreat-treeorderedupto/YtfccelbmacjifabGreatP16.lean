import Derived.Test.YtfccelbmacjifabGreatP0
import Derived.Test.YtfccelbmacjifabGreatP15
set_option linter.unusedSimpArgs false
set_option maxRecDepth 100000
set_option maxHeartbeats 4000000
namespace Go.Proofs.YtfccelbmacjifabGreat
section
open Go.RowKit
theorem Tryz.infoIntZ : (Tryz.prog.info? 3).map (fun i=>(i.zero,i.size,i.bytes)) = some (some (.int .i64 0),1,8):=by kernel_rfl
section
variable {own : Own} {z : Nat} {w : World} {L : ZLay} {P : PSt}
theorem ZAt.wkMade (h : ZAt own z w L P) {w' : World} {i g cap : Nat} {l : WLay} {t t' : PThread} (hl : L.wks[i]? = some l) (ht : P.ts[i]? = some t) (hf : Fr (fun k=>l.made.ownBlock = some k\/k = l.b) w w')
  (hg : l.made.ownBlock = some g\/w.heap.size<=g) (ho : w'.ownsRow 0 3 1 (.slice (some ⟨g,0,none⟩) t'.work.made.length cap) t'.work.made.length (intCells t'.work.made))
  (hA : At w' l.b (t'.cells i { l with made:=.slice (some ⟨g,0,none⟩) t'.work.made.length cap }) 118)
  (e1 : t'.work.spans = t.work.spans) (e3 : t'.work.links = t.work.links) (e4 : t'.work.noted = t.work.noted) (e6 : t'.work.ans.spans = t.work.ans.spans) (e7 : t'.last.spans = t.last.spans) :
  ∃ own',Ext own own' w/\ZAt own' z w' { L with wks:=L.wks.set i { l with made:=.slice (some ⟨g,0,none⟩) t'.work.made.length cap } } (P.setT i t')/\FrZ own z w w':=by
 have hT:=h.wk i l t hl ht;have hE : Ext own (own.put g z (.tr i 1)) w:=by
  refine Ext.put' (Ext.refl _ _) ?_;rcases hg with hg | hg
  ·exact .inl (hT.made.tg g hg)
  ·exact .inr hg
 have hF : FrT own z (fun t=>t = .thread i\/∃ k,t = .tr i k) w w':=by
  refine FrT.of hf ?_;rintro k (hk | rfl)
  ·rw [hT.made.tg k hk]; exact ⟨rfl,.inr ⟨1,rfl⟩⟩
  ·rw [hT.tg]; exact ⟨rfl,.inl rfl⟩
 have hn : ∀ tag,tag≠Tag.thread i->tag≠Tag.tr i 1->∀ k,own k = ⟨z,tag⟩->¬ (l.made.ownBlock = some k\/k = l.b):=by
  rintro tag h1 h2 k hk (hk' | rfl)
  ·rw [hT.made.tg k hk'] at hk; simp at hk; exact h2 hk.symm
  ·rw [hT.tg] at hk; simp at hk; exact h1 hk.symm
 refine ⟨own.put g z (.tr i 1),hE,h.wkSet hl rfl hF hE ⟨hA,by rw [hE _ hT.at_.lt]; exact hT.tg,?_,⟨ho,?_⟩,?_,?_,?_,?_⟩,hF.zone⟩
 ·rw [e1]; exact hT.spans.fr hf hE (hn _ (by simp) (by simp))
 ·intro k hk; simp [Value.ownBlock] at hk; subst hk; exact Own.put_same _ _ _ _
 ·rw [e3]; exact hT.links.fr hf hE (hn _ (by simp) (by simp))
 ·rw [e4]; exact hT.noted.fr hf hE (hn _ (by simp) (by simp))
 ·rw [e6]; exact hT.alists.fr hf hE (hn _ (by simp) (by simp))
 ·rw [e7]; exact hT.llists.fr hf hE (hn _ (by simp) (by simp))
theorem prepareInsert_list (h : ZAt own z w L P) (hk : P.kind = 0) {i : Nat} {l : WLay} {t : PThread} (hl : L.wks[i]? = some l) (ht : P.ts[i]? = some t) (hmade : t.work.made.length<=2) :
  Calls Tryz.prog 125 #[.pointer (some ⟨L.s,0,none⟩),.pointer (some ⟨l.b,0,none⟩)] w fun e w'=>e = .returned (.tuple #[]) /\
   ZGoes own z w L ((P.setM (P.prepareInsert t.work).1).setT i { t with work:=(P.prepareInsert t.work).2 }) w':=by
 generalize hMe : P.mem.make t.work.key t.work.value = q;have hE : Hid (P.prepareInsert t.work = ((q.1.addLink q.2 t.work.ahead).pend t.work.stand (q.1.sideFor t.work.stand t.work.key) q.2,{ t.work with made:=t.work.made ++ [q.2],tsrc:=t.work.stand,tside:=q.1.sideFor t.work.stand t.work.key })):=by
  show _ = _; simp only [PSt.prepareInsert,if_pos hk,hMe]
 obtain ⟨iI,hiI,hzI,hsI,hbI⟩:=info_parts Tryz.infoIntZ;have H:=(mkH (ZAt own z w L P) <|h);have HL:=(mkH (L.wks[i]? = some l) <|hl);have Ht:=(mkH (P.ts[i]? = some t) <|ht);have HMe:=(mkH (P.mem.make t.work.key t.work.value = q) <|hMe);clear h hl ht hMe
 go_enter Tryz.func125,Tryz.ntmps125
 go_wp2_with fail;refine wp_region_one 14 L.ml (fun w'=>MAt w' L.ml q.1/\MFr L.ml w w') (fun _ h=>h.2) (by kernel_rfl) (by kernel_rfl) (by kernel_rfl) (by kernel_rfl) (by decide) ?_;intro U W hU hW;have hau : ∀ u o,(W u).cell? ⟨L.s,o,none⟩ = (P.head L)[o]?:=fun u=>(H.out.memCells (hW u)).1
 have hlu : ∀ u o,(W u).cell? ⟨l.b,o,none⟩ = (t.cells i l)[o]?:=fun u=>(H.out.memCells (hW u)).2 i l t HL.out Ht.out
 simp only [PSt.head] at hau;simp only [PThread.cells] at hlu;clear hW
 repeat (refine mix_read rfl rfl ?_; go_big_quiet_step (fail); refine wpQuiet_nil ?_)
 refine mix_effC (.int .i64 q.2) rfl rfl rfl ?_ ?_
 ·intro w' hw';have hw0:=hw'.1 rfl;go_simp;refine (Make_calls (H.out.calm hw0).mem t.work.key t.work.value).mono ?_;rw [HMe.out];rintro e w'' ⟨rfl,hM,hF⟩;exact ⟨rfl,hM,(MFr.of0 hw0).trans hF⟩
 go_simp
 repeat (refine mix_read rfl rfl ?_; go_big_quiet_step (fail); refine wpQuiet_nil ?_)
 refine mix_nil ?_;intro w2 hM2 hF2;clear hau hlu;obtain ⟨hZ2,hZF⟩:=H.out.memSet hM2 hF2;have H2:=(mkH (ZAt own z w2 L (P.setM q.1)) <|hZ2);have HZF:=(mkH (FrZ own z w w2) <|hZF);clear hM2 hF2 hZ2 hZF H HMe;have HT:=(mkH (At w2 l.b _ _) <|(H2.out.wk i l t HL.out Ht.out).at_);have ha:=HT.out.cell;have haz:=HT.out.frozen;have hrow:=(H2.out.wk i l t HL.out Ht.out).made.row;have HR:=(mkH (w2.ownsRow 0 _ _ _ _ _) <|hrow);simp only [PThread.cells] at ha;clear hrow;go_wp2_with (at_builtin; refine wpList_push _ rfl _ _ 39 rfl 0 3 iI (.int .i64 0) 1 8 Tryz.underlying39 hiI hzI hsI hbI rfl (by decide) _ _ _ rfl (ownsRow_alloc HR.out _) w2.heap.size [.int .i64 q.2] rfl rfl 3 (At.newAt (by simp) _ _) (by simp [Value.oneCell']) (by unfold maxLen; omega) (by omega) (by omega) ?_);intro g cap w3 hown hg hge;have hA3 : At w3 l.b (t.cells i l) 118:=(HT.out.alloc _).grown hg (HT.out.ne_row HR.out (by decide));have hF3 : Fr (fun k=>l.made.ownBlock = some k\/k = l.b) w2 (w3.setCell ⟨l.b,13,none⟩ (.slice (some ⟨g,0,none⟩) (t.work.made.length + 1) cap)) :=
  Fr.setIn (.inr rfl) (((Fr.refl _ _).alloc _).grown hg (fun k hk=>.inl (.inl hk))) _ _
 have hrow3 : (w3.setCell ⟨l.b,13,none⟩ (.slice (some ⟨g,0,none⟩) (t.work.made.length + 1) cap)).ownsRow 0 3 1 (.slice (some ⟨g,0,none⟩) (t.work.made ++ [q.2]).length cap) (t.work.made ++ [q.2]).length (intCells (t.work.made ++ [q.2])):=by
  have:=ownsRow_setOther hown (a:=⟨l.b,13,none⟩) (hA3.ne_row hown (by decide)) (.slice (some ⟨g,0,none⟩) (t.work.made.length + 1) cap)
  simpa [intCells] using this
 obtain ⟨own1,hE1,hZ1,hFZ1⟩:=H2.out.wkMade HL.out Ht.out (t':={ t with work:={ t.work with made:=t.work.made ++ [q.2] } }) hF3 (by rcases hge with h | h; exact .inl h; exact .inr (by omega)) hrow3 (by simp only [List.length_append,List.length_cons,List.length_nil,Nat.zero_add]; exact hA3.set 13 _) rfl rfl rfl rfl rfl;have ha3:=hA3.cell;have hz3:=hA3.frozen;simp only [PThread.cells] at ha3;have H4:=(mkH (ZAt own1 z _ _ _) <|hZ1);have HE1:=(mkH (Ext own own1 w) <|fun j hj=>hE1 j (Nat.lt_of_lt_of_le hj HZF.out.size));have HF4:=(mkH (FrZ own z w _) <|FrZ.trans HZF.out (Ext.refl _ _) hFZ1);clear hown hg hge hA3 hF3 hrow3 hE1 hZ1 hFZ1 ha haz HR HT H2 HZF;go_wp2_with fail;clear ha3 hz3;generalize w3.setCell ⟨l.b,13,none⟩ (.slice (some ⟨g,0,none⟩) (t.work.made.length + 1) cap) = w4 at *;obtain ⟨l1,hl1⟩ : ∃ x : WLay,x = { l with made:=.slice (some ⟨g,0,none⟩) (t.work.made ++ [q.2]).length cap }:=⟨_,rfl⟩;have hb1 : l.b = l1.b:=by rw [hl1]
 have H4':=H4.out;rw [<- hl1] at H4';have HL1:=(mkH (({ L with wks:=L.wks.set i l1 } : ZLay).wks[i]? = some l1) <|by
  obtain ⟨h1,_⟩:=List.getElem?_eq_some_iff.1 HL.out;show (L.wks.set i l1)[i]? = some l1;simp [h1])
 have HMP:=(mkH (({ L with wks:=L.wks.set i l1 } : ZLay).wks.map (·.b) = L.wks.map (·.b)) <|by
  show (L.wks.set i l1).map (·.b) = _;rw [List.map_set];exact setL_same (by simp [HL.out,hb1]))
 have e1 : ({ L with wks:=L.wks.set i l1 } : ZLay).s = L.s:=rfl;have e2 : ({ L with wks:=L.wks.set i l1 } : ZLay).ml = L.ml:=rfl;generalize ({ L with wks:=L.wks.set i l1 } : ZLay) = L1 at *;obtain ⟨t1,ht1⟩ : ∃ x : PThread,x = { t with work:={ t.work with made:=t.work.made ++ [q.2] } }:=⟨_,rfl⟩;rw [<- ht1] at H4';obtain ⟨P1,hP1⟩ : ∃ x : PSt,x = (P.setM q.1).setT i t1:=⟨_,rfl⟩;rw [<- hP1] at H4';have Ht1:=(mkH (P1.ts[i]? = some t1) <|by rw [hP1]; exact setT_get (P.setM q.1) Ht.out _);have hmem1 : P1.mem = q.1:=by rw [hP1]; rfl
 have hk1 : P1.kind = 0:=by rw [hP1]; exact hk
 have hEnd : Hid (∀ M1 M2 : PMem,((P1.setM M1).setM M2).setT i { t1 with work:={ t1.work with tsrc:=t.work.stand,tside:=q.1.sideFor t.work.stand t.work.key } } = (P.setM M2).setT i { t with work:={ t.work with made:=t.work.made ++ [q.2],tsrc:=t.work.stand,tside:=q.1.sideFor t.work.stand t.work.key } }):=by
  intro M1 M2; rw [hP1,ht1]; simp [PSt.setM,PSt.setT,List.set_set]
 have x1 : t1.work.stand = t.work.stand:=by rw [ht1]
 have x2 : t1.work.key = t.work.key:=by rw [ht1]
 have x3 : t1.work.ahead = t.work.ahead:=by rw [ht1]
 rw [hb1,<- e1];have H5:=(mkH (ZAt own1 z w4 L1 P1) <|H4');have HMEM:=(mkH (P1.mem = q.1) <|hmem1);have X1:=(mkH (t1.work.stand = t.work.stand) <|x1);have X2:=(mkH (t1.work.key = t.work.key) <|x2);have X3:=(mkH (t1.work.ahead = t.work.ahead) <|x3);have E2:=(mkH (L1.ml = L.ml) <|e2);have E1:=(mkH (L1.s = L.s) <|e1);clear H4 H4' hP1 ht1 hl1 hmem1 x1 x2 x3 hb1 e1 e2 hk;rw [<- X1.out,<- X2.out,<- X3.out] at hE;rw [<- X1.out,<- X2.out] at hEnd;rw [<- HMEM.out] at hE hEnd;refine wp_region_box 14 15 16 4 [.int .i64 0,.int .i64 0] [.int .i64 t1.work.stand,.int .i64 (b2i (P1.mem.sideFor t1.work.stand t1.work.key))] 113 (by kernel_rfl) (by kernel_rfl) (by kernel_rfl) (by decide) (by decide) (by decide) (by decide) (by kernel_rfl) (by kernel_rfl) ?_;intro addr hge U W hU hW;have hau : ∀ u o,(W u).cell? ⟨L1.s,o,none⟩ = (P1.head L1)[o]?:=fun u=>((H5.out).calm (hW u)).hd.cell
 have hlu : ∀ u o,(W u).cell? ⟨l1.b,o,none⟩ = (t1.cells i l1)[o]?:=fun u=>(((H5.out).calm (hW u)).wk i l1 t1 HL1.out Ht1.out).at_.cell
 simp only [PSt.head] at hau;simp only [PThread.cells] at hlu;clear hW
 repeat (refine box_read (by decide) (by decide) (by decide) rfl ?_; go_big_quiet_step (fail); refine wpQuiet_nil ?_)
 refine box_call (lnk t1.work.stand (P1.mem.sideFor t1.work.stand t1.work.key)) rfl rfl ?_ ?_
 ·intro w' hw0;go_simp;refine (LinkFor_size (H5.out.calm hw0).mem _ _).mono ?_;rintro e w'' ⟨rfl,hF,hz'⟩;exact ⟨rfl,hF,hz'⟩
 unfold lnk;go_simp;refine box_alloc (by decide) rfl rfl ?_ ?_
 ·intro w';go_simp;exact ⟨rfl,rfl⟩
 go_simp;refine box_store (by decide) (by decide) rfl rfl ?_ ?_
 ·intro w' hA;have hc:=hA.cell;have hf:=hA.frozen;have HA:=(mkH (At w' addr _ _) <|hA);clear hA hau hlu;go_simp;refine ⟨rfl,((Fr.refl _ _).set1 _ _).set1 _ _,(HA.out.set 0 (.int .i64 t1.work.stand)).set 1 (.int .i64 (b2i (P1.mem.sideFor t1.work.stand t1.work.key)))⟩
 go_simp;refine box_nil ?_;intro w5 hF5 hA5;have H6:=(mkH (ZAt own1 z w5 L1 P1) <|H5.out.calm hF5);have HF5:=(mkH (Fr (fun _=>False) w4 w5) <|hF5);have HA5:=(mkH (At w5 addr _ _) <|hA5);clear hF5 hA5 hau hlu H5;obtain ⟨ha,haz,hal,hs,hsz,hsl,n1,n2⟩:=H6.out.view HL1.out Ht1.out;simp only [PThread.cells,PSt.head,hk1] at ha hs;clear haz hsz;go_wp2_with fail;refine wp_region_one 10 L1.ml (fun w'=>MAt w' L1.ml (P1.mem.addLink q.2 t1.work.ahead)/\MFr L1.ml w5 w') (fun _ h=>h.2) (by kernel_rfl) (by kernel_rfl) (by kernel_rfl) (by kernel_rfl) (by decide) ?_;intro U W hU hW;have hau : ∀ u o,(W u).cell? ⟨L1.s,o,none⟩ = (P1.head L1)[o]?:=fun u=>(H6.out.memCells (hW u)).1
 have hlu : ∀ u o,(W u).cell? ⟨l1.b,o,none⟩ = (t1.cells i l1)[o]?:=fun u=>(H6.out.memCells (hW u)).2 i l1 t1 HL1.out Ht1.out
 simp only [PSt.head] at hau;simp only [PThread.cells] at hlu;clear hW ha hs
 repeat (refine mix_read rfl rfl ?_; go_big_quiet_step (fail); refine wpQuiet_nil ?_)
 refine mix_effC (.tuple #[]) rfl rfl rfl ?_ ?_
 ·intro w' hw';have hw0:=hw'.1 rfl;go_simp;refine (AddLink_calls (H6.out.calm hw0).mem q.2 t1.work.ahead).mono ?_;rintro e w'' ⟨rfl,hM,hF⟩;exact ⟨rfl,hM,(MFr.of0 hw0).trans hF⟩
 go_simp;refine mix_nil ?_;intro w6 hM6 hF6;clear hau hlu;have hA6 : At w6 addr [.int .i64 t1.work.stand,.int .i64 (b2i (P1.mem.sideFor t1.work.stand t1.work.key))] 113:=by
  refine Fr.at hF6 HA5.out ?_;have h1:=HA5.out.ne_row H6.out.mem.nodes (by decide);have h2:=HA5.out.ne_row H6.out.mem.ents (by decide);simp [Value.ownBlock] at h1 h2;rintro (e | e)
  ·exact h1 e.symm
  ·exact h2 e.symm
 obtain ⟨hZ6,hZF6⟩:=H6.out.memSet hM6 hF6;have H7:=(mkH (ZAt own1 z w6 L1 (P1.setM (P1.mem.addLink q.2 t1.work.ahead))) <|hZ6);have HF7:=(mkH (FrZ own z w w6) <|FrZ.trans HF4.out HE1.out (FrZ.trans (Fr.mono HF5.out (fun _ _ h=>h.elim)) (Ext.refl _ _) hZF6));have hc6:=hA6.cell;clear hM6 hF6 hZ6 hZF6 hA6 HA5 HF5 HF4 H6;go_wp2_with fail;refine (pend_calls H7.out HL1.out Ht1.out t1.work.stand (P1.mem.sideFor t1.work.stand t1.work.key) q.2).mono ?_;rintro e w7 ⟨rfl,hZ,hF⟩;have H8:=(mkH (ZAt own1 z w7 L1 _) <|hZ);have HF8:=(mkH (FrZ own z w w7) <|FrZ.trans HF7.out HE1.out hF);clear hZ hF hc6;go_wp2;refine bodyPost_ret (results_none rfl _ _ _) rfl ?_;rw [hE.out];refine ⟨rfl,own1,L1,?_,HE1.out,HF8.out,E1.out,E2.out,HMP.out⟩;have H8':=H8.out;have hh:=hEnd.out (P1.mem.addLink q.2 t1.work.ahead) ((P1.mem.addLink q.2 t1.work.ahead).pend t1.work.stand (P1.mem.sideFor t1.work.stand t1.work.key) q.2);rw [X1.out,X2.out,X3.out] at hh H8' ⊢;exact Eq.mp (congrArg (ZAt own1 z w7 L1) hh) H8'
theorem join_calls (h : ZAt own z w L P) (one other : Int) :
  Calls Tryz.prog 138 #[.pointer (some ⟨L.s,0,none⟩),.int .i64 one,.int .i64 other] w fun e w'=>e = .returned (.int .i64 (P.mem.join one other).2) /\
   MAt w' L.ml (P.mem.join one other).1/\MFr L.ml w w':=by
 have H:=(mkH (ZAt own z w L P) <|h);clear h
 go_enter Tryz.func138,Tryz.ntmps138
 go_wp2_with fail;refine wp_region_calm [5,12] 1 rfl (by kernel_rfl) (by kernel_rfl) (by kernel_rfl) (by decide) (by kernel_rfl) (by decide) ?_;intro U W hU hW;have hau : ∀ u o,(W u).cell? ⟨L.s,o,none⟩ = (P.head L)[o]?:=fun u=>((H.out).calm (hW u)).hd.cell
 simp only [PSt.head] at hau;clear hW
 repeat (refine mix_read rfl rfl ?_; go_big_quiet_step (fail); refine wpQuiet_nil ?_)
 refine mix_effC (nodeVal (P.mem.node one)) rfl rfl rfl ?_ ?_
 ·intro w' hw';go_simp;refine (Node_calls (H.out.calm hw').mem one).mono ?_;rintro e w'' ⟨rfl,hF⟩;exact ⟨rfl,hw'.trans hF⟩
 have hfd:=field_key (P.mem.node one);go_simp
 repeat (refine mix_read rfl rfl ?_; go_big_quiet_step (fail); refine wpQuiet_nil ?_)
 refine mix_effC (nodeVal (P.mem.node other)) rfl rfl rfl ?_ ?_
 ·intro w' hw';go_simp;refine (Node_calls (H.out.calm hw').mem other).mono ?_;rintro e w'' ⟨rfl,hF⟩;exact ⟨rfl,hw'.trans hF⟩
 have hfd2:=field_key (P.mem.node other);go_simp
 repeat (refine mix_read rfl rfl ?_; go_big_quiet_step (fail); refine wpQuiet_nil ?_)
 refine mix_nil ?_;intro w1 hw1;have H1:=(mkH (ZAt own z w1 L P) <|H.out.calm hw1);have HF1:=(mkH (Fr (fun _=>False) w w1) <|hw1);clear hw1 hau H hfd hfd2;have hs:=H1.out.hd.cell;have hsl:=H1.out.hd.lt;simp only [PSt.head] at hs;by_cases hlt : (P.mem.node other).key < (P.mem.node one).key
 ·have HE : Hid (P.mem.join one other = (((P.mem.make (P.mem.node one).key 0).1.addLink (P.mem.make (P.mem.node one).key 0).2 other).addLink (P.mem.make (P.mem.node one).key 0).2 one,(P.mem.make (P.mem.node one).key 0).2)):=by
   show _ = _; simp only [PMem.join,if_pos hlt]
  generalize hq : P.mem.make (P.mem.node one).key 0 = q at HE;have HQ:=(mkH (P.mem.make (P.mem.node one).key 0 = q) <|hq);clear hq;go_wp2_with fail;refine (Node_calls H1.out.mem one).mono ?_;rintro e w2 ⟨rfl,hF⟩;have H2:=(mkH (ZAt own z w2 L P) <|H1.out.calm hF);have HF2:=(mkH (Fr (fun _=>False) w w2) <|HF1.out.trans hF);clear hF H1 HF1 hs hsl;have hfd:=field_key (P.mem.node one);have hs:=H2.out.hd.cell;have hsl:=H2.out.hd.lt;simp only [PSt.head] at hs;go_wp2_with fail;refine (Make_calls H2.out.mem (P.mem.node one).key 0).mono ?_;rw [HQ.out];rintro e w3 ⟨rfl,hM,hF⟩;obtain ⟨hZ3,hZF3⟩:=H2.out.memSet hM hF;have H3:=(mkH (ZAt own z w3 L (P.setM q.1)) <|hZ3);have HF3:=(mkH (MFr L.ml w w3) <|(MFr.of0 HF2.out).trans hF);clear hM hF hZ3 hZF3 H2 HF2 hs hsl hfd;have hs:=H3.out.hd.cell;have hsl:=H3.out.hd.lt;simp only [PSt.head,PSt.setM] at hs;go_wp2_with fail;refine (AddLink_calls H3.out.mem q.2 other).mono ?_;rintro e w4 ⟨rfl,hM,hF⟩;obtain ⟨hZ4,hZF4⟩:=H3.out.memSet hM hF;have H4:=(mkH (ZAt own z w4 L ((P.setM q.1).setM (q.1.addLink q.2 other))) <|hZ4);have HF4:=(mkH (MFr L.ml w w4) <|HF3.out.trans hF);clear hM hF hZ4 hZF4 H3 HF3 hs hsl;have hs:=H4.out.hd.cell;have hsl:=H4.out.hd.lt;simp only [PSt.head,PSt.setM] at hs;go_wp2_with fail;refine (AddLink_calls H4.out.mem q.2 one).mono ?_;rintro e w5 ⟨rfl,hM,hF⟩;have H5:=(mkH (MAt w5 L.ml _) <|hM);have HF5:=(mkH (MFr L.ml w w5) <|HF4.out.trans hF);clear hM hF H4 HF4 hs hsl;go_wp2;go_ret;rw [HE.out];exact ⟨rfl,H5.out,HF5.out⟩
 ·have HE : Hid (P.mem.join one other = (((P.mem.make (P.mem.node other).key 0).1.addLink (P.mem.make (P.mem.node other).key 0).2 one).addLink (P.mem.make (P.mem.node other).key 0).2 other,(P.mem.make (P.mem.node other).key 0).2)):=by
   show _ = _; simp only [PMem.join,if_neg hlt]
  generalize hq : P.mem.make (P.mem.node other).key 0 = q at HE;have HQ:=(mkH (P.mem.make (P.mem.node other).key 0 = q) <|hq);clear hq;go_wp2_with fail;refine (Node_calls H1.out.mem other).mono ?_;rintro e w2 ⟨rfl,hF⟩;have H2:=(mkH (ZAt own z w2 L P) <|H1.out.calm hF);have HF2:=(mkH (Fr (fun _=>False) w w2) <|HF1.out.trans hF);clear hF H1 HF1 hs hsl;have hfd:=field_key (P.mem.node other);have hs:=H2.out.hd.cell;have hsl:=H2.out.hd.lt;simp only [PSt.head] at hs;go_wp2_with fail;refine (Make_calls H2.out.mem (P.mem.node other).key 0).mono ?_;rw [HQ.out];rintro e w3 ⟨rfl,hM,hF⟩;obtain ⟨hZ3,hZF3⟩:=H2.out.memSet hM hF;have H3:=(mkH (ZAt own z w3 L (P.setM q.1)) <|hZ3);have HF3:=(mkH (MFr L.ml w w3) <|(MFr.of0 HF2.out).trans hF);clear hM hF hZ3 hZF3 H2 HF2 hs hsl hfd;have hs:=H3.out.hd.cell;have hsl:=H3.out.hd.lt;simp only [PSt.head,PSt.setM] at hs;go_wp2_with fail;refine (AddLink_calls H3.out.mem q.2 one).mono ?_;rintro e w4 ⟨rfl,hM,hF⟩;obtain ⟨hZ4,hZF4⟩:=H3.out.memSet hM hF;have H4:=(mkH (ZAt own z w4 L ((P.setM q.1).setM (q.1.addLink q.2 one))) <|hZ4);have HF4:=(mkH (MFr L.ml w w4) <|HF3.out.trans hF);clear hM hF hZ4 hZF4 H3 HF3 hs hsl;have hs:=H4.out.hd.cell;have hsl:=H4.out.hd.lt;simp only [PSt.head,PSt.setM] at hs;go_wp2_with fail;refine (AddLink_calls H4.out.mem q.2 other).mono ?_;rintro e w5 ⟨rfl,hM,hF⟩;have H5:=(mkH (MAt w5 L.ml _) <|hM);have HF5:=(mkH (MFr L.ml w w5) <|HF4.out.trans hF);clear hM hF H4 HF4 hs hsl;go_wp2;go_ret;rw [HE.out];exact ⟨rfl,H5.out,HF5.out⟩
theorem prepareInsert_tree (h : ZAt own z w L P) (hk : P.kind = 1) {i : Nat} {l : WLay} {t : PThread} (hl : L.wks[i]? = some l) (ht : P.ts[i]? = some t) (hmade : t.work.made.length<=2) :
  Calls Tryz.prog 125 #[.pointer (some ⟨L.s,0,none⟩),.pointer (some ⟨l.b,0,none⟩)] w fun e w'=>e = .returned (.tuple #[]) /\
   ZGoes own z w L ((P.setM (P.prepareInsert t.work).1).setT i { t with work:=(P.prepareInsert t.work).2 }) w':=by
 generalize hMe : P.mem.make t.work.key t.work.value = q;have hE : Hid (P.prepareInsert t.work = (((q.1.join q.2 t.work.ahead).1.pend t.work.stand (q.1.sideFor t.work.stand t.work.key) (q.1.join q.2 t.work.ahead).2),{ t.work with made:=t.work.made ++ [q.2] ++ [(q.1.join q.2 t.work.ahead).2],tsrc:=t.work.stand,tside:=q.1.sideFor t.work.stand t.work.key })):=by
  show _ = _; simp only [PSt.prepareInsert,if_neg (show ¬ P.kind = 0 by omega),hMe]
 obtain ⟨iI,hiI,hzI,hsI,hbI⟩:=info_parts Tryz.infoIntZ;have H:=(mkH (ZAt own z w L P) <|h);have HL:=(mkH (L.wks[i]? = some l) <|hl);have Ht:=(mkH (P.ts[i]? = some t) <|ht);have HMe:=(mkH (P.mem.make t.work.key t.work.value = q) <|hMe);clear h hl ht hMe
 go_enter Tryz.func125,Tryz.ntmps125
 go_wp2_with fail;refine wp_region_one 14 L.ml (fun w'=>MAt w' L.ml q.1/\MFr L.ml w w') (fun _ h=>h.2) (by kernel_rfl) (by kernel_rfl) (by kernel_rfl) (by kernel_rfl) (by decide) ?_;intro U W hU hW;have hau : ∀ u o,(W u).cell? ⟨L.s,o,none⟩ = (P.head L)[o]?:=fun u=>(H.out.memCells (hW u)).1
 have hlu : ∀ u o,(W u).cell? ⟨l.b,o,none⟩ = (t.cells i l)[o]?:=fun u=>(H.out.memCells (hW u)).2 i l t HL.out Ht.out
 simp only [PSt.head] at hau;simp only [PThread.cells] at hlu;clear hW
 repeat (refine mix_read rfl rfl ?_; go_big_quiet_step (fail); refine wpQuiet_nil ?_)
 refine mix_effC (.int .i64 q.2) rfl rfl rfl ?_ ?_
 ·intro w' hw';have hw0:=hw'.1 rfl;go_simp;refine (Make_calls (H.out.calm hw0).mem t.work.key t.work.value).mono ?_;rw [HMe.out];rintro e w'' ⟨rfl,hM,hF⟩;exact ⟨rfl,hM,(MFr.of0 hw0).trans hF⟩
 go_simp
 repeat (refine mix_read rfl rfl ?_; go_big_quiet_step (fail); refine wpQuiet_nil ?_)
 refine mix_nil ?_;intro w2 hM2 hF2;clear hau hlu;obtain ⟨hZ2,hZF⟩:=H.out.memSet hM2 hF2;have H2:=(mkH (ZAt own z w2 L (P.setM q.1)) <|hZ2);have HZF:=(mkH (FrZ own z w w2) <|hZF);clear hM2 hF2 hZ2 hZF H HMe;have HT:=(mkH (At w2 l.b _ _) <|(H2.out.wk i l t HL.out Ht.out).at_);have ha:=HT.out.cell;have haz:=HT.out.frozen;have hrow:=(H2.out.wk i l t HL.out Ht.out).made.row;have HR:=(mkH (w2.ownsRow 0 _ _ _ _ _) <|hrow);simp only [PThread.cells] at ha;clear hrow;go_wp2_with (at_builtin; refine wpList_push _ rfl _ _ 39 rfl 0 3 iI (.int .i64 0) 1 8 Tryz.underlying39 hiI hzI hsI hbI rfl (by decide) _ _ _ rfl (ownsRow_alloc HR.out _) w2.heap.size [.int .i64 q.2] rfl rfl 3 (At.newAt (by simp) _ _) (by simp [Value.oneCell']) (by unfold maxLen; omega) (by omega) (by omega) ?_);intro g cap w3 hown hg hge;have hA3 : At w3 l.b (t.cells i l) 118:=(HT.out.alloc _).grown hg (HT.out.ne_row HR.out (by decide));have hF3 : Fr (fun k=>l.made.ownBlock = some k\/k = l.b) w2 (w3.setCell ⟨l.b,13,none⟩ (.slice (some ⟨g,0,none⟩) (t.work.made.length + 1) cap)) :=
  Fr.setIn (.inr rfl) (((Fr.refl _ _).alloc _).grown hg (fun k hk=>.inl (.inl hk))) _ _
 have hrow3 : (w3.setCell ⟨l.b,13,none⟩ (.slice (some ⟨g,0,none⟩) (t.work.made.length + 1) cap)).ownsRow 0 3 1 (.slice (some ⟨g,0,none⟩) (t.work.made ++ [q.2]).length cap) (t.work.made ++ [q.2]).length (intCells (t.work.made ++ [q.2])):=by
  have:=ownsRow_setOther hown (a:=⟨l.b,13,none⟩) (hA3.ne_row hown (by decide)) (.slice (some ⟨g,0,none⟩) (t.work.made.length + 1) cap)
  simpa [intCells] using this
 obtain ⟨own1,hE1,hZ1,hFZ1⟩:=H2.out.wkMade HL.out Ht.out (t':={ t with work:={ t.work with made:=t.work.made ++ [q.2] } }) hF3 (by rcases hge with h | h; exact .inl h; exact .inr (by omega)) hrow3 (by simp only [List.length_append,List.length_cons,List.length_nil,Nat.zero_add]; exact hA3.set 13 _) rfl rfl rfl rfl rfl;have ha3:=hA3.cell;have hz3:=hA3.frozen;simp only [PThread.cells] at ha3;have H4:=(mkH (ZAt own1 z _ _ _) <|hZ1);have HE1:=(mkH (Ext own own1 w) <|fun j hj=>hE1 j (Nat.lt_of_lt_of_le hj HZF.out.size));have HF4:=(mkH (FrZ own z w _) <|FrZ.trans HZF.out (Ext.refl _ _) hFZ1);clear hown hg hge hA3 hF3 hrow3 hE1 hZ1 hFZ1 ha haz HR HT H2 HZF;go_wp2_with fail;clear ha3 hz3;generalize w3.setCell ⟨l.b,13,none⟩ (.slice (some ⟨g,0,none⟩) (t.work.made.length + 1) cap) = w4 at *;obtain ⟨l1,hl1⟩ : ∃ x : WLay,x = { l with made:=.slice (some ⟨g,0,none⟩) (t.work.made ++ [q.2]).length cap }:=⟨_,rfl⟩;have hb1 : l.b = l1.b:=by rw [hl1]
 have H4':=H4.out;rw [<- hl1] at H4';have HL1:=(mkH (({ L with wks:=L.wks.set i l1 } : ZLay).wks[i]? = some l1) <|by
  obtain ⟨h1,_⟩:=List.getElem?_eq_some_iff.1 HL.out;show (L.wks.set i l1)[i]? = some l1;simp [h1])
 have HMP:=(mkH (({ L with wks:=L.wks.set i l1 } : ZLay).wks.map (·.b) = L.wks.map (·.b)) <|by
  show (L.wks.set i l1).map (·.b) = _;rw [List.map_set];exact setL_same (by simp [HL.out,hb1]))
 have e1 : ({ L with wks:=L.wks.set i l1 } : ZLay).s = L.s:=rfl;have e2 : ({ L with wks:=L.wks.set i l1 } : ZLay).ml = L.ml:=rfl;generalize ({ L with wks:=L.wks.set i l1 } : ZLay) = L1 at *;obtain ⟨t1,ht1⟩ : ∃ x : PThread,x = { t with work:={ t.work with made:=t.work.made ++ [q.2] } }:=⟨_,rfl⟩;rw [<- ht1] at H4';obtain ⟨P1,hP1⟩ : ∃ x : PSt,x = (P.setM q.1).setT i t1:=⟨_,rfl⟩;rw [<- hP1] at H4';have Ht1:=(mkH (P1.ts[i]? = some t1) <|by rw [hP1]; exact setT_get (P.setM q.1) Ht.out _);have hmem1 : P1.mem = q.1:=by rw [hP1]; rfl
 have hk1 : P1.kind = 1:=by rw [hP1]; exact hk
 have hEnd : Hid (∀ (M1 M2 : PMem) (j : Int),(((P1.setM M1).setT i { t1 with work:={ t1.work with made:=t1.work.made ++ [j] } }).setM M2).setT i { t1 with work:={ t1.work with made:=t1.work.made ++ [j],tsrc:=t.work.stand,tside:=q.1.sideFor t.work.stand t.work.key } } = (P.setM M2).setT i { t with work:={ t.work with made:=t.work.made ++ [q.2] ++ [j],tsrc:=t.work.stand,tside:=q.1.sideFor t.work.stand t.work.key } }):=by
  intro M1 M2 j; rw [hP1,ht1]; simp [PSt.setM,PSt.setT,List.set_set]
 have hm1 : t1.work.made.length<=3:=by rw [ht1]; simp; omega
 have x1 : t1.work.stand = t.work.stand:=by rw [ht1]
 have x2 : t1.work.key = t.work.key:=by rw [ht1]
 have x3 : t1.work.ahead = t.work.ahead:=by rw [ht1]
 rw [hb1,<- e1];have H5:=(mkH (ZAt own1 z w4 L1 P1) <|H4');have HMEM:=(mkH (P1.mem = q.1) <|hmem1);have X1:=(mkH (t1.work.stand = t.work.stand) <|x1);have X2:=(mkH (t1.work.key = t.work.key) <|x2);have X3:=(mkH (t1.work.ahead = t.work.ahead) <|x3);have E2:=(mkH (L1.ml = L.ml) <|e2);have E1:=(mkH (L1.s = L.s) <|e1);clear H4 H4' hP1 ht1 hl1 hmem1 x1 x2 x3 hb1 e1 e2 hk;rw [<- X1.out,<- X2.out,<- X3.out] at hE;rw [<- X1.out,<- X2.out] at hEnd;rw [<- HMEM.out] at hE hEnd;refine wp_region_box 14 15 16 4 [.int .i64 0,.int .i64 0] [.int .i64 t1.work.stand,.int .i64 (b2i (P1.mem.sideFor t1.work.stand t1.work.key))] 113 (by kernel_rfl) (by kernel_rfl) (by kernel_rfl) (by decide) (by decide) (by decide) (by decide) (by kernel_rfl) (by kernel_rfl) ?_;intro addr hge U W hU hW;have hau : ∀ u o,(W u).cell? ⟨L1.s,o,none⟩ = (P1.head L1)[o]?:=fun u=>((H5.out).calm (hW u)).hd.cell
 have hlu : ∀ u o,(W u).cell? ⟨l1.b,o,none⟩ = (t1.cells i l1)[o]?:=fun u=>(((H5.out).calm (hW u)).wk i l1 t1 HL1.out Ht1.out).at_.cell
 simp only [PSt.head] at hau;simp only [PThread.cells] at hlu;clear hW
 repeat (refine box_read (by decide) (by decide) (by decide) rfl ?_; go_big_quiet_step (fail); refine wpQuiet_nil ?_)
 refine box_call (lnk t1.work.stand (P1.mem.sideFor t1.work.stand t1.work.key)) rfl rfl ?_ ?_
 ·intro w' hw0;go_simp;refine (LinkFor_size (H5.out.calm hw0).mem _ _).mono ?_;rintro e w'' ⟨rfl,hF,hz'⟩;exact ⟨rfl,hF,hz'⟩
 unfold lnk;go_simp;refine box_alloc (by decide) rfl rfl ?_ ?_
 ·intro w';go_simp;exact ⟨rfl,rfl⟩
 go_simp;refine box_store (by decide) (by decide) rfl rfl ?_ ?_
 ·intro w' hA;have hc:=hA.cell;have hf:=hA.frozen;have HA:=(mkH (At w' addr _ _) <|hA);clear hA hau hlu;go_simp;refine ⟨rfl,((Fr.refl _ _).set1 _ _).set1 _ _,(HA.out.set 0 (.int .i64 t1.work.stand)).set 1 (.int .i64 (b2i (P1.mem.sideFor t1.work.stand t1.work.key)))⟩
 go_simp;refine box_nil ?_;intro w5 hF5 hA5;have H6:=(mkH (ZAt own1 z w5 L1 P1) <|H5.out.calm hF5);have HF5:=(mkH (Fr (fun _=>False) w4 w5) <|hF5);have HA5:=(mkH (At w5 addr _ _) <|hA5);clear hF5 hA5 hau hlu H5;obtain ⟨ha,haz,hal,hs,hsz,hsl,n1,n2⟩:=H6.out.view HL1.out Ht1.out;simp only [PThread.cells,PSt.head,hk1] at ha hs;clear haz hsz;go_wp2_with fail;generalize hJ : P1.mem.join q.2 t1.work.ahead = J at hE;have HJ:=(mkH (P1.mem.join q.2 t1.work.ahead = J) <|hJ);clear hJ;refine (join_calls H6.out q.2 t1.work.ahead).mono ?_;rw [HJ.out];rintro e w6 ⟨rfl,hM6,hF6⟩;have hA6 : At w6 addr [.int .i64 t1.work.stand,.int .i64 (b2i (P1.mem.sideFor t1.work.stand t1.work.key))] 113:=by
  refine Fr.at hF6 HA5.out ?_;have h1:=HA5.out.ne_row H6.out.mem.nodes (by decide);have h2:=HA5.out.ne_row H6.out.mem.ents (by decide);simp [Value.ownBlock] at h1 h2;rintro (e | e)
  ·exact h1 e.symm
  ·exact h2 e.symm
 obtain ⟨hZ6,hZF6⟩:=H6.out.memSet hM6 hF6;have H7:=(mkH (ZAt own1 z w6 L1 (P1.setM J.1)) <|hZ6);have HF7:=(mkH (FrZ own z w w6) <|FrZ.trans HF4.out HE1.out (FrZ.trans (Fr.mono HF5.out (fun _ _ h=>h.elim)) (Ext.refl _ _) hZF6));have HA6:=(mkH (At w6 addr _ _) <|hA6);clear hM6 hF6 hZ6 hZF6 hA6 HA5 HF5 HF4 H6 ha hs hal hsl n1 n2;have HT:=(mkH (At w6 l1.b _ _) <|(H7.out.wk i l1 t1 HL1.out Ht1.out).at_);have ha:=HT.out.cell;have haz:=HT.out.frozen;have hrow:=(H7.out.wk i l1 t1 HL1.out Ht1.out).made.row;have HR:=(mkH (w6.ownsRow 0 _ _ _ _ _) <|hrow);simp only [PThread.cells] at ha;clear hrow;go_wp2_with (at_builtin; refine wpList_push _ rfl _ _ 39 rfl 0 3 iI (.int .i64 0) 1 8 Tryz.underlying39 hiI hzI hsI hbI rfl (by decide) _ _ _ rfl (ownsRow_alloc HR.out _) w6.heap.size [.int .i64 J.2] rfl rfl 3 (At.newAt (by simp) _ _) (by simp [Value.oneCell']) (by unfold maxLen; omega) (by omega) (by omega) ?_);intro g2 cap2 w7 hown hg hge2;have hA7 : At w7 l1.b (t1.cells i l1) 118:=(HT.out.alloc _).grown hg (HT.out.ne_row HR.out (by decide));have hB7 : At w7 addr _ 113:=(HA6.out.alloc _).grown hg (HA6.out.ne_row HR.out (by decide));have hF8 : Fr (fun k=>l1.made.ownBlock = some k\/k = l1.b) w6 (w7.setCell ⟨l1.b,13,none⟩ (.slice (some ⟨g2,0,none⟩) (t1.work.made.length + 1) cap2)) :=
  Fr.setIn (.inr rfl) (((Fr.refl _ _).alloc _).grown hg (fun k hk=>.inl (.inl hk))) _ _
 have hrow3 : (w7.setCell ⟨l1.b,13,none⟩ (.slice (some ⟨g2,0,none⟩) (t1.work.made.length + 1) cap2)).ownsRow 0 3 1 (.slice (some ⟨g2,0,none⟩) (t1.work.made ++ [J.2]).length cap2) (t1.work.made ++ [J.2]).length (intCells (t1.work.made ++ [J.2])):=by
  have:=ownsRow_setOther hown (a:=⟨l1.b,13,none⟩) (hA7.ne_row hown (by decide)) (.slice (some ⟨g2,0,none⟩) (t1.work.made.length + 1) cap2)
  simpa [intCells] using this
 have hne : addr≠l1.b:=At.ne HA6.out HT.out (by decide);have hB8 : At (w7.setCell ⟨l1.b,13,none⟩ (.slice (some ⟨g2,0,none⟩) (t1.work.made.length + 1) cap2)) addr _ 113:=At.setOther hB7 _ hne _;obtain ⟨own2,hE2,hZ8,hFZ8⟩:=H7.out.wkMade HL1.out Ht1.out (t':={ t1 with work:={ t1.work with made:=t1.work.made ++ [J.2] } }) hF8 (by rcases hge2 with h | h; exact .inl h; exact .inr (by omega)) hrow3 (by simp only [List.length_append,List.length_cons,List.length_nil,Nat.zero_add]; exact hA7.set 13 _) rfl rfl rfl rfl rfl;have ha3:=hA7.cell;have hc7:=hB7.cell;have hne':=hne.symm;have hz3:=hA7.frozen;simp only [PThread.cells] at ha3;have H8:=(mkH (ZAt own2 z _ _ _) <|hZ8);have HE2:=(mkH (Ext own own2 w) <|fun j hj=>by rw [hE2 j (Nat.lt_of_lt_of_le hj HF7.out.size)]; exact HE1.out j hj);have HF8:=(mkH (FrZ own z w _) <|FrZ.trans HF7.out HE1.out hFZ8);have HB8:=(mkH (At _ addr _ _) <|hB8);clear hown hg hge2 hA7 hB7 hB8 hF8 hrow3 hE2 hZ8 hFZ8 ha haz HR HT H7 HF7 HA6;go_wp2_with fail;clear ha3 hz3 hc7 hne hne';generalize w7.setCell ⟨l1.b,13,none⟩ (.slice (some ⟨g2,0,none⟩) (t1.work.made.length + 1) cap2) = w8 at *;obtain ⟨l2,hl2⟩ : ∃ x : WLay,x = { l1 with made:=.slice (some ⟨g2,0,none⟩) (t1.work.made ++ [J.2]).length cap2 }:=⟨_,rfl⟩;have hb2 : l1.b = l2.b:=by rw [hl2]
 have H8':=H8.out;rw [<- hl2] at H8';have HL2:=(mkH (({ L1 with wks:=L1.wks.set i l2 } : ZLay).wks[i]? = some l2) <|by
  obtain ⟨h1,_⟩:=List.getElem?_eq_some_iff.1 HL1.out;show (L1.wks.set i l2)[i]? = some l2;simp [h1])
 have HMP2:=(mkH (({ L1 with wks:=L1.wks.set i l2 } : ZLay).wks.map (·.b) = L.wks.map (·.b)) <|by
  show (L1.wks.set i l2).map (·.b) = _;rw [List.map_set,<- HMP.out];exact setL_same (by simp [HL1.out,hb2]))
 have e1 : ({ L1 with wks:=L1.wks.set i l2 } : ZLay).s = L1.s:=rfl;have e2 : ({ L1 with wks:=L1.wks.set i l2 } : ZLay).ml = L1.ml:=rfl;generalize ({ L1 with wks:=L1.wks.set i l2 } : ZLay) = L2 at *;obtain ⟨t2,ht2⟩ : ∃ x : PThread,x = { t1 with work:={ t1.work with made:=t1.work.made ++ [J.2] } }:=⟨_,rfl⟩;rw [<- ht2] at H8';obtain ⟨P2,hP2⟩ : ∃ x : PSt,x = (P1.setM J.1).setT i t2:=⟨_,rfl⟩;rw [<- hP2] at H8';have Ht2:=(mkH (P2.ts[i]? = some t2) <|by rw [hP2]; exact setT_get (P1.setM J.1) Ht1.out _);rw [hb2,<- e1];have H9:=(mkH (ZAt own2 z w8 L2 P2) <|H8');have HEn:=(mkH ((P2.setM (P2.mem.pend t1.work.stand (P1.mem.sideFor t1.work.stand t1.work.key) J.2)).setT i { t2 with work:={ t2.work with tsrc:=t1.work.stand,tside:=P1.mem.sideFor t1.work.stand t1.work.key } } = (P.setM (J.1.pend t1.work.stand (P1.mem.sideFor t1.work.stand t1.work.key) J.2)).setT i { t with work:={ t.work with made:=t.work.made ++ [q.2] ++ [J.2],tsrc:=t1.work.stand,tside:=P1.mem.sideFor t1.work.stand t1.work.key } }) <|by
  have h:=hEnd.out J.1 (J.1.pend t1.work.stand (P1.mem.sideFor t1.work.stand t1.work.key) J.2) J.2;subst hP2 ht2;exact h)
 have E3:=(mkH (L2.ml = L.ml) <|e2.trans E2.out);have E4:=(mkH (L2.s = L.s) <|e1.trans E1.out);have hc8:=HB8.out.cell;clear H8 H8' hP2 ht2 hl2 hb2 e1 e2;refine (pend_calls H9.out HL2.out Ht2.out t1.work.stand (P1.mem.sideFor t1.work.stand t1.work.key) J.2).mono ?_;rintro e w9 ⟨rfl,hZ,hF⟩;have H10:=(mkH (ZAt own2 z w9 L2 _) <|hZ);have HF10:=(mkH (FrZ own z w w9) <|FrZ.trans HF8.out HE2.out hF);clear hZ hF hc8;go_wp2;refine bodyPost_end (results_none rfl _ _ _) rfl ?_;rw [hE.out];refine ⟨rfl,own2,L2,?_,HE2.out,HF10.out,E4.out,E3.out,HMP2.out⟩;have H8':=H10.out;have hh:=HEn.out;rw [X1.out,X2.out] at hh H8' ⊢;rw [X3.out];exact Eq.mp (congrArg (ZAt own2 z w9 L2) hh) H8'
theorem prepareInsert_calls (h : ZAt own z w L P) (hk : P.kind = 0\/P.kind = 1) {i : Nat} {l : WLay} {t : PThread} (hl : L.wks[i]? = some l) (ht : P.ts[i]? = some t) (hmade : t.work.made.length<=2) :
  Calls Tryz.prog 125 #[.pointer (some ⟨L.s,0,none⟩),.pointer (some ⟨l.b,0,none⟩)] w fun e w'=>e = .returned (.tuple #[]) /\
   ZGoes own z w L ((P.setM (P.prepareInsert t.work).1).setT i { t with work:=(P.prepareInsert t.work).2 }) w':=by
 rcases hk with e | e
 ·exact prepareInsert_list h e hl ht hmade
 ·exact prepareInsert_tree h e hl ht hmade
end
end
end Go.Proofs.YtfccelbmacjifabGreat
