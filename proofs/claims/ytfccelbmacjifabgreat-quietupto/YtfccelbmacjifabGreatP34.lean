import Derived.Test.YtfccelbmacjifabGreatP0
import Derived.Test.YtfccelbmacjifabGreatP31
import Derived.Test.YtfccelbmacjifabGreatP33
import Derived.Test.YtfccelbmacjifabGreatP29
set_option linter.unusedSimpArgs false
set_option maxRecDepth 100000
set_option maxHeartbeats 4000000
namespace Go.Proofs.YtfccelbmacjifabGreat
section
open Go.RowKit
section
variable {W w w' : World} {K : List (Nat × List Value × TypeId)} {pb qb b i : Nat} {own op oq : Own} {z : Nat} {p q p' q' D : PlD} {v : Value} {Q : PlD->PlD->Prop} {T L : Int} {t u : PThread} {o : OpV}
theorem filt_take {l : List DeedV} {i : Nat} {d : DeedV} (h : l[i]? = some d) : (l.take (i + 1)).filter isUD = (l.take i).filter isUD ++ (if isUD d then [d] else []):=by
 rw [List.take_add_one,h,List.filter_append]
 congr 1
 cases e : isUD d <;> simp [e]
theorem filt_at {l : List DeedV} {i : Nat} {d : DeedV} (h : l[i]? = some d) (hd : isUD d = true) : (l.filter isUD)[((l.take i).filter isUD).length]? = some d:=by
 have hi:=(List.getElem?_eq_some_iff.1 h).1;have e : l = l.take i ++ d :: l.drop (i + 1):=by
  rw [<- (List.getElem?_eq_some_iff.1 h).2,List.getElem_cons_drop,List.take_append_drop]
 have e2 : l.filter isUD = (l.take i).filter isUD ++ d :: (l.drop (i + 1)).filter isUD:=by
  conv=>lhs; rw [e]
  rw [List.filter_append,List.filter_cons,if_pos hd]
 rw [e2,List.getElem?_append_right (Nat.le_refl _),Nat.sub_self]
 rfl
theorem QJ.pair (h : QJ T L p q) {d : DeedV} (hd : p.deeds[i]? = some d) (hu : isUD d = true) : ∃ e,q.deeds[((p.deeds.take i).filter isUD).length]? = some e/\e.a = d.a:=by
 have h1:=filt_at hd hu;have h2 : (q.deeds.map (·.a))[((p.deeds.take i).filter isUD).length]? = some d.a:=by rw [h.dd,List.getElem?_map,h1]; rfl
 rw [List.getElem?_map] at h2;cases e : q.deeds[((p.deeds.take i).filter isUD).length]? with
 | none=>rw [e] at h2; cases h2
 | some x=>rw [e] at h2; exact ⟨x,rfl,by simpa using h2⟩
theorem QJ.count (h : QJ T L p q) : (p.deeds.filter isUD).length = q.deeds.length:=by
 have:=congrArg List.length h.dd
 simpa using this.symm
theorem QJ.stillQ (h : QJ T L p q) (hst : Still 0 p) : Still 0 q:=by
 intro j u hj hu;have hl:=(List.getElem?_eq_some_iff.1 hu).1;rw [h.ln] at hl;have hp : p.P.ts[j]? = some p.P.ts[j]:=List.getElem?_eq_getElem hl;exact h.idle hp hu (fun e=>by have:=e.1; rw [hst j _ hj hp] at this; cases this)
theorem PlAt.ansCells (h : PlAt own z w pb D) {d : DeedV} (hd : D.deeds[i]? = some d) : ∃ g c xa xc la lc,D.dv = .slice (some ⟨g,0,none⟩) D.deeds.length c/\d.op.sv = .slice xa d.op.spans.length xc/\d.av = .slice la d.a.spans.length lc/\∀ q v,[Value.int .i64 d.op.kind,.int .i64 d.op.key,.int .i64 d.op.value,.slice xa d.op.spans.length xc,.int .i64 d.a.err,.bool d.a.did,.int .i64 d.a.value,.int .i64 d.a.stamp,.slice la d.a.spans.length lc,.int .i64 d.frm][q]? = some v->w.cell? ⟨g,i * 10 + q,none⟩ = some v:=by
 have hne : D.deeds≠[]:=fun e=>by rw [e] at hd; simp at hd
 obtain ⟨g,c,hv,hc⟩:=h.deedCells hne;have hdk:=h.dok d (List.mem_of_getElem? hd);obtain ⟨xa,xc,h1⟩:=ownsShape hdk.1.row;obtain ⟨ins,_,h2,_⟩:=hdk.2.1.top;obtain ⟨la,lc,h3⟩:=ownsShape h2.row;refine ⟨g,c,xa,xc,la,lc,hv,h1,h3,fun q v hq=>(hc i d hd).2 q v ?_⟩;unfold DeedV.cells;rw [h1,h3];exact hq
theorem settled_calls (h : TwoAt W w pb qb K op oq p q) (hj : QJ T L p q) (hst : Still 0 p) (hs : Sz b p) (hs2 : Sz b q) (hb : b<=2 ^ 35) (hL : L<=1099511627776) :
  Calls Tryz.prog 19 #[pv pb,pv qb] w fun r w'=>r = .returned (.bool true)/\Fr (fun _=>False) W w':=by
 have hst2:=hj.stillQ hst;have HT:=(mkH (TwoAt W w pb qb K op oq p q) <|h);have HJ:=(mkH (QJ T L p q) <|hj);have HSt:=(mkH (Still 0 p/\Still 0 q) <|⟨hst,hst2⟩);have HS:=(mkH (Sz b p/\Sz b q) <|⟨hs,hs2⟩);have hct:=hj.jp.cfg.2.1;have hT18 : 1<=T/\T<=8:=by have:=h.p.thr; have:=h.p.fit.thr; omega
 have HLn:=(mkH ((p.P.ts.length : Int) = T/\(q.P.ts.length : Int) = T) <|⟨by have:=h.p.thr; show _ = _; omega,by have:=h.p.thr; have:=hj.ln; show _ = _; omega⟩);obtain ⟨ba,bc,hbv⟩:=ownsShape h.p.busy.row;obtain ⟨ba2,bc2,hbv2⟩:=ownsShape h.q.busy.row;obtain ⟨da,dc,hdv⟩:=ownsShape h.p.deeds.row;obtain ⟨da2,dc2,hdv2⟩:=ownsShape h.q.deeds.row;have hpc:=h.p.at_;have hqc:=h.q.at_;simp only [PlD.cells,hct,hbv,hdv,pv] at hpc;simp only [PlD.cells,hbv2,hdv2,pv] at hqc;obtain ⟨nT,hnT⟩ : ∃ nT,nT = p.P.ts.length:=⟨_,rfl⟩;obtain ⟨nT2,hnT2⟩ : ∃ nT2,nT2 = q.P.ts.length:=⟨_,rfl⟩;obtain ⟨nd,hnd⟩ : ∃ nd,nd = p.deeds.length:=⟨_,rfl⟩;obtain ⟨nd2,hnd2⟩ : ∃ nd2,nd2 = q.deeds.length:=⟨_,rfl⟩;rw [<- hnT,<- hnd] at hpc;rw [<- hnT2,<- hnd2] at hqc;have HPc:=(mkH (At w pb _ 42) <|hpc);have HQc:=(mkH (At w qb _ 42) <|hqc);have hn8 : nT<=nT2/\(nT : Int)<=T/\T<=nT:=by have:=HLn.out; omega
 have HN:=(mkH (nT = p.P.ts.length/\nT2 = q.P.ts.length/\nd = p.deeds.length/\nd2 = q.deeds.length) <|⟨hnT,hnT2,hnd,hnd2⟩);have HBv:=(mkH (p.bv = .slice ba p.P.ts.length bc/\q.bv = .slice ba2 q.P.ts.length bc2/\p.dv = .slice da p.deeds.length dc/\q.dv = .slice da2 q.deeds.length dc2) <|⟨hbv,hbv2,hdv,hdv2⟩);have hndb : nd<=2 ^ 36/\nd2<=2 ^ 36:=by unfold Sz at hs hs2; omega
 clear h hj hst hst2 hs hs2 hbv hbv2 hdv hdv2 hpc hqc hnT hnT2 hnd hnd2 hct;unfold pv
 go_enter Tryz.func19,Tryz.ntmps19
 go_wp2
 go_loopw [5] (fun v wr=>∃ k : Nat,k<=nT/\v = .int .i64 k/\wr = w) (fun v _=>nT - (intOf v).toNat)
 case atStart=>exact ⟨0,Nat.zero_le _,rfl,rfl⟩
 case round =>
  obtain ⟨k,hkn,rfl,rfl⟩:=hrel;have ha:=HPc.out.cell;by_cases hlt : k < nT
  ·have hp1 : p.P.ts[k]? = some (p.P.ts[k]'(by have:=HN.out.1; omega)):=List.getElem?_eq_getElem _;generalize p.P.ts[k]'(by have:=HN.out.1; omega) = t1 at hp1;have hq1 : q.P.ts[k]? = some (q.P.ts[k]'(by have:=HN.out.2.1; omega)):=List.getElem?_eq_getElem _;generalize q.P.ts[k]'(by have:=HN.out.2.1; omega) = u1 at hq1;obtain ⟨g1,c1,hv1,hb1,_⟩:=HT.out.p.busyRow (HJ.out.jp.bsy hp1);obtain ⟨g2,c2,hv2,hb2,_⟩:=HT.out.q.busyRow (HJ.out.jq.bsy hq1);rw [HBv.out.1] at hv1;rw [HBv.out.2.1] at hv2;obtain ⟨rfl,rfl⟩ : ba = some ⟨g1,0,none⟩/\bc = c1:=by simpa using hv1
   obtain ⟨rfl,rfl⟩ : ba2 = some ⟨g2,0,none⟩/\bc2 = c2:=by simpa using hv2
   rw [HSt.out.1 k t1 (Nat.zero_le _) hp1] at hb1;rw [HSt.out.2 k u1 (Nat.zero_le _) hq1] at hb2;have hqa:=HQc.out.cell;clear hv1 hv2 hp1 hq1;go_wp2
   go_roundw
   case rel=>exact ⟨k + 1,by omega,by go_num,trivial⟩
   case measure=>simp [intOf]; omega
  ·obtain ⟨w0,hw0⟩ : ∃ w0,w0 = wr:=⟨_,rfl⟩;subst hw0;go_wp2;clear ha
   go_loopw [6,7] (fun vk vi wr=>∃ j kk : Nat,j<=nd/\vk = .int .i64 kk/\vi = .int .i64 j/\Hid (kk = ((p.deeds.take j).filter isUD).length)/\Hid (Fr (fun _=>False) w0 wr)) (fun _ vi _=>nd - (intOf vi).toNat)
   case atStart=>exact ⟨0,0,Nat.zero_le _,rfl,rfl,rfl,Fr.refl _ _⟩
   case round =>
    obtain ⟨j,kk,hjn,rfl,rfl,HKk,HFr⟩:=hrel;have ha:=(HFr.out.at HPc.out (fun h=>h)).cell;have hqa:=(HFr.out.at HQc.out (fun h=>h)).cell;have hkb : kk<=nd2:=by
     rw [HKk.out,HN.out.2.2.2,<- HJ.out.count];have : ((p.deeds.take j).filter isUD).length<=(p.deeds.filter isUD).length:=(List.Sublist.filter isUD (List.take_sublist j p.deeds)).length_le;exact this
    by_cases hlt2 : j < nd
    ·obtain ⟨d,hd⟩ : ∃ d,p.deeds[j]? = some d:=⟨_,List.getElem?_eq_getElem (by have:=HN.out.2.2.1; omega)⟩;obtain ⟨g1,c1,xa,xc,la,lc,hv1,hsv,hav,hcl⟩:=HT.out.p.ansCells hd;rw [HBv.out.2.2.1] at hv1;obtain ⟨rfl,rfl⟩ : da = some ⟨g1,0,none⟩/\dc = c1:=by simpa using hv1
     have kc:=fun q v hq=>HFr.out.keepCell (hcl q v hq)
     have c0:=kc 0 _ rfl;have c1:=kc 1 _ rfl;have c2:=kc 2 _ rfl;have c3:=kc 3 _ rfl;simp only [Nat.add_zero] at c0;have HKc:=(mkH (∀ q v,_->wr.cell? ⟨g1,j * 10 + q,none⟩ = some v) <|kc);have HU:=(mkH (∀ w,Calls Tryz.prog 33 #[opVal d.op.kind d.op.key d.op.value (.slice xa d.op.spans.length xc)] w _) <|fun w=>isUpdate_calls d.op.kind d.op.key d.op.value (.slice xa d.op.spans.length xc) w);unfold opVal at HU;have HTk:=(show Hid _ from filt_take hd);have HD:=(mkH (p.deeds[j]? = some d/\d.av = .slice la d.a.spans.length lc) <|⟨hd,hav⟩);have hUD : (d.op.kind == 1 || d.op.kind == 2) = isUD d:=by
      unfold isUD;by_cases h1 : d.op.kind = 1
      ·simp [h1]
      ·by_cases h2 : d.op.kind = 2
       ·simp [h2]
       ·simp [h1,h2]
     rw [hUD] at HU;clear hcl kc hv1 hsv hav hd hUD;go_wp2_with fail;refine Calls.mono (HU.out _) ?_;rintro r w2 ⟨rfl,hF2⟩;have HF2:=(mkH (Fr (fun _=>False) w0 w2) <|HFr.out.trans hF2);have HK2:=(mkH (∀ q v,_->w2.cell? ⟨g1,j * 10 + q,none⟩ = some v) <|fun q v hq=>hF2.keepCell (HKc.out q v hq));have hqa:=(HF2.out.at HQc.out (fun h=>h)).cell;have ha:=(HF2.out.at HPc.out (fun h=>h)).cell;clear hF2 HU HKc HFr c0 c1 c2 c3;cases hu : isUD d
     ·rw [hu] at HTk;have HK3:=(mkH (kk = ((p.deeds.take (j + 1)).filter isUD).length) <|by show _ = _; rw [HTk.out]; simpa using HKk.out);go_wp2
      go_roundw
      case rel=>exact ⟨j + 1,kk,by omega,rfl,by go_num,HK3,HF2⟩
      case measure=>simp [intOf]; omega
     ·rw [hu] at HTk;have HK3:=(mkH (kk + 1 = ((p.deeds.take (j + 1)).filter isUD).length) <|by show _ = _; rw [HTk.out,HKk.out]; simp);obtain ⟨e,he,hea⟩:=HJ.out.pair HD.out.1 hu;rw [<- HKk.out] at he;have hkl : kk < nd2:=by rw [HN.out.2.2.2]; exact (List.getElem?_eq_some_iff.1 he).1
      obtain ⟨g2,c2,ya,yc,la2,lc2,hv2,_,hav2,hcl2⟩:=HT.out.q.ansCells he;rw [HBv.out.2.2.2] at hv2;obtain ⟨rfl,rfl⟩ : da2 = some ⟨g2,0,none⟩/\dc2 = c2:=by simpa using hv2
      have herr:=HJ.out.clean (List.mem_of_getElem? HD.out.1) hu;rw [hea] at hcl2 hav2;have hK4:=fun q v hq=>HF2.out.keepCell (hcl2 q v hq)
      rw [herr] at hK4 HK2;have hdp:=HT.out.p.dok d (List.mem_of_getElem? HD.out.1);have hdq:=HT.out.q.dok e (List.mem_of_getElem? he);have HSame:=(mkH (∀ w',Fr (fun _=>False) w0 w'->Calls Tryz.prog 38 #[.agg #[.int .i64 0,.bool d.a.did,.int .i64 d.a.value,.int .i64 d.a.stamp,.slice la d.a.spans.length lc],.agg #[.int .i64 0,.bool d.a.did,.int .i64 d.a.value,.int .i64 d.a.stamp,.slice la2 d.a.spans.length lc2]] w' _) <|fun w' hf=>by
       have l1:=hdp.2.1;have l2:=hdq.2.1;have n1:=l1.nil;have n2:=l2.nil;rw [HD.out.2] at l1 n1;rw [hav2,hea] at l2 n2;have h:=sameAnswers_eq d.a w' la la2 _ _ lc lc2 hdp.2.2 n1 n2 ((l1.fr hf (Ext.refl _ _) (fun _ _ h=>h)).read) ((l2.fr hf (Ext.refl _ _) (fun _ _ h=>h)).read);unfold ansV at h;rw [herr] at h;exact h)
      have HK4:=(mkH (∀ q v,_->w2.cell? ⟨g2,kk * 10 + q,none⟩ = some v) <|hK4);have HPa:=(mkH (At w2 pb _ 42) <|HF2.out.at HPc.out (fun h=>h));have HQa:=(mkH (At w2 qb _ 42) <|HF2.out.at HQc.out (fun h=>h));clear hcl2 hK4 hav2 hea he hdp hdq herr hv2;go_wp2_with fail;refine wp_region_calm [16] 0 rfl (by kernel_rfl) (by kernel_rfl) (by kernel_rfl) (by decide) (by kernel_rfl) (by decide) ?_;intro U V hU hV;have hpu : ∀ u o,(V u).cell? ⟨pb,o,none⟩ = _:=fun u=>((hV u).at HPa.out (fun h=>h)).cell
      have hqu : ∀ u o,(V u).cell? ⟨qb,o,none⟩ = _:=fun u=>((hV u).at HQa.out (fun h=>h)).cell
      have q4 : ∀ u,(V u).cell? ⟨g1,j * 10 + 4,none⟩ = _:=fun u=>(hV u).keepCell (HK2.out 4 _ rfl)
      have q5 : ∀ u,(V u).cell? ⟨g1,j * 10 + 5,none⟩ = _:=fun u=>(hV u).keepCell (HK2.out 5 _ rfl)
      have q6 : ∀ u,(V u).cell? ⟨g1,j * 10 + 6,none⟩ = _:=fun u=>(hV u).keepCell (HK2.out 6 _ rfl)
      have q7 : ∀ u,(V u).cell? ⟨g1,j * 10 + 7,none⟩ = _:=fun u=>(hV u).keepCell (HK2.out 7 _ rfl)
      have q8 : ∀ u,(V u).cell? ⟨g1,j * 10 + 8,none⟩ = _:=fun u=>(hV u).keepCell (HK2.out 8 _ rfl)
      have r4 : ∀ u,(V u).cell? ⟨g2,kk * 10 + 4,none⟩ = _:=fun u=>(hV u).keepCell (HK4.out 4 _ rfl)
      have r5 : ∀ u,(V u).cell? ⟨g2,kk * 10 + 5,none⟩ = _:=fun u=>(hV u).keepCell (HK4.out 5 _ rfl)
      have r6 : ∀ u,(V u).cell? ⟨g2,kk * 10 + 6,none⟩ = _:=fun u=>(hV u).keepCell (HK4.out 6 _ rfl)
      have r7 : ∀ u,(V u).cell? ⟨g2,kk * 10 + 7,none⟩ = _:=fun u=>(hV u).keepCell (HK4.out 7 _ rfl)
      have r8 : ∀ u,(V u).cell? ⟨g2,kk * 10 + 8,none⟩ = _:=fun u=>(hV u).keepCell (HK4.out 8 _ rfl)
      clear hV ha hqa
      repeat (refine mix_read rfl rfl ?_; go_big_quiet_step (fail); refine wpQuiet_nil ?_)
      refine mix_effC (.bool true) rfl rfl rfl ?_ ?_
      ·intro w' hw';go_simp;refine (HSame.out w' (HF2.out.trans hw')).mono ?_;rintro e' w'' ⟨rfl,hF⟩;exact ⟨rfl,hw'.trans hF⟩
      go_simp
      repeat (refine mix_read rfl rfl ?_; go_big_quiet_step (fail); refine wpQuiet_nil ?_)
      refine mix_nil ?_;intro w4 hF4;have HF4:=(mkH (Fr (fun _=>False) w0 w4) <|HF2.out.trans hF4);have ha:=(HF4.out.at HPc.out (fun h=>h)).cell;have c4:=hF4.keepCell (HK2.out 4 _ rfl);clear hF4 hpu hqu q4 q5 q6 q7 q8 r4 r5 r6 r7 r8 HSame;go_wp2
      go_roundw
      case rel=>exact ⟨j + 1,kk + 1,by omega,by go_num,by go_num,HK3,HF4⟩
      case measure=>simp [intOf]; omega
    ·have hje : j = nd:=by omega
     have hkn2 : kk = nd2:=by
      rw [HKk.out,HN.out.2.2.2,<- HJ.out.count,hje,HN.out.2.2.1,List.take_length]
     have hke2 : ((kk : Int) != (nd2 : Int)) = false:=by rw [hkn2]; simp
     clear hje hkn2;go_wp2_with fail;refine Calls.mono (whole_calls wr) ?_;rintro r w6 ⟨va,vc,rfl,hO⟩;have hT6:=(HT.out.more HFr.out (.slice none 0 0)).more hO.fr (.slice va 1 vc);have hop6:=fun own' : Own=>OwnSpans.opok (op:=own') hO (Nat.le_refl _) ⟨4,0,0,[(0,1099511627776)],.slice va 1 vc⟩ rfl rfl
     have HT6:=(mkH (TwoAt W w6 pb qb K (ext5 _ wr (.slice va 1 vc)) (ext5 _ wr (.slice va 1 vc)) p q) <|hT6);have HO6:=(mkH (∀ own' : Own,OpOk (ext5 own' wr (.slice va 1 vc)) (1 + 1) w6 ⟨4,0,0,[(0,1099511627776)],.slice va 1 vc⟩) <|hop6);clear hO hT6 hop6 ha hqa HFr hke2;simp only [opVal];obtain ⟨ob,hob⟩ : ∃ ob,ob = w6.heap.size:=⟨_,rfl⟩;go_wp2_with fail;generalize hw7 : World.alloc _ _ = w7;have hf7 : Fr (fun _=>False) w6 w7:=by rw [<- hw7]; exact (Fr.refl _ _).alloc _
     have hA7 : At w7 ob [.int .i64 4,.int .i64 0,.int .i64 0,.slice va 1 vc] 53:=by rw [<- hw7,hob]; exact At.new w6 _ _
     have hT7:=HT6.out.box hf7 hA7 (by omega);have hO7:=fun own' : Own=>(HO6.out own').fr hf7 (ext5_ext (ext5 own' wr (.slice va 1 vc)) w6 (.slice none 0 0)) (fun _ _ h=>h)
     have HC7:=(mkH (Calls _ _ _ _ _) <|ord_begin hT7.p HJ.out.jp HSt.out.1 HS.out.1 hT18.1 (by omega) va vc (hO7 _));have HT7:=(mkH (TwoAt W w7 pb qb ((ob,[.int .i64 4,.int .i64 0,.int .i64 0,.slice va 1 vc],53) :: K) _ _ p q) <|hT7);have HO7:=(mkH (OpOk _ (1 + 1) w7 ⟨4,0,0,[(0,1099511627776)],.slice va 1 vc⟩) <|hO7 (ext5 oq w0 (.slice none 0 0)));simp only [<- hob];clear hw7 hf7 hA7 hT7 hO7 hob HT6 HO6;unfold pv opVal at HC7;simp only [Int.ofNat_zero,Int.natCast_zero] at HC7;refine Calls.mono HC7.out ?_;rintro r w8 ⟨rfl,hg⟩;obtain ⟨op8,p8,hT8,hB8,_,hF8⟩:=HT7.out.left hg;have hO8:=HT7.out.keepOp hF8 HO7.out;have hoc:=(hT8.kp _ (List.mem_cons_self ..)).1.cell;simp only at hoc;have HC8:=(mkH (Calls _ _ _ _ _) <|ord_begin hT8.q HJ.out.jq HSt.out.2 HS.out.2 hT18.1 (by omega) va vc hO8);have HT8:=(mkH (TwoAt W w8 pb qb ((ob,[.int .i64 4,.int .i64 0,.int .i64 0,.slice va 1 vc],53) :: K) _ _ p8 q) <|hT8);have HB8:=(mkH (OrdB T 64 256 L (b + 1) p8) <|hB8);clear hg hT8 hB8 hF8 hO8 HC7 HT7 HO7;unfold pv opVal at HC8;simp only [Int.ofNat_zero,Int.natCast_zero] at HC8;go_wp2_with fail;refine Calls.mono HC8.out ?_;rintro r w9 ⟨rfl,hg⟩;obtain ⟨oq9,q9,hT9,hB9,_,_⟩:=HT8.out.right hg;have HC9:=(mkH (Calls _ _ _ _ _) <|ord_solo hT9.p HB8.out (by omega) (by decide));have HT9:=(mkH (TwoAt W w9 pb qb ((ob,[.int .i64 4,.int .i64 0,.int .i64 0,.slice va 1 vc],53) :: K) _ _ p8 q9) <|hT9);have HB9:=(mkH (OrdB T 64 256 L (b + 1) q9) <|hB9);clear hg hT9 hB9 HC8 HT8 hoc;unfold pv at HC9;simp only [Int.ofNat_zero,Int.natCast_zero] at HC9;go_wp2_with fail;refine Calls.mono HC9.out ?_;rintro r w10 ⟨rfl,hg⟩;obtain ⟨op10,p10,hT10,hJ10,_,_⟩:=HT9.out.left hg;have HC10:=(mkH (Calls _ _ _ _ _) <|ord_solo hT10.q HB9.out (by omega) (by decide));have HT10:=(mkH (TwoAt W w10 pb qb ((ob,[.int .i64 4,.int .i64 0,.int .i64 0,.slice va 1 vc],53) :: K) _ _ p10 q9) <|hT10);have HJ10:=(mkH (OrdJ T 64 256 L p10/\Still 0 p10/\Sz (b + 1 + 100) p10/\p10.deeds≠[]) <|hJ10);clear hg hT10 hJ10 HC9 HT9;unfold pv at HC10;simp only [Int.ofNat_zero,Int.natCast_zero] at HC10;go_wp2_with fail;refine Calls.mono HC10.out ?_;rintro r w11 ⟨rfl,hg⟩;obtain ⟨oq11,q11,hT11,hJ11,_,_⟩:=HT10.out.right hg;have HT11:=(mkH (TwoAt W w11 pb qb ((ob,[.int .i64 4,.int .i64 0,.int .i64 0,.slice va 1 vc],53) :: K) _ _ p10 q11) <|hT11);have HJ11:=(mkH (OrdJ T 64 256 L q11/\Still 0 q11/\Sz (b + 1 + 100) q11/\q11.deeds≠[]) <|hJ11);have fair : ∀ (own' : Own) (w' : World) (xb : Nat) (D : PlD),PlAt own' 1 w' xb D->OrdJ T 64 256 L D->Still 0 D->Sz (b + 1 + 100) D->D.deeds≠[]->Calls Tryz.prog 31 #[pv xb] w' fun r w''=>r = .returned (.bool true)/\Fr (fun _=>False) w' w'':=by
      intro own' w' xb D e1 e2 e3 e4 e5;obtain ⟨Rt,hFE⟩:=e2.fair e3;have hck:=e1.fit.clk;have hlim:=e2.lim;unfold Sz at e4;exact fair_calls e1 e2.cfg (by omega) (by omega) (by omega) e5 (by decide) (by omega) hFE
     have HC11:=(mkH (Calls _ _ _ _ _) <|fair _ _ _ _ hT11.p HJ10.out.1 HJ10.out.2.1 HJ10.out.2.2.1 HJ10.out.2.2.2);have HC12:=(mkH (∀ w12,Fr (fun _=>False) w11 w12->Calls Tryz.prog 31 #[pv qb] w12 _) <|fun w12 hf=>fair _ _ _ _ (hT11.q.calm hf) HJ11.out.1 HJ11.out.2.1 HJ11.out.2.2.1 HJ11.out.2.2.2);clear hg hT11 hJ11 HC10 HT10 fair;unfold pv at HC11 HC12;go_wp2_with fail;refine Calls.mono HC11.out ?_;rintro r w12 ⟨rfl,hf12⟩;have HC13:=(mkH (Calls _ _ _ _ _) <|HC12.out w12 hf12);have HF12:=(mkH (Fr (fun _=>False) W w12) <|HT11.out.fr.trans hf12);clear hf12 HC11 HC12;go_wp2_with fail;refine Calls.mono HC13.out ?_;rintro r w13 ⟨rfl,hf13⟩;have HF13:=(mkH (Fr (fun _=>False) W w13) <|HF12.out.trans hf13);clear hf13 HC13;go_wp2;go_ret;exact ⟨rfl,HF13.out⟩
end
end
section
open Go.RowKit
section
variable {W w w3 w4 : World} {K : List (Nat × List Value × TypeId)} {pb qb b i : Nat} {own op oq : Own} {z : Nat} {p q p' q' D : PlD} {v : Value} {Q : PlD->PlD->Prop} {T L : Int} {t u : PThread} {o : OpV}
theorem TwoAt.init (hP : PlAt op 1 w3 pb p) (hE : Ext own00 op W) (hF : Fr (fun _=>False) W w3) (hQ : PlAt oq 1 w4 qb q) (hE2 : Ext own00 oq w3) (hF2 : Fr (fun _=>False) w3 w4) : TwoAt W w4 pb qb [] (ext5 op w3 (.slice none 0 0)) oq p q:=by
 refine ⟨hP.fr hF2 (ext5_ext _ _ _) (fun _ _ h=>h),hQ,Ext.trans hE (ext5_ext _ _ _) hF.size,fun k hk=>hE2 k (Nat.lt_of_lt_of_le hk hF.size),hF.trans hF2,?_,?_,fun x hx=>by cases hx⟩
 ·intro k _ hz;by_cases hk : k < w3.heap.size
  ·rw [hE2 k hk] at hz;simp [own00] at hz
  ·exact ext5_new hk
 ·intro k _ hz;by_cases hk : k < w3.heap.size
  ·unfold InZ;rw [hE2 k hk];simp [own00]
  ·unfold ext5 at hz;rw [if_neg hk,if_neg (by simp [Value.ownBlock])] at hz;simp at hz
theorem Pot.end_ {N : Nat} (h : Pot N D 0) : Still 0 D:=by
 obtain ⟨C,h1,h2,h3⟩:=h;intro j u _ hu;cases hb : u.busy
 ·rfl
 ·exfalso;obtain ⟨j',u',g1,g2,g3,_⟩:=h1.live hu hb
  have:=h1.drops h2 g1 g2 g3
  omega
theorem lquiet_calls (k t n e l : Int) (W : World) (sa : Option Addr) (c : Nat) (acts : List ActD) (rt : rawI t) (rn : rawI n) (re : rawI e) (rl : rawI l) (hlen : acts.length<=2 ^ 20) (hacts : ∀ i a,acts[i]? = some a->ActIn W sa i a/\a.sn<=2 ^ 20) :
  Calls Tryz.prog 9 #[cfg k t n e l,.slice sa acts.length c,.int .i64 0] W fun r W'=>r = .returned (.bool true)/\Fr (fun _=>False) W W':=by
 obtain ⟨hok,hT1⟩:=cfg_ok 0 1 t n e l (.inl rfl) (.inl rfl);have HCf:=(mkH (∀ w,Calls Tryz.prog 15 #[cfg k t n e l,.int .i64 0,.int .i64 1] w _) <|fun w=>config_calls k t n e l 0 1 w rt rn re rl (.inl rfl));generalize cT 1 t = T at *;generalize cN n = N at *;generalize cE e = E at *;generalize cL l = L0 at *;have hbd : (1<=T/\T<=8)/\(0<=L0/\L0<=1099511627776):=by
  simp only [okCfg,Bool.and_eq_true,isIn_iff] at hok;omega
 have HAc:=(mkH (∀ i a,acts[i]? = some a->ActIn W sa i a/\a.sn<=2 ^ 20) <|hacts);clear hok hacts rt rn re rl hT1;obtain ⟨⟨hT1,hT8⟩,hL0,hL1⟩:=hbd;unfold cfg at HCf ⊢
 go_enter Tryz.func9,Tryz.ntmps9
 go_wp2_with fail;refine Calls.mono (HCf.out _) ?_;rintro r w1 ⟨rfl,hF1⟩;have HF1:=(mkH (Fr (fun _=>False) W w1) <|((Fr.refl _ _).alloc _).trans hF1);clear hF1 HCf;obtain ⟨nb,hnb⟩ : ∃ nb,nb = w1.heap.size:=⟨_,rfl⟩;go_wp2_with fail;have hLr : 30<=30 + L0 % 1099511627746/\30 + L0 % 1099511627746<=1099511627776:=by omega
 generalize 30 + L0 % 1099511627746 = L at hLr ⊢;obtain ⟨hL30,hL40⟩:=hLr;have hok2 : okCfg 0 T 64 256 L = true:=by
  simp only [okCfg,Bool.and_eq_true,isIn_iff];omega
 have HPl:=(mkH (∀ w,Calls Tryz.prog 16 #[cfg 0 T 64 256 L] w _) <|fun w=>player_calls T 64 256 L w own00 1 hok2);unfold cfg at HPl;generalize hw2 : World.alloc _ _ = w2;have HNb:=(mkH (At w2 nb [.int .i64 0,.int .i64 T,.int .i64 64,.int .i64 256,.int .i64 L] 23) <|by rw [<- hw2,hnb]; exact At.new w1 _ _);have HF2:=(mkH (Fr (fun _=>False) W w2) <|by rw [<- hw2]; exact HF1.out.alloc _);simp only [<- hnb];clear hw2 hnb hok2 HF1;refine Calls.mono (HPl.out _) ?_;rintro r w3 ⟨pb,rfl,op,p,hP,hE,hFp,hF3⟩;have HP:=(mkH (PlAt op 1 w3 pb p/\Ext own00 op w2/\FreshPl T 64 256 L p/\Fr (fun _=>False) w2 w3) <|⟨hP,hE,hFp,hF3⟩);have hnc:=(hF3.at HNb.out (fun h=>h)).cell;clear hP hE hFp hF3;unfold pv;go_wp2_with fail;refine Calls.mono (HPl.out _) ?_;rintro r w4 ⟨qb,rfl,oq,q,hQ,hE2,hFq,hF4⟩;have HTw:=(mkH (TwoOn w2 w4 pb qb [] (fun p q=>QJ T L p q/\Sz (400 * 0) p/\Sz (400 * 0) q)) <|by
  refine ⟨_,_,_,_,TwoAt.init HP.out.1 HP.out.2.1 HP.out.2.2.2 hQ hE2 hF4,QJ.fresh hL30 HP.out.2.2.1 hFq,?_,?_⟩
  ·have hD:=HP.out.2.2.1;unfold Sz;rw [hD.N,hD.deeds,hD.cnt.1,hD.cnt.2]
   simp
  ·unfold Sz;rw [hFq.N,hFq.deeds,hFq.cnt.1,hFq.cnt.2]
   simp)
 clear hQ hE2 hFq hF4 HP HPl hnc;unfold pv;go_wp2
 go_loopw [10] (fun v wr=>∃ j : Nat,j<=acts.length/\v = .int .i64 j/\Hid (TwoOn w2 wr pb qb [] (fun p q=>QJ T L p q/\Sz (400 * j) p/\Sz (400 * j) q))) (fun v _=>acts.length - (intOf v).toNat)
 case atStart=>exact ⟨0,by omega,rfl,HTw⟩
 case round =>
  clear HTw;obtain ⟨j,hj,rfl,HTw⟩:=hrel;by_cases hlt : j < acts.length
  ·obtain ⟨op1,oq1,p1,q1,hT1',hj1,hS1,hS1'⟩:=HTw.out;have hx : acts[j]? = some acts[j]:=List.getElem?_eq_getElem hlt;obtain ⟨hai,hasn⟩:=HAc.out j _ hx;generalize acts[j] = a at hx hai hasn;obtain ⟨ab,off,rfl,hcl,hsp,hmm,htt⟩:=hai.keep (HF2.out.trans hT1'.fr);have HAct:=(mkH (Calls _ _ _ _ _) <|doubly_calls hT1' hj1 hS1 hS1' (by omega) a hsp hasn hmm htt);have c0:=hcl 0 _ rfl;have c1:=hcl 1 _ rfl;have c2:=hcl 2 _ rfl;have c3:=hcl 3 _ rfl;have c4:=hcl 4 _ rfl;have c5:=hcl 5 _ rfl;have c6:=hcl 6 _ rfl;obtain ⟨kd,tt,o,ky,va,m,psa,psn,psc,sps⟩:=a;simp only [Nat.add_zero,<- Nat.add_assoc] at c0 c1 c2 c3 c4 c5 c6;unfold pv actVal at HAct;simp only at HAct;clear hT1' hj1 hS1 hS1' hx hai hasn hcl hsp hmm htt HTw;go_wp2_with fail;refine Calls.mono HAct.out ?_;rintro r w5 ⟨rfl,op5,oq5,p5,q5,hT5,hj5,hS5,hS5'⟩;have HTw2:=(mkH (TwoOn w2 w5 pb qb [] (fun p q=>QJ T L p q/\Sz (400 * (j + 1)) p/\Sz (400 * (j + 1)) q)) <|⟨op5,oq5,p5,q5,hT5,hj5,hS5.mono (by omega),hS5'.mono (by omega)⟩);clear hT5 hj5 hS5 hS5' HAct c0 c1 c2 c3 c4 c5 c6;go_wp2
   go_roundw
   case rel=>exact ⟨j + 1,by omega,by go_num,HTw2⟩
   case measure=>simp [intOf]; omega
  ·have hjl : j<=2 ^ 20:=by omega
   obtain ⟨w5,hw5⟩ : ∃ w5,w5 = wr:=⟨_,rfl⟩;subst hw5;have hnc : ∀ o,w5.cell? ⟨nb,o,none⟩ = [Value.int .i64 0,.int .i64 T,.int .i64 64,.int .i64 256,.int .i64 L][o]?:=by
    obtain ⟨op1,oq1,p1,q1,hT1',_⟩:=HTw.out;exact (hT1'.fr.at HNb.out (fun h=>h)).cell
   obtain ⟨⟨m1,m2⟩,m3,m4⟩:=most_le (T:=T) (Nn:=64) ⟨hT1,hT8⟩ (by decide);obtain ⟨M,hM⟩ : ∃ M : Nat,Hid (T * (T + 2) * (64 + 16) = M):=⟨(T * (T + 2) * (64 + 16)).toNat,by show _ = _; omega⟩;go_wp2;rw [show T * (T + 2) * 80 = (M : Int) from by have h:=hM.out; rw [show ((64 : Int) + 16) = 80 from rfl] at h; exact h];have hM6 : M<=6400:=by have:=hM.out; omega
   have HPot:=(mkH (TwoOn w2 w5 pb qb [] (fun p q=>QJ T L p q/\Sz (400 * j + 8 * 0) p/\Sz (400 * j + 8 * 0) q/\∃ n,n + 0<=M/\Pot 64 p n)) <|by
    obtain ⟨op1,oq1,p1,q1,hT1',hj1,hS1,hS1'⟩:=HTw.out;refine ⟨op1,oq1,p1,q1,hT1',hj1,hS1,hS1',M,by omega,?_⟩
    have:=ord_plays.pot hj1.jp (by have:=hT1'.p.thr; have:=hj1.jp.cfg.2.1; omega) (by decide)
    have e : (T * (T + 2) * (64 + 16)).toNat = M:=by have:=hM.out; omega
    rw [e] at this;exact this)
   clear hM m1 m2 m3 m4 HTw hnc hlt hj
   go_loopw [13] (fun v wr=>∃ jj : Nat,jj<=M/\v = .int .i64 jj/\Hid (TwoOn w2 wr pb qb [] (fun p q=>QJ T L p q/\Sz (400 * j + 8 * jj) p/\Sz (400 * j + 8 * jj) q/\∃ n,n + jj<=M/\Pot 64 p n))) (fun v _=>M + 1 - (intOf v).toNat)
   case atStart=>exact ⟨0,by omega,rfl,HPot⟩
   case round =>
    clear HPot;obtain ⟨jj,hjM,rfl,HG⟩:=hrel;obtain ⟨op6,oq6,p6,q6,hT6,hj6,hS6,hS6',n6,hn6,hp6⟩:=HG.out;by_cases hlt2 : jj < M
    ·have HT6:=(mkH (TwoAt w2 wr pb qb [] op6 oq6 p6 q6) <|hT6);have HJ6:=(mkH (QJ T L p6 q6/\n6 + jj<=M/\Pot 64 p6 n6) <|⟨hj6,hn6,hp6⟩);have HLn:=(mkH ((p6.P.ts.length : Int) = T) <|by have:=hT6.p.thr; have:=hj6.jp.cfg.2.1; show _ = _; omega);have HI:=(mkH (TwoOn w2 wr pb qb [] (fun p q=>QJ T L p q/\Sz (400 * j + 8 * jj + 0) p/\Sz (400 * j + 8 * jj + 0) q/\∃ m s : Nat,Turning 0 64 p6 0 m s p/\(false = true ↔ s≠0))) <|⟨op6,oq6,p6,q6,hT6,hj6,hS6,hS6',0,0,Turning.start,by simp⟩);clear hT6 hj6 hS6 hS6' hn6 hp6 HG;go_wp2
     go_loopw [14,15] (fun vs vt wr2=>∃ (k : Nat) (sm : Bool),(k : Int)<=T/\vs = .bool sm/\vt = .int .i64 k/\Hid (TwoOn w2 wr2 pb qb [] (fun p q=>QJ T L p q/\Sz (400 * j + 8 * jj + k) p/\Sz (400 * j + 8 * jj + k) q/\∃ m s : Nat,Turning 0 64 p6 k m s p/\(sm = true ↔ s≠0)))) (fun _ vt _=>T.toNat - (intOf vt).toNat)
     case atStart=>exact ⟨0,false,by omega,rfl,rfl,HI⟩
     case round =>
      clear HI;obtain ⟨k,sm,hkT,rfl,rfl,HI⟩:=hrel;obtain ⟨op7,oq7,p7,q7,hT7,hj7,hS7,hS7',m7,s7,hTu,hsm⟩:=HI.out;have hnc:=(hT7.fr.at HNb.out (fun h=>h)).cell;by_cases hkl : (k : Int) < T
      ·have hil : k < p7.P.ts.length:=by have:=hT7.p.thr; have:=hj7.jp.cfg.2.1; omega
       obtain ⟨t7,ht7⟩ : ∃ t7,p7.P.ts[k]? = some t7:=⟨_,List.getElem?_eq_getElem hil⟩;obtain ⟨g1,c1,hv1,hb1,_⟩:=hT7.p.busyRow (hj7.jp.bsy ht7);have ha:=hT7.p.at_.cell;simp only [PlD.cells,hv1,pv] at ha;have hT8':=hT7.p.fit.thr;obtain ⟨nT,hnT⟩ : ∃ nT,nT = p7.P.ts.length:=⟨_,rfl⟩;rw [<- hnT] at ha hil hT8';have HC:=(mkH (Calls _ _ _ _ _) <|beside_calls hT7 hj7 hS7 hS7' (by omega) ht7);have HI7:=(mkH (TwoAt w2 wr pb qb [] op7 oq7 p7 q7/\QJ T L p7 q7/\Sz (400 * j + 8 * jj + k) p7/\Sz (400 * j + 8 * jj + k) q7/\Turning 0 64 p6 k m7 s7 p7/\(sm = true ↔ s7≠0)/\p7.P.ts[k]? = some t7) <|⟨hT7,hj7,hS7,hS7',hTu,hsm,ht7⟩);clear hT7 hj7 hS7 hS7' hTu hsm ht7 hv1 hnT HI;cases htb : t7.busy
       ·rw [htb] at hb1;have HI8:=(mkH (TwoOn w2 wr pb qb [] (fun p q=>QJ T L p q/\Sz (400 * j + 8 * jj + (k + 1)) p/\Sz (400 * j + 8 * jj + (k + 1)) q/\∃ m s : Nat,Turning 0 64 p6 (k + 1) m s p/\(sm = true ↔ s≠0))) <|⟨op7,oq7,p7,q7,HI7.out.1,HI7.out.2.1,HI7.out.2.2.1.mono (by omega),HI7.out.2.2.2.1.mono (by omega),m7,s7,HI7.out.2.2.2.2.1.skip HI7.out.2.2.2.2.2.2 htb,HI7.out.2.2.2.2.2.1⟩);clear htb HC HI7;go_wp2
        go_roundw
        case rel=>exact ⟨k + 1,sm,by omega,rfl,by go_num,HI8⟩
        case measure=>simp [intOf]; omega
       ·rw [htb] at hb1 HC;simp only [if_true] at HC;have HTb:=(mkH (t7.busy = true) <|htb);unfold pv at HC;clear htb;go_wp2_with fail;refine Calls.mono HC.out ?_;rintro r w8 ⟨rfl,op8,oq8,p8,q8,hT8,hj8,hB8,hS8,hS8'⟩;obtain ⟨tr,htr⟩ : ∃ tr : Bool,Hid (tr = true):=⟨true,rfl⟩;have HI8:=(mkH (TwoOn w2 w8 pb qb [] (fun p q=>QJ T L p q/\Sz (400 * j + 8 * jj + (k + 1)) p/\Sz (400 * j + 8 * jj + (k + 1)) q/\∃ m s : Nat,Turning 0 64 p6 (k + 1) m s p/\(tr = true ↔ s≠0))) <|by
         rw [htr.out];obtain ⟨_,_,_,_,z5,_,z7⟩:=HI7.out;have hst:=hB8.1 HTb.out;by_cases h2 : (p7.P.step k t7).2 = 2
         ·exact ⟨op8,oq8,p8,q8,hT8,hj8,hS8,hS8',m7,s7 + 1,z5.wait (Nat.zero_le _) (by obtain ⟨C,_,_,_,hC,_⟩:=HI7.out.2.1.jp.ex; exact ⟨C,hC⟩) z7 HTb.out hst h2,by simp⟩
         ·exact ⟨op8,oq8,p8,q8,hT8,hj8,hS8,hS8',m7 + 1,s7 + 1,z5.move z7 HTb.out hst h2,by simp⟩)
        generalize (p7.P.step k t7).2 = how at *;clear hT8 hj8 hB8 hS8 hS8' HC HI7;go_wp2
        go_roundw
        case rel=>exact ⟨k + 1,true,by omega,rfl,by go_num,by rw [htr.out] at HI8; exact HI8⟩
        case measure=>simp [intOf]; omega
      ·have hkl2 : k = p6.P.ts.length:=by have:=HLn.out; omega
       rw [hkl2] at hTu;cases sm
       ·have hs0 : s7 = 0:=by
         by_cases e : s7 = 0
         ·exact e
         ·exact absurd (hsm.2 e) (by decide)
        obtain ⟨z1,_,z3⟩:=hTu.none_ hs0;have hst : Still 0 p7:=by
         intro q u hq hu;rw [z1] at hu;exact z3 q u hq (List.getElem?_eq_some_iff.1 hu).1 hu
        have HC:=(mkH (Calls _ _ _ _ _) <|settled_calls hT7 hj7 hst hS7 hS7' (by omega) hL40);unfold pv at HC;clear hT7 hj7 hS7 hS7' hTu hsm hst z1 z3 hs0 hkl2 HI;go_wp2_with fail;refine Calls.mono HC.out ?_;rintro r w9 ⟨rfl,hf9⟩;have HF9:=(mkH (Fr (fun _=>False) W w9) <|HF2.out.trans hf9);clear hf9 HC;go_wp2;go_ret;exact ⟨rfl,HF9.out⟩
       ·have hm0 : m7≠0:=by
         intro e;exact (hsm.1 rfl) (hTu.done ord_plays HJ6.out.1.jp e)
        obtain ⟨n',y1,y2⟩:=hTu.pot n6 HJ6.out.2.2;have HG2:=(mkH (TwoOn w2 wr pb qb [] (fun p q=>QJ T L p q/\Sz (400 * j + 8 * (jj + 1)) p/\Sz (400 * j + 8 * (jj + 1)) q/\∃ n,n + (jj + 1)<=M/\Pot 64 p n)) <|⟨op7,oq7,p7,q7,hT7,hj7,hS7.mono (by omega),hS7'.mono (by omega),n',by have:=HJ6.out.2.1; omega,y2⟩);clear hT7 hj7 hS7 hS7' hTu hsm hm0 y1 y2 hkl2 HI;go_wp2
        go_roundw
        case rel=>exact ⟨jj + 1,by omega,by go_num,HG2⟩
        case measure=>simp [intOf]; omega
    ·have hn0 : n6 = 0:=by omega
     subst hn0;have hst:=hp6.end_;have HC:=(mkH (Calls _ _ _ _ _) <|settled_calls hT6 hj6 hst hS6 hS6' (by omega) hL40);unfold pv at HC;clear hT6 hj6 hS6 hS6' hst hp6 HG;go_wp2_with fail;refine Calls.mono HC.out ?_;rintro r w9 ⟨rfl,hf9⟩;have HF9:=(mkH (Fr (fun _=>False) W w9) <|HF2.out.trans hf9);clear hf9 HC;go_wp2;go_ret;exact ⟨rfl,HF9.out⟩
end
end
section
open Go.RowKit
theorem quiet_any : LawHolds 3:=by
 intro k t n e l W sa c acts rt rn re rl hlen hacts;have HA:=(mkH (Calls Tryz.prog 9 #[cfg k t n e l,.slice sa acts.length c,.int .i64 0] (W.alloc (.cells #[.int .i64 k,.int .i64 t,.int .i64 n,.int .i64 e,.int .i64 l] 23)) _) <|lquiet_calls k t n e l _ sa c acts rt rn re rl hlen (fun i a ha=>⟨(hacts i a ha).1.keep ((Fr.refl _ _).alloc _),(hacts i a ha).2⟩));clear hacts;unfold cfg at HA ⊢
 go_enter Tryz.func3,Tryz.ntmps3
 go_wp2_with fail;refine Calls.mono HA.out ?_;rintro r w1 ⟨rfl,hF1⟩;have HF:=(mkH (Fr (fun _=>False) W w1) <|((Fr.refl _ _).alloc _).trans hF1);clear hF1 HA;go_wp2;go_ret;exact ⟨rfl,HF.out⟩
end
section
open Go.ChangeShapes Go.WideShapes Go.ChangeAt Go.RowKit Go.Joins Go.Deep
theorem quiet_contract (hany : LawHolds 3) (H : Type) (enc : TypeId × Value->H) (W : World) (base : Nat) (args : Array Value) (ds gs : List (DataW H)) (before : List MemPlace)
  (hval0 : ∀ (j : Nat) t v,Tryz.f3.params[j]? = some t->args[j]? = some v->Value.okWide Tryz.prog W .any base t v)
  (hW : DataW.Whole enc Tryz.prog Tryz.f3.params.toList Rows.quietSpec.vars false W args.toList ds gs before) (hk : Rows.uptoSmall H (ds ++ gs) = true) :
  Calls Tryz.prog 3 args W fun e W'=>∃ v,e = .returned v/\Rows.quietSpec.post enc Tryz.prog Tryz.f3 false true false false W args v W':=by
 have hval : ∀ (j : Nat) t v,Tryz.f3.params[j]? = some t->args[j]? = some v->Value.okWide Tryz.prog W .any base t v:=hval0;have hW':=hW;obtain ⟨p,q,hA0,hV,rfl,_,_⟩:=hW;have hA : DataW.TrodAll enc Tryz.prog W 0 (fun _=>true) true Tryz.f3.params.toList args.toList ds p:=hA0;rw [Tryz.params3] at hA hval;obtain ⟨v0,vs0,d0,ds0,p0,q0,hargs,rfl,rfl,h0,r0⟩:=trodAll_cons hA;obtain ⟨v1,vs1,d1,ds1,p1,q1,hargs1,rfl,rfl,h1,r1⟩:=trodAll_cons r0;obtain ⟨rfl,rfl,rfl⟩:=trodAll_nil r1;obtain rfl : args = #[v0,v1]:=by cases args; simp_all
 obtain ⟨rfl,rfl⟩:=trodVars_none hV;have k0:=h0;have k1:=h1;have lt0 : ∀ x ∈ p0,x.block < W.heap.size:=by obtain ⟨m,hm⟩:=k0; exact DataW.trod_lt m _ _ _ hm
 have lt1 : ∀ x ∈ p1,x.block < W.heap.size:=by obtain ⟨m,hm⟩:=k1; exact DataW.trod_lt m _ _ _ hm
 obtain ⟨k,t,n,e,l,rfl,rt,rn,re,rl⟩:=cfg_open (hval 0 23 v0 rfl rfl) h0;obtain ⟨sa,m,c,acts,rfl,hm,hl,hacts⟩:=acts_open (hval 1 24 v1 rfl rfl) h1;have hb : Rows.uptoBulk d1<=2 ^ 20:=by
  have h : Rows.uptoBulkAll ([d0,d1] ++ [])<=1048576:=of_decide_eq_true hk;simp only [List.cons_append,List.nil_append,Rows.uptoBulkAll] at h;omega
 clear hA0 hval0;subst hl;refine (hany k t n e l W sa c acts rt rn re rl (Nat.le_trans hm hb) (fun i a ha=>⟨(hacts i a ha).1,Nat.le_trans (hacts i a ha).2 hb⟩)).mono fun r W' ⟨he,hf⟩=>?_
 subst he;have bel : Below W.heap.size W W':=hf.below (fun _ _ h=>h);exact ⟨_,rfl,_,_,_,[],_,[],hW',trodAll_mk1 (shut_bool Tryz.underlying4 _),trodAll_cons_mk (Below.trod Tryz.laidOut (by kernel_rfl) (of_decide_eq_true (by kernel_rfl)) k0 bel lt0) (trodAll_cons_mk (Below.trod Tryz.laidOut (by kernel_rfl) (of_decide_eq_true (by kernel_rfl)) k1 bel lt1) trodAll_mk0),rfl,bel.frame _,fun h=>by cases h⟩
theorem quiet_lifted (hany : LawHolds 3) (os : Os) (started : os.Started) (H : Type) (enc : TypeId × Value->H) (F : Stop.Interp) :
  ReturnsInHanded {} Tryz.checked os 3 .any ((Rows.OpenSpec.upto Rows.quietSpec).pre6 enc Tryz.prog Tryz.f3 Rows.quietUptoRow.domain false) (((Rows.OpenSpec.upto Rows.quietSpec).at F).post enc Tryz.prog Tryz.f3 false true false false):=by
 refine returnsInHanded_of_cond (C:=Tryz.checked) (s:=Rows.OpenSpec.upto Rows.quietSpec) (k:=Rows.uptoSmall) rfl Tryz.own started (by kernel_rfl) Tryz.func3
  (OpenSpec.witness (enc:=enc) (C:=Tryz.checked) (s:=Rows.OpenSpec.upto Rows.quietSpec) (k:=Rows.uptoSmall) rfl false ⟨#[],#[.agg #[.int .i64 0,.int .i64 0,.int .i64 0,.int .i64 0,.int .i64 0],.slice none 0 0],[]⟩ 8 (by kernel_rfl) (by kernel_rfl) (by kernel_rfl)
   (x:=([.agg [.lit (.int .i64 0),.lit (.int .i64 0),.lit (.int .i64 0),.lit (.int .i64 0),.lit (.int .i64 0)],.nil],[],[])) (by kernel_rfl) rfl (by kernel_rfl)) ?_
 intro W base args ds gs before hval hW _ hk _;exact quiet_contract hany H enc W base args ds gs before hval hW hk
theorem quiet_frame (hany : LawHolds 3) : Rows.QuietUptoSaid :=
 OpenClaim.holds_of_cond 3 Tryz.f3 rfl rfl rfl rfl rfl rfl rfl ⟨rfl,rfl,rfl,rfl,rfl⟩ rfl rfl rfl rfl rfl (by kernel_rfl) Tryz.func3 (by kernel_rfl)
  (of_decide_eq_true (by kernel_rfl)) (by unfold Func.isWrapper; first | (rw [if_pos (by decide +kernel)]; kernel_rfl) | (rw [if_neg (by decide +kernel)]; exact ⟨rfl,rfl⟩))
  (fun os started H enc _ F=>quiet_lifted hany os started H enc F)
end
section
theorem quiet_holds : Rows.QuietUptoSaid:=quiet_frame quiet_any
#print axioms quiet_holds
end
end Go.Proofs.YtfccelbmacjifabGreat
