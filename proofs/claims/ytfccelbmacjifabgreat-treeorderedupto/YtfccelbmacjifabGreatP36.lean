import Derived.Test.YtfccelbmacjifabGreatP0
import Derived.Test.YtfccelbmacjifabGreatP35
import Derived.Test.YtfccelbmacjifabGreatP30
set_option linter.unusedSimpArgs false
set_option maxRecDepth 100000
set_option maxHeartbeats 4000000
namespace Go.Proofs.YtfccelbmacjifabGreat
section
open Go.RowKit
open Go.Proofs.YtfccelbmacjifabGreat.T (OrdJ OrdB OrdL OrdC FairEnd FairD Pre okT okN okE tookD aheadD rk Tm ahead_rk proper_whole ord_plays)
theorem Tryz.infoPlc : (Tryz.prog.info? 92).map (fun i=>(i.zero,i.size,i.bytes)) = some (some (.agg #[.int .i64 0,.int .i64 0,.int .i64 0,.slice none 0 0,.int .i64 0,.bool false,.int .i64 0,.int .i64 0,.slice none 0 0,.int .i64 0,.int .i64 0]),11,120):=by kernel_rfl
theorem Tryz.plc_size : ∀ w : World,(sizeOf 92).run Tryz.prog w = .ok 11 w:=fun _=>by kernel_rfl
theorem proper_spans {ky : Int} {sp : List (Int × Int)} (h : properB 4 ky sp = true) : sp.length<=16:=by
 have h0 : checkOp 4 ky sp = 0:=of_decide_eq_true h;unfold checkOp at h0;rw [if_neg (by decide),if_pos rfl] at h0;have hk : (isIn sp.length 1 16 && spansOkX sp) = true:=by
  cases hh : (isIn sp.length 1 16 && spansOkX sp)
  ·rw [hh] at h0; exact absurd h0 (by decide)
  ·rfl
 rw [Bool.and_eq_true,isIn_iff] at hk;omega
section
variable {own : Own} {z : Nat} {W : World} {pb : Nat} {D : PlD} {N E L T : Int}
theorem order_calls (hP : PlAt own z W pb D) (hc : D.k = 1/\D.t = T/\D.n = N/\D.e = E/\D.l = L) (hp : 0<=D.puts/\D.puts<=2 ^ 37) (ht : 0<=D.takes/\D.takes<=2 ^ 37) (hdl : D.deeds.length<=2 ^ 37) (hne : D.deeds≠[])
  (hF : ∀ (n : Nat) d,D.deeds[n]? = some d->d.a.err≠0->okE N E L D.puts D.takes d) (hpr : ∀ (n : Nat) d,D.deeds[n]? = some d->properB d.op.kind d.op.key d.op.spans = true) :
  Calls Tryz.prog 49 #[pv pb] W fun r W'=>∃ v l,r = .returned (.tuple #[v,.bool true])/\LRow W W' v l/\OrdL D.deeds D.deeds.length l:=by
 obtain ⟨iP,hiP,hzP,hsP,hbP⟩:=info_parts Tryz.infoPlc;obtain ⟨gd,cd,hdv,hdc⟩:=hP.deedCells hne;have HP:=(mkH (PlAt own z W pb D) <|hP);have HDv:=(mkH (D.dv = .slice (some ⟨gd,0,none⟩) D.deeds.length cd) <|hdv);have HDC:=(mkH (∀ (k : Nat) d,D.deeds[k]? = some d->_) <|hdc);have HRf:=(mkH (∀ (k : Nat) d wr,D.deeds[k]? = some d->d.a.err≠0->Fr (fun _=>False) W wr->Calls Tryz.prog 65 #[pv pb,.agg d.cells.toArray] wr _) <|fun k d wr hd he hf=>refused_calls (hP.calm hf) hc hp ht d (List.mem_of_getElem? hd) (fun h4=>by have:=hpr k d hd; rw [h4] at this; exact proper_spans this) (hF k d hd he));obtain ⟨dl,hdl'⟩ : ∃ dl : Nat,dl = D.deeds.length:=⟨_,rfl⟩;have HDl:=(mkH (dl = D.deeds.length) <|hdl');rw [<- hdl'] at hdl;clear hP hdv hdc hF hpr hc hp ht hne hdl';unfold pv;unfold pv at HRf
 go_enter Tryz.func49,Tryz.ntmps49
 go_wp2
 go_loopw [4,5] (fun v i wr=>∃ (k : Nat) (l : List (DeedV × Nat)),k<=dl/\i = .int .i64 k/\Hid (LRow W wr v l)/\Hid (OrdL D.deeds k l)) (fun _ i _=>dl - (intOf i).toNat)
 case atStart=>exact ⟨0,[],Nat.zero_le _,rfl,LRow.none W,Go.Proofs.YtfccelbmacjifabGreat.T.OrdL.none _⟩
 case round =>
  obtain ⟨k,l,hk,rfl,HL,HO⟩:=hrel;have hPr:=HP.out.calm HL.out.fr;have ha:=hPr.at_.cell;simp only [PlD.cells,HDv.out,<- HDl.out,pv] at ha;clear hPr;by_cases hlt : k < dl
  ·obtain ⟨d,hx⟩ : ∃ d,D.deeds[k]? = some d:=⟨_,List.getElem?_eq_getElem (by rw [<- HDl.out]; exact hlt)⟩;obtain ⟨⟨xa,xn,xc,la,ln,lc,e1,e2⟩,hcl⟩:=HDC.out k d hx;have kc : ∀ q v,d.cells[q]? = some v->wr.cell? ⟨gd,k * 10 + q,none⟩ = some v:=fun q v hq=>HL.out.fr.keepCell (hcl q v hq)
   have c0:=kc 0 _ rfl;have c1:=kc 1 _ rfl;have c2:=kc 2 _ rfl;have c3:=kc 3 _ rfl;have c4:=kc 4 _ rfl;have c5:=kc 5 _ rfl;have c6:=kc 6 _ rfl;have c7:=kc 7 _ rfl;have c8:=kc 8 _ rfl;have c9:=kc 9 _ rfl;rw [e1] at c3;rw [e2] at c8;simp only [Nat.add_zero] at c0;have HX:=(mkH (D.deeds[k]? = some d) <|hx);clear hcl kc hx;by_cases he : d.a.err = 0
   ·have he' : (d.a.err != 0) = false:=by simpa using he
    obtain ⟨va,vc,hv⟩:=ownsShape HL.out.row;have HLn:=(mkH (l.length<=k) <|HO.out.len);subst hv;have HPush : Hid (∀ (g' cap : Nat) (w3 : World) (ob ob' : Obj),w3.ownsRow 0 92 11 (.slice (some ⟨g',0,none⟩) (l.length + 1) cap) (l.length + 1) (l.flatMap plc ++ plc (d,k))->((wr.alloc ob).alloc ob').grownBy w3 (Value.slice va l.length vc).ownBlock->((Value.slice va l.length vc).ownBlock = some g'\/wr.heap.size + 1 + 1<=g')->ob = .cells d.cells.toArray 75->LRow W w3 (.slice (some ⟨g',0,none⟩) (l.length + 1) cap) (l ++ (d,k) :: [])/\At w3 wr.heap.size d.cells 75/\wr.heap.size≠g'):=by
     intro g' cap w3 ob ob' hown hgr hge hob;have hvb : ∀ q,(Value.slice va l.length vc).ownBlock = some q->W.heap.size<=q/\q < wr.heap.size:=fun q hq=>⟨HL.out.new q hq,ownsRow_lt HL.out.row hq⟩
     have hg' : W.heap.size<=g'/\wr.heap.size≠g':=by
      have:=HL.out.fr.size
      rcases hge with h | h
      ·have:=hvb g' h; omega
      ·omega
     refine ⟨⟨?_,?_,Fr.grown ((HL.out.fr.alloc _).alloc _) hgr (fun q hq=>.inr (hvb q hq).1)⟩,?_,hg'.2⟩
     ·rw [List.flatMap_append,List.length_append];simpa using hown
     ·intro q hq;simp [Value.ownBlock] at hq;subst hq; exact hg'.1
     ·have hA : At ((wr.alloc ob).alloc ob') wr.heap.size d.cells 75:=by rw [hob]; exact (At.new wr d.cells _).alloc _
      have hlt:=hA.lt;unfold At at *;rw [hgr.block wr.heap.size hlt (fun q=>by have:=hvb _ q.symm; omega)];exact hA
    have HPut:=(mkH (∀ A B,l = A ++ B->(∀ b ∈ B,aheadD d b.1 = true)->(∀ a,A.getLast? = some a->aheadD d a.1 = false)->OrdL D.deeds (k + 1) (A ++ (d,k) :: B)) <|fun A B hl h1 h2=>by
     have hO:=HO.out;rw [hl] at hO;exact hO.put HX.out he h1 h2)
    have HAh:=(mkH (∀ (a : DeedV × Nat),a ∈ l->DSl a.1/\∀ w',Calls Tryz.prog 66 #[.agg d.cells.toArray,.agg a.1.cells.toArray] w' _) <|fun a ha=>by
     obtain ⟨_,h2,_⟩:=(HO.out.mem a.1 a.2).1 ha;have hs:=(HDC.out a.2 a.1 h2).1;exact ⟨hs,fun w'=>ahead_calls d a.1 (HDC.out k d HX.out).1 hs w'⟩)
    clear he;simp only [DeedV.cells,e1,e2] at HAh;simp only [DeedV.cells,e1,e2,plc,List.cons_append,List.nil_append] at HPush;have HPd : Hid (plc (d,k) = [.int .i64 d.op.kind,.int .i64 d.op.key,.int .i64 d.op.value,.slice xa xn xc,.int .i64 d.a.err,.bool d.a.did,.int .i64 d.a.value,.int .i64 d.a.stamp,.slice la ln lc,.int .i64 d.frm,.int .i64 k]):=by show _ = _; simp only [plc,DeedV.cells,e1,e2,List.cons_append,List.nil_append]
    go_wp2_with (at_builtin; refine wpList_push _ rfl _ _ 88 rfl 0 92 iP _ 11 120 Tryz.underlying88 hiP hzP hsP hbP rfl (by decide) _ _ _ rfl (ownsRow_alloc (ownsRow_alloc HL.out.row _) _) (wr.heap.size + 1) _ rfl rfl 92 (At.newAt (by simp) _ _) (by simp [Value.oneCell']) (by have:=HLn.out; unfold maxLen; omega) (by have:=HLn.out; omega) (by simp) ?_);intro g' cap w3 hown hgr hge;obtain ⟨hl3,hb3,hn3⟩:=HPush.out g' cap w3 _ _ hown hgr hge rfl;have HL3:=(mkH (LRow W w3 (.slice (some ⟨g',0,none⟩) (l.length + 1) cap) (l ++ [(d,k)])) <|hl3);have HB3:=(mkH (At w3 wr.heap.size _ 75) <|hb3);clear hl3 hb3 hown hgr hge HPush c0 c1 c2 c3 c4 c5 c6 c7 c8 c9 he' ha;obtain ⟨bb,hbb⟩ : ∃ bb,bb = wr.heap.size:=⟨_,rfl⟩;rw [<- hbb] at HB3 hn3;have hll:=HLn.out;simp only [<- hbb];clear hbb;go_wp2
    go_loopw [8] (fun kk wr2=>∃ (A B : List (DeedV × Nat)),kk = .int .i64 A.length/\Hid (l = A ++ B)/\Hid (∀ b ∈ B,aheadD d b.1 = true)/\Hid (LRow W wr2 (.slice (some ⟨g',0,none⟩) (l.length + 1) cap) (A ++ (d,k) :: B))/\Hid (At wr2 bb [.int .i64 d.op.kind,.int .i64 d.op.key,.int .i64 d.op.value,.slice xa xn xc,.int .i64 d.a.err,.bool d.a.did,.int .i64 d.a.value,.int .i64 d.a.stamp,.slice la ln lc,.int .i64 d.frm] 75)) (fun kk _=>(intOf kk).toNat)
    case atStart=>exact ⟨l,[],rfl,(List.append_nil l).symm,fun b hb=>by simp at hb,HL3,HB3⟩
    case round =>
     obtain ⟨A,B,rfl,HAB,HBb,HLr,HBr⟩:=hrel;rcases List.eq_nil_or_concat A with rfl | ⟨A',a,rfl⟩
     ·have HFin:=(mkH (OrdL D.deeds (k + 1) ([] ++ (d,k) :: B)) <|HPut.out [] B HAB.out HBb.out (fun a ha=>by simp at ha));simp only [List.length_nil];go_wp2
      go_roundw
      case rel=>exact ⟨k + 1,_,by omega,by go_num,HLr,HFin⟩
      case measure=>simp [intOf]; omega
     ·have hal : a ∈ l:=by rw [HAB.out]; simp
      obtain ⟨⟨ya,yn,yc,za,zn,zc,f1,f2⟩,hcal⟩:=HAh.out a hal;have HCa:=(mkH (∀ w',Calls Tryz.prog 66 _ w' _) <|hcal);simp only [DeedV.cells,f1,f2] at HCa;obtain ⟨m,hm⟩ : ∃ m,m = A'.length:=⟨_,rfl⟩;have hlen : m + 1<=l.length:=by rw [HAB.out,hm]; simp
      obtain ⟨g2,c2,hv2,hg1,hg2,hfz,⟨cs,hat,hcs⟩,hcell⟩:=HLr.out.cells (by simp);have hgg : g2 = g':=by simp at hv2; exact hv2.1.symm
      subst hgg;have hca:=hcell m a (by rw [hm]; simp);have HPa : Hid (plc a = [.int .i64 a.1.op.kind,.int .i64 a.1.op.key,.int .i64 a.1.op.value,.slice ya yn yc,.int .i64 a.1.a.err,.bool a.1.a.did,.int .i64 a.1.a.value,.int .i64 a.1.a.stamp,.slice za zn zc,.int .i64 a.1.frm,.int .i64 a.2]):=by show _ = _; simp only [plc,DeedV.cells,f1,f2,List.cons_append,List.nil_append]
      rw [HPa.out] at hca;have hkk : (Value.int .i64 ((A' ++ [a]).length : Nat) : Value) = .int .i64 ((m + 1 : Nat) : Int):=by rw [hm]; simp
      simp only [List.concat_eq_append] at *;rw [hkk];have HCA:=(mkH (∀ q u,_) <|hca);have HM:=(mkH (m = A'.length) <|hm);clear hcal hv2 hcell hca hkk hal hm f1 f2;go_wp2_with fail;refine wp_region_calm [7] 0 rfl (by kernel_rfl) (by kernel_rfl) (by kernel_rfl) (by decide) (by kernel_rfl) (by decide) ?_;intro U V hU hV;have hbu : ∀ u o,(V u).cell? ⟨bb,o,none⟩ = _:=fun u=>((hV u).at HBr.out (fun h=>h)).cell
      have q0 : ∀ u,(V u).cell? ⟨g2,m * 11,none⟩ = _:=fun u=>(hV u).keepCell (HCA.out 0 _ rfl)
      have q1 : ∀ u,(V u).cell? ⟨g2,m * 11 + 1,none⟩ = _:=fun u=>(hV u).keepCell (HCA.out 1 _ rfl)
      have q2 : ∀ u,(V u).cell? ⟨g2,m * 11 + 2,none⟩ = _:=fun u=>(hV u).keepCell (HCA.out 2 _ rfl)
      have q3 : ∀ u,(V u).cell? ⟨g2,m * 11 + 3,none⟩ = _:=fun u=>(hV u).keepCell (HCA.out 3 _ rfl)
      have q4 : ∀ u,(V u).cell? ⟨g2,m * 11 + 4,none⟩ = _:=fun u=>(hV u).keepCell (HCA.out 4 _ rfl)
      have q5 : ∀ u,(V u).cell? ⟨g2,m * 11 + 5,none⟩ = _:=fun u=>(hV u).keepCell (HCA.out 5 _ rfl)
      have q6 : ∀ u,(V u).cell? ⟨g2,m * 11 + 6,none⟩ = _:=fun u=>(hV u).keepCell (HCA.out 6 _ rfl)
      have q7 : ∀ u,(V u).cell? ⟨g2,m * 11 + 7,none⟩ = _:=fun u=>(hV u).keepCell (HCA.out 7 _ rfl)
      have q8 : ∀ u,(V u).cell? ⟨g2,m * 11 + 8,none⟩ = _:=fun u=>(hV u).keepCell (HCA.out 8 _ rfl)
      have q9 : ∀ u,(V u).cell? ⟨g2,m * 11 + 9,none⟩ = _:=fun u=>(hV u).keepCell (HCA.out 9 _ rfl)
      clear hV
      repeat (refine mix_read rfl rfl ?_; go_big_quiet_step (fail); refine wpQuiet_nil ?_)
      refine mix_effC (.bool (aheadD d a.1)) rfl rfl rfl ?_ ?_
      ·intro w' hw';go_simp;refine (HCa.out w').mono ?_;rintro e w'' ⟨rfl,hF⟩;exact ⟨rfl,hw'.trans hF⟩
      go_simp
      repeat (refine mix_read rfl rfl ?_; go_big_quiet_step (fail); refine wpQuiet_nil ?_)
      refine mix_nil ?_;intro w4 hF4;have HL4:=(mkH (LRow W w4 _ _) <|HLr.out.calm hF4);have HB4:=(mkH (At w4 bb _ 75) <|hF4.at HBr.out (fun h=>h));have HAt4:=(mkH (At w4 g2 cs 92) <|hF4.at hat (fun h=>h));have HC4:=(mkH (∀ q u,_->w4.cell? ⟨g2,m * 11 + q,none⟩ = some u) <|fun q u h=>hF4.keepCell (HCA.out q u h));have HLb:=(mkH (l.length + 1 = (A' ++ [a]).length + 1 + B.length) <|by show _ = _; rw [HAB.out]; simp; omega);clear hF4 hbu q0 q1 q2 q3 q4 q5 q6 q7 q8 q9 hat hfz hg1 hg2 HCa HBr HLr HCA;obtain ⟨bd,hbd⟩ : ∃ bd,Hid (aheadD d a.1 = bd):=⟨_,rfl⟩;rw [hbd.out];cases bd
      ·have HFin:=(mkH (OrdL D.deeds (k + 1) (A' ++ [a] ++ (d,k) :: B)) <|HPut.out (A' ++ [a]) B HAB.out HBb.out (fun x hx=>by simp at hx; rw [<- hx]; exact hbd.out));go_wp2
       go_roundw
       case rel=>exact ⟨k + 1,_,by omega,by go_num,HL4,HFin⟩
       case measure=>simp [intOf]; omega
      ·have c0:=HC4.out 0 _ rfl;have c1:=HC4.out 1 _ rfl;have c2:=HC4.out 2 _ rfl;have c3:=HC4.out 3 _ rfl;have c4:=HC4.out 4 _ rfl;have c5:=HC4.out 5 _ rfl;have c6:=HC4.out 6 _ rfl;have c7:=HC4.out 7 _ rfl;have c8:=HC4.out 8 _ rfl;have c9:=HC4.out 9 _ rfl;have c10:=HC4.out 10 _ rfl;simp only [Nat.add_zero] at c0;go_wp2_with (with_reducible refine only_store (t:=92) ?_)
       change wpList _ _ _ _ _ _
       refine wpList_storeAgg w4 rfl (.tmp 62) (.tmp 61) 92 rfl g2 ((m + 1) * 11) [.int .i64 a.1.op.kind,.int .i64 a.1.op.key,.int .i64 a.1.op.value,.slice ya yn yc,.int .i64 a.1.a.err,.bool a.1.a.did,.int .i64 a.1.a.value,.int .i64 a.1.a.stamp,.slice za zn zc,.int .i64 a.1.frm,.int .i64 a.2] ?hp ?hx ?hs cs 92 HAt4.out ?hf ?h1 ?h
       case hp=>go_simp
       case hx=>go_simp
       case hs=>exact Tryz.plc_size
       case hf =>
        have:=hcs
        simp only [List.length_append,List.length_cons,List.length_nil] at this ⊢
        have:=HM.out
        omega
       case h1=>simp [Value.oneCell']
       have HL5:=(mkH (LRow W (w4.setCells g2 ((m + 1) * 11) [.int .i64 a.1.op.kind,.int .i64 a.1.op.key,.int .i64 a.1.op.value,.slice ya yn yc,.int .i64 a.1.a.err,.bool a.1.a.did,.int .i64 a.1.a.value,.int .i64 a.1.a.stamp,.slice za zn zc,.int .i64 a.1.frm,.int .i64 a.2]) (.slice (some ⟨g2,0,none⟩) (l.length + 1) cap) (A' ++ [a] ++ a :: B)) <|by
        have h:=HL4.out;have e1 : l.length + 1 = (A' ++ [a] ++ (d,k) :: B).length:=by rw [HAB.out]; simp; omega
        rw [e1] at h;have h2:=h.put (y:=a);rw [HPa.out] at h2;have e2 : (A' ++ [a] ++ a :: B).length = l.length + 1:=by rw [HAB.out]; simp; omega
        rw [e2] at h2;have e3 : (A' ++ [a]).length = m + 1:=by rw [HM.out]; simp
        rw [e3] at h2;exact h2)
       have HB5:=(mkH (At (w4.setCells g2 ((m + 1) * 11) [.int .i64 a.1.op.kind,.int .i64 a.1.op.key,.int .i64 a.1.op.value,.slice ya yn yc,.int .i64 a.1.a.err,.bool a.1.a.did,.int .i64 a.1.a.value,.int .i64 a.1.a.stamp,.slice za zn zc,.int .i64 a.1.frm,.int .i64 a.2]) bb _ 75) <|(Fr.setCells (S:=fun q=>q = g2) rfl _ _ _ (Fr.refl _ w4)).at HB4.out hn3);generalize w4.setCells g2 ((m + 1) * 11) _ = w5 at *;clear c0 c1 c2 c3 c4 c5 c6 c7 c8 c9 c10 HC4 HB4 HAt4 HL4 hcs;obtain ⟨g5,_,hv5,_,_,_,⟨cs5,hat5,hcs5⟩,_⟩:=HL5.out.cells (by simp);have hgg : g5 = g2:=by simp at hv5; exact hv5.1.symm
       rw [hgg] at hat5;clear hgg;have hbc:=HB5.out.cell;have HAt5:=(mkH (At w5 _ cs5 92) <|hat5);clear hat5 hv5;go_wp2_with (with_reducible refine only_store (t:=92) ?_)
       change wpList _ _ _ _ _ _
       refine wpList_storeAgg w5 rfl (.tmp 70) (.tmp 69) 92 rfl g2 (m * 11) [.int .i64 d.op.kind,.int .i64 d.op.key,.int .i64 d.op.value,.slice xa xn xc,.int .i64 d.a.err,.bool d.a.did,.int .i64 d.a.value,.int .i64 d.a.stamp,.slice la ln lc,.int .i64 d.frm,.int .i64 k] ?hp ?hx ?hs cs5 92 HAt5.out ?hf ?h1 ?h
       case hp=>go_simp
       case hx=>go_simp
       case hs=>exact Tryz.plc_size
       case hf =>
        have:=hcs5
        simp only [List.length_append,List.length_cons,List.length_nil] at this ⊢
        have:=HM.out
        omega
       case h1=>simp [Value.oneCell']
       have HL6:=(mkH (LRow W (w5.setCells g2 (m * 11) [.int .i64 d.op.kind,.int .i64 d.op.key,.int .i64 d.op.value,.slice xa xn xc,.int .i64 d.a.err,.bool d.a.did,.int .i64 d.a.value,.int .i64 d.a.stamp,.slice la ln lc,.int .i64 d.frm,.int .i64 k]) (.slice (some ⟨g2,0,none⟩) (l.length + 1) cap) (A' ++ (d,k) :: a :: B)) <|by
        have h:=HL5.out;rw [show A' ++ [a] ++ a :: B = A' ++ a :: a :: B by simp] at h;have e1 : l.length + 1 = (A' ++ a :: a :: B).length:=by rw [HAB.out]; simp; omega
        rw [e1] at h;have h2:=h.put (y:=(d,k));rw [HPd.out] at h2;have e2 : (A' ++ (d,k) :: a :: B).length = l.length + 1:=by rw [HAB.out]; simp; omega
        rw [e2,<- HM.out] at h2;exact h2)
       have HB6:=(mkH (At (w5.setCells g2 (m * 11) [.int .i64 d.op.kind,.int .i64 d.op.key,.int .i64 d.op.value,.slice xa xn xc,.int .i64 d.a.err,.bool d.a.did,.int .i64 d.a.value,.int .i64 d.a.stamp,.slice la ln lc,.int .i64 d.frm,.int .i64 k]) bb _ 75) <|(Fr.setCells (S:=fun q=>q = g2) rfl _ _ _ (Fr.refl _ w5)).at HB5.out hn3);generalize w5.setCells g2 (m * 11) _ = w6 at *;have HAB6 : Hid (l = A' ++ a :: B):=by show _ = _; rw [HAB.out]; simp
       have HBb6 : Hid (∀ b ∈ a :: B,aheadD d b.1 = true):=by
        intro b hb;rcases List.mem_cons.1 hb with rfl | hb
        ·exact hbd.out
        ·exact HBb.out b hb
       clear hbc HL5 HB5 HAt5 hcs5;simp only [Act.put];go_wp2
       go_roundw
       case rel=>exact ⟨A',a :: B,by rw [<- HM.out],HAB6,HBb6,HL6,HB6⟩
       case measure=>simp [intOf]
   ·have he' : (d.a.err != 0) = true:=by simpa using he
    have HRk:=(mkH (Calls _ _ _ _ _) <|HRf.out k d _ HX.out he (HL.out.fr.alloc (.cells d.cells.toArray 75)));have HSk:=(mkH (OrdL D.deeds (k + 1) l) <|HO.out.skip HX.out he);simp only [DeedV.cells,e1,e2] at HRk;clear he;go_wp2_with fail;refine Calls.mono HRk.out ?_;rintro r w1 ⟨rfl,hF1⟩;have HL1:=(mkH (LRow W w1 _ l) <|HL.out.calm (((Fr.refl _ _).alloc _).trans hF1));clear hF1 HRk;go_wp2
    go_roundw
    case rel=>exact ⟨k + 1,l,by omega,by go_num,HL1,HSk⟩
    case measure=>simp [intOf]; omega
  ·have hke : k = dl:=by omega
   subst hke;go_wp2;go_ret2;exact ⟨_,l,rfl,HL.out,by rw [<- HDl.out]; exact HO.out⟩
end
end
section
open Go.RowKit
open Go.Proofs.YtfccelbmacjifabGreat.T (OrdJ OrdB OrdL OrdC FairEnd FairD Pre okT okN okE tookD aheadD rk Tm ahead_rk proper_whole ord_plays)
section
variable {own : Own} {z : Nat} {W w w1 : World} {pb : Nat} {D : PlD} {N E L T c c' puts takes : Int} {Rt : Int->List (Int × Int)} {ds : List DeedV} {A B l : List (DeedV × Nat)} {v : Value} {sb : Nat}
theorem LRow.keep (h : LRow W w v l) (hf : Fr (fun k=>k = sb) w w1) (hs : w.heap.size<=sb\/∀ k,v.ownBlock = some k->k≠sb) (hW : W.heap.size<=sb) : LRow W w1 v l:=by
 refine ⟨hf.owns h.row ?_,h.new,Fr.transNew h.fr hf (fun i hi=>.inr (by rw [hi]; exact hW))⟩;intro k hk e;rcases hs with q | q
 ·have:=ownsRow_lt h.row hk; omega
 ·exact q k hk e
def ShOn (w : World) (sb : Nat) (ps : List (Int × Int)) : Prop:=∃ a c,ShAt w sb a c ps/\∀ g,a = some ⟨g,0,none⟩->sb < g/\g < w.heap.size
theorem ShOn.calm {ps : List (Int × Int)} (h : ShOn w sb ps) (hf : Fr (fun _=>False) w w1) : ShOn w1 sb ps:=by
 obtain ⟨a,c,h1,h2⟩:=h;exact ⟨a,c,h1.calm hf,fun g hg=>⟨(h2 g hg).1,Nat.lt_of_lt_of_le (h2 g hg).2 hf.size⟩⟩
theorem DoesTo.read {ps spans : List (Int × Int)} {kind key value : Int} {va : Option Addr} {vn vc : Nat} (h : DoesTo w w1 sb ps kind key value spans (.slice va vn vc)) : ((shAns ps kind key spans).spans = []->Value.slice va vn vc = .slice none 0 0)/\vn = (shAns ps kind key spans).spans.length/\ReadLists w1 va (shAns ps kind key spans).spans:=by
 cases hu : shUpd ps kind key
 ·have hO:=h.no hu;obtain ⟨_,_,hL⟩:=hO.lists own00 0;exact ⟨hO.nil,hL.read⟩
 ·obtain ⟨hv,_⟩:=h.yes hu;have h12 : kind = 1\/kind = 2:=by
   have:=hu
   simp only [shUpd,Bool.or_eq_true,Bool.and_eq_true,beq_iff_eq] at this;omega
  have hsp : (shAns ps kind key spans).spans = []:=by
   unfold shAns;rw [if_neg (by omega),if_neg (by omega),if_pos hu]
  obtain ⟨rfl,rfl,rfl⟩ : va = none/\vn = 0/\vc = 0:=by simpa using hv
  rw [hsp];exact ⟨fun _=>rfl,rfl,fun i l hl=>by simp at hl⟩
theorem DoesTo.sheet {ps spans : List (Int × Int)} {kind key value : Int} {v : Value} {a : Option Addr} {c : Nat} (h : DoesTo w w1 sb ps kind key value spans v) (hs : ShAt w sb a c ps) (hg : ∀ g,a = some ⟨g,0,none⟩->sb < g/\g < w.heap.size) : ShOn w1 sb (shNew ps kind key value):=by
 cases hu : shUpd ps kind key
 ·have hO:=h.no hu;have e : shNew ps kind key value = ps:=by unfold shNew; rw [hu]; rfl
  rw [e];exact ⟨a,c,hs.calm hO.fr,fun g hq=>⟨(hg g hq).1,Nat.lt_of_lt_of_le (hg g hq).2 hO.fr.size⟩⟩
 ·obtain ⟨_,_,a',c',h1,h2⟩:=h.yes hu
  have:=hs.1.lt
  exact ⟨a',c',h1,fun g hq=>⟨by have:=(h2 g hq).1; omega,(h2 g hq).2⟩⟩
theorem fair_calls (hP : PlAt own z W pb D) (hc : D.k = 1/\D.t = T/\D.n = N/\D.e = E/\D.l = L) (hp : 0<=D.puts/\D.puts<=2 ^ 37) (ht : 0<=D.takes/\D.takes<=2 ^ 37) (hdl : D.deeds.length<=2 ^ 37) (hne : D.deeds≠[]) (hN : N<=64) (hcl : D.P.clock<=2 ^ 41) (hF : FairEnd Rt D.deeds D.P.clock N E L D.puts D.takes) :
  Calls Tryz.prog 31 #[pv pb] W fun r w'=>r = .returned (.bool true)/\Fr (fun _=>False) W w':=by
 have HOr:=(mkH (Calls _ _ _ _ _) <|order_calls hP hc hp ht hdl hne (fun n d hd he=>by
  rcases hF.fd n d hd with q | q | q
  ·exact absurd q.took.2 he
  ·exact absurd q.2.2.2.1 he
  ·exact q) hF.pd)
 have HP:=(mkH (PlAt own z W pb D) <|hP);have HF:=(mkH (FairEnd Rt D.deeds D.P.clock N E L D.puts D.takes) <|hF);have HDl:=(mkH (D.deeds.length<=2 ^ 37) <|hdl);clear hP hc hp ht hdl hne hF;unfold pv at HOr ⊢
 go_enter Tryz.func31,Tryz.ntmps31
 go_wp2_with fail;refine Calls.mono HOr.out ?_;rintro r w1 ⟨v,l,rfl,hL,hO⟩;obtain ⟨va,vc,rfl⟩:=ownsShape hL.row;have hll : l.length<=2 ^ 37:=Nat.le_trans hO.len HDl.out;have HL:=(mkH (LRow W w1 _ l) <|hL);have HO:=(mkH (OrdL D.deeds D.deeds.length l) <|hO);clear hL hO HOr;obtain ⟨sb,hsb⟩ : ∃ sb,sb = w1.heap.size:=⟨_,rfl⟩;have hS2 : ShOn (w1.alloc (.cells #[.slice none 0 0] 49)) sb (Rt 0):=by
  refine ⟨none,0,⟨?_,?_⟩,fun g hg=>by cases hg⟩
  ·rw [HF.out.r0,hsb]; exact At.new w1 _ _
  ·rw [HF.out.r0]; intro i p hp; simp at hp
 have HSB:=(mkH (sb = w1.heap.size) <|hsb);have HS2:=(show Hid _ from hS2);clear hS2;have hA0:=(mkH (Pre [] 0) <|Go.Proofs.YtfccelbmacjifabGreat.T.Pre.none);go_wp2;generalize hw2 : World.alloc _ _ = w2 at *;have HF2:=(mkH (Fr (fun _=>False) w1 w2) <|by rw [<- hw2]; exact (Fr.refl _ _).alloc _);clear hw2;simp only [<- hsb];clear hsb
 go_loopw [6,7] (fun n i wr=>∃ (A B : List (DeedV × Nat)) (c' : Int),n = .int .i64 c'/\i = .int .i64 A.length/\Hid (l = A ++ B)/\Hid (Pre A c')/\Hid (ShOn wr sb (Rt c'))/\Hid (Fr (fun k=>k = sb) w2 wr)) (fun _ i _=>l.length - (intOf i).toNat)
 case atStart=>exact ⟨[],l,0,rfl,rfl,rfl,hA0,HS2,Fr.refl _ _⟩
 case round =>
  obtain ⟨A,B,c',rfl,rfl,HAB,HPre,HSh,HFr⟩:=hrel;have hW1 : W.heap.size<=sb:=by rw [HSB.out]; exact HL.out.fr.size
  have HLr:=(mkH (LRow W wr _ l) <|(HL.out.calm HF2.out).keep HFr.out (.inr (fun k hk=>by have:=ownsRow_lt HL.out.row hk; rw [HSB.out]; omega)) hW1);have hOAB:=HO.out;rw [HAB.out] at hOAB;have hcc:=HF.out.pre_le hOAB HPre.out;have hc0:=HPre.out.1;cases B with
  | nil =>
   have hAl : l = A:=by rw [HAB.out,List.append_nil]
   have hlast : c' = D.P.clock:=HF.out.last (by rw [<- hAl]; exact HO.out) HPre.out;have hPr:=HP.out.calm HLr.out.fr;have ha:=hPr.at_.cell;simp only [PlD.cells,pv] at ha;have HCk:=(mkH (Calls _ _ _ _ _) <|ZClock_calls hPr.st);have HFin:=(mkH (Fr (fun _=>False) W wr) <|HLr.out.fr);have HLa:=(mkH (c' = D.P.clock) <|hlast);rw [<- hAl];clear hAl hPr hlast;go_wp2_with fail;refine Calls.mono HCk.out ?_;rintro r w3 ⟨rfl,rfl⟩;rw [<- HLa.out];go_wp2;go_ret;exact ⟨by simp,HFin.out⟩
  | cons x B' =>
   obtain ⟨d,n⟩:=x;obtain ⟨m,hm⟩ : ∃ m,m = A.length:=⟨_,rfl⟩;have hlm : m + 1 + B'.length = l.length:=by rw [HAB.out,hm]; simp; omega
   obtain ⟨_,n2,n3⟩:=(hOAB.mem d n).1 (by simp);have hdm:=List.mem_of_getElem? n2;have hPr:=HP.out.calm HLr.out.fr;have hdk:=hPr.dok d hdm;obtain ⟨xa,xc,hsv⟩:=ownsShape hdk.1.row;obtain ⟨la,lc,hav⟩ : ∃ la lc,d.av = .slice la d.a.spans.length lc:=by
    obtain ⟨ins,_,h2,_⟩:=hdk.2.1.top;exact ownsShape h2.row
   obtain ⟨g2,c2,hv2,hg1,hg2,hfz,_,hcell⟩:=HLr.out.cells (by rw [HAB.out]; simp);obtain ⟨rfl,rfl⟩ : va = some ⟨g2,0,none⟩/\vc = c2:=by simpa using hv2
   have hca:=hcell m (d,n) (by rw [HAB.out,hm]; simp);have hpd : plc (d,n) = [.int .i64 d.op.kind,.int .i64 d.op.key,.int .i64 d.op.value,.slice xa d.op.spans.length xc,.int .i64 d.a.err,.bool d.a.did,.int .i64 d.a.value,.int .i64 d.a.stamp,.slice la d.a.spans.length lc,.int .i64 d.frm,.int .i64 n]:=by simp only [plc,DeedV.cells,hsv,hav,List.cons_append,List.nil_append]
   rw [hpd] at hca;have c0:=hca 0 _ rfl;have c1:=hca 1 _ rfl;have c2:=hca 2 _ rfl;have c3:=hca 3 _ rfl;have c4:=hca 4 _ rfl;have c5:=hca 5 _ rfl;have c6:=hca 6 _ rfl;have c7:=hca 7 _ rfl;have c8:=hca 8 _ rfl;have c9:=hca 9 _ rfl;simp only [Nat.add_zero] at c0;have HLt:=(mkH (∀ (q : Nat) e,l[q]? = some e->m + 1<=q->¬ (e.2 : Int) < d.frm) <|fun q e hq hmq=>by
    have : (e.1,e.2) ∈ B':=by
     rw [HAB.out,List.getElem?_append_right (by omega),<- hm] at hq;obtain ⟨p,hp⟩ : ∃ p,q - m = p + 1:=⟨q - m - 1,by omega⟩;rw [hp] at hq;exact List.mem_of_getElem? hq
    exact HF.out.later hOAB this)
   have HNx:=(show Hid _ from HF.out.next hOAB HPre.out);have HPp:=(mkH (properB d.op.kind d.op.key d.op.spans = true) <|HF.out.pd n d n2);have HDk:=(mkH (DeedOk own (z + 1) wr d) <|hdk);have HDW:=(mkH (DeedOk own (z + 1) W d) <|HP.out.dok d hdm);have HSm:=(mkH ((Rt c').length<=2 ^ 20) <|by
    have:=HF.out.sm c' hc0 hcc
    show _<=_;omega)
   have HEr:=(mkH (d.a.err = 0) <|n3);have HSv:=(mkH (d.op.sv = .slice xa d.op.spans.length xc) <|hsv);have HAv:=(mkH (d.av = .slice la d.a.spans.length lc) <|hav);have HM:=(mkH (m = A.length) <|hm);have HC:=(mkH (∀ (k : Nat) x,l[k]? = some x->_) <|hcell);have hmm : (Value.int .i64 (A.length : Nat) : Value) = .int .i64 (m : Int):=by rw [hm]
   have hml : m < l.length:=by omega
   have HLm:=(mkH (m + 1 + B'.length = l.length) <|hlm);rw [hmm];clear hm hmm hca hpd hcell hv2 hdk hPr n2 n3 hdm hOAB hlm hfz hsv hav;obtain ⟨db,hdb⟩ : ∃ db,db = wr.heap.size:=⟨_,rfl⟩;go_wp2;generalize hw3 : World.alloc _ _ = w3;have HB3:=(mkH (At w3 db [.int .i64 d.op.kind,.int .i64 d.op.key,.int .i64 d.op.value,.slice xa d.op.spans.length xc,.int .i64 d.a.err,.bool d.a.did,.int .i64 d.a.value,.int .i64 d.a.stamp,.slice la d.a.spans.length lc,.int .i64 d.frm] 75) <|by rw [<- hw3,hdb]; exact At.new wr _ _);have HF3:=(mkH (Fr (fun _=>False) wr w3) <|by rw [<- hw3]; exact (Fr.refl _ _).alloc _);have HDb:=(mkH (db = wr.heap.size) <|hdb);simp only [<- hdb];clear hw3 hdb c0 c1 c2 c3 c4 c5 c6 c7 c8 c9
   go_loopw [9] (fun j wr2=>∃ q : Nat,m + 1<=q/\q<=l.length/\j = .int .i64 q/\Hid (Fr (fun _=>False) w3 wr2)) (fun j _=>l.length - (intOf j).toNat)
   case atStart=>exact ⟨m + 1,Nat.le_refl _,by omega,by go_num,Fr.refl _ _⟩
   case round =>
    obtain ⟨q,hq1,hq2,rfl,HFq⟩:=hrel;by_cases hql : q < l.length
    ·obtain ⟨e,he⟩ : ∃ e,l[q]? = some e:=⟨_,List.getElem?_eq_getElem hql⟩;have hlate:=HLt.out q e he hq1;have hd' : decide ((e.2 : Int) < d.frm) = false:=by simpa using hlate
     have ce:=(HF3.out.trans HFq.out).keepCell (HC.out q e he 10 (.int .i64 e.2) rfl);have hbc:=(HFq.out.at HB3.out (fun h=>h)).cell;have HFe:=(mkH (Fr (fun _=>False) w3 wr.drew) <|HFq.out.drew);clear hlate he;go_wp2_with fail;go_region;go_wp2
     go_roundw
     case rel=>exact ⟨q + 1,by omega,by omega,by go_num,HFe⟩
     case measure=>simp [intOf]; omega
    ·have hqe : q = l.length:=by omega
     have HB4:=(mkH (At wr db _ 75) <|HFq.out.at HB3.out (fun h=>h));have HF4:=(mkH (Fr (fun _=>False) _ wr) <|HF3.out.trans HFq.out);obtain ⟨sa,sc,hsh,hsg⟩:=HSh.out;have hsd : sb < db:=by rw [HDb.out]; exact hsh.1.lt
     have hsh4:=hsh.calm HF4.out;have hop:=HDk.out.1;unfold OpOk at hop;rw [HSv.out] at hop;have HDo:=(mkH (Calls _ _ _ _ _) <|does_calls hsh4 d.op.kind d.op.key d.op.value xa xc d.op.spans ((PairsAt.ofRow hop).calm HF4.out) HSm.out HPp.out);have HSg:=(mkH (∀ g,sa = some ⟨g,0,none⟩->sb < g/\g < db) <|fun g hg=>by rw [HDb.out]; exact hsg g hg);have HS4:=(mkH (ShAt wr sb sa sc (Rt c')) <|hsh4);have hsc:=hsh4.1.cell;have hbc:=HB4.out.cell;have hb4:=HB4.out.lt;clear hop hsh hsh4 hsg;unfold pv opVal at HDo;go_wp2_with fail;refine Calls.mono HDo.out ?_;rintro r w5 ⟨va',vn,vc',rfl,hD⟩;have HF5 : Hid (Fr (fun k=>k = sb) wr w5):=by
      cases hu : shUpd (Rt c') d.op.kind d.op.key
      ·exact Fr.mono (hD.no hu).fr (fun _ _ h=>h.elim)
      ·exact (hD.yes hu).2.1
     have HD:=(mkH (DoesTo wr w5 sb (Rt c') d.op.kind d.op.key d.op.value d.op.spans (.slice va' vn vc')) <|hD);have HB5:=(mkH (At w5 db _ 75) <|HF5.out.at HB4.out (by omega));obtain ⟨SA,hSA⟩ : ∃ SA,Hid (SA = shAns (Rt c') d.op.kind d.op.key d.op.spans):=⟨_,rfl⟩;rw [<- hSA.out];have hbc:=HB5.out.cell;have hb5:=HB5.out.lt;have hdn : db≠w5.heap.size:=by omega
     clear hD HDo hsc;have HEq:=(mkH (d.a = { SA with stamp:=d.a.stamp }) <|by
      show _ = _;rw [hSA.out]; exact HNx.out.2.2.2.1)
     have HFW5:=(mkH (Fr (fun _=>False) W w5) <|Fr.transNew (HLr.out.fr.trans HF4.out) HF5.out (fun i hi=>.inr (by rw [hi]; exact hW1)));have HSame:=(mkH (∀ ob,Calls Tryz.prog 38 #[.agg #[.int .i64 d.a.err,.bool d.a.did,.int .i64 d.a.value,.int .i64 d.a.stamp,.slice la d.a.spans.length lc],.agg #[.int .i64 SA.err,.bool SA.did,.int .i64 SA.value,.int .i64 d.a.stamp,.slice va' vn vc']] (w5.alloc ob) _) <|fun ob=>by
      have f1 : d.a.err = SA.err:=by have h:=congrArg BAns.err HEq.out; exact h
      have f2 : d.a.did = SA.did:=by have h:=congrArg BAns.did HEq.out; exact h
      have f3 : d.a.value = SA.value:=by have h:=congrArg BAns.value HEq.out; exact h
      have f4 : d.a.spans = SA.spans:=by have h:=congrArg BAns.spans HEq.out; exact h
      obtain ⟨r1,r2,r3⟩:=HD.out.read;rw [<- hSA.out,<- f4] at r1 r2 r3;rw [<- f1,<- f2,<- f3];have hl:=HDW.out.2.1;have hn:=hl.nil;rw [HAv.out] at hl hn;exact sameAnswers_eq d.a (w5.alloc ob) la va' _ vn lc vc' HDW.out.2.2 hn r1 ((hl.fr (HFW5.out.alloc ob) (Ext.refl _ _) (fun _ _ h=>h)).read) ⟨r2,r3.calm ((Fr.refl _ _).alloc ob)⟩)
     have HTk:=(mkH (∀ w',Calls Tryz.prog 39 #[.agg #[.int .i64 d.op.kind,.int .i64 d.op.key,.int .i64 d.op.value,.slice xa d.op.spans.length xc,.int .i64 d.a.err,.bool d.a.did,.int .i64 d.a.value,.int .i64 d.a.stamp,.slice la d.a.spans.length lc,.int .i64 d.frm]] w' _) <|fun w'=>by
      have h:=tookD_calls d ⟨xa,_,xc,la,_,lc,HSv.out,HAv.out⟩ w';simp only [DeedV.cells,HSv.out,HAv.out] at h;exact h)
     have HSh5:=(mkH (ShOn w5 sb (shNew (Rt c') d.op.kind d.op.key d.op.value)) <|HD.out.sheet HS4.out (fun g hg=>⟨(HSg.out g hg).1,by have:=(HSg.out g hg).2; omega⟩));simp only [ansV];go_wp2_with fail;refine Calls.mono (HSame.out _) ?_;rintro r w7 ⟨rfl,hF7⟩;have HF7:=(mkH (Fr (fun _=>False) w5 w7) <|((Fr.refl _ _).alloc _).trans hF7);have hbc:=(HF7.out.at HB5.out (fun h=>h)).cell;clear hF7 HSame hb5 hdn;go_wp2_with fail;refine Calls.mono (HTk.out _) ?_;rintro r w8 ⟨rfl,hF8⟩;have HF8:=(mkH (Fr (fun _=>False) w5 w8) <|HF7.out.trans hF8);have HB8:=(mkH (At w8 db _ 75) <|HF8.out.at HB5.out (fun h=>h));have HSh8:=(mkH (ShOn w8 sb (shNew (Rt c') d.op.kind d.op.key d.op.value)) <|HSh5.out.calm HF8.out);have HFr8:=(mkH (Fr (fun k=>k = sb) w2 w8) <|((HFr.out.trans (Fr.mono HF4.out (fun _ _ h=>h.elim))).trans HF5.out).trans (Fr.mono HF8.out (fun _ _ h=>h.elim)));have HAB8 : Hid (l = (A ++ [(d,n)]) ++ B'):=by show _ = _; rw [HAB.out]; simp
     have hbc:=HB8.out.cell;clear hF8 HF7 HTk HB5 HF8;have HN2:=HNx.out;cases tk : tookD d
     ·rw [tk] at HN2;simp only [Bool.false_eq_true,if_false] at HN2;have HSh9:=(mkH (ShOn w8 sb (Rt c')) <|by rw [HN2.2.2.1]; exact HSh8.out);have HPre9:=(mkH (Pre (A ++ [(d,n)]) c') <|HN2.2.1);have hmm : ((A ++ [(d,n)]).length : Nat) = m + 1:=by rw [HM.out]; simp
      have HMm:=(mkH (((A ++ [(d,n)]).length : Nat) = m + 1) <|hmm);clear HN2 tk hmm;go_wp2
      go_roundw
      case rel=>exact ⟨A ++ [(d,n)],B',c',rfl,by rw [HMm.out]; go_num,HAB8,HPre9,HSh9,HFr8⟩
      case measure=>simp [intOf]; omega
     ·rw [tk] at HN2;simp only [if_true] at HN2;have HSh9:=(mkH (ShOn w8 sb (Rt (c' + 1))) <|by rw [HN2.2.2.1]; exact HSh8.out);have HPre9:=(mkH (Pre (A ++ [(d,n)]) (c' + 1)) <|HN2.2.1);have hst : (d.a.stamp != c' + 1) = false:=by simpa using HN2.1
      have hmm : ((A ++ [(d,n)]).length : Nat) = m + 1:=by rw [HM.out]; simp
      have HMm:=(mkH (((A ++ [(d,n)]).length : Nat) = m + 1) <|hmm);clear HN2 tk hmm;go_wp2
      go_roundw
      case rel=>exact ⟨A ++ [(d,n)],B',c' + 1,rfl,by rw [HMm.out]; go_num,HAB8,HPre9,HSh9,HFr8⟩
      case measure=>simp [intOf]; omega
end
end
section
open Go.RowKit
open Go.Proofs.YtfccelbmacjifabGreat.T (OrdJ OrdB OrdL OrdC FairEnd FairD Pre okT okN okE tookD aheadD rk Tm ahead_rk proper_whole ord_plays)
theorem ltordered_calls (k t n e l : Int) (W : World) (sa : Option Addr) (c : Nat) (acts : List ActD) (rt : rawI t) (rn : rawI n) (re : rawI e) (rl : rawI l) (hlen : acts.length<=2 ^ 20) (hacts : ∀ i a,acts[i]? = some a->ActIn W sa i a/\a.sn<=2 ^ 20) :
  Calls Tryz.prog 12 #[cfg k t n e l,.slice sa acts.length c,.int .i64 1] W fun r W'=>r = .returned (.bool true)/\Fr (fun _=>False) W W':=by
 obtain ⟨hok,hT1⟩:=cfg_ok 1 1 t n e l (.inr rfl) (.inl rfl);have HCf:=(mkH (∀ w,Calls Tryz.prog 15 #[cfg k t n e l,.int .i64 1,.int .i64 1] w _) <|fun w=>config_calls k t n e l 1 1 w rt rn re rl (.inl rfl));generalize cT 1 t = T at *;generalize cN n = N at *;generalize cE e = E at *;generalize cL l = L at *;have hb : (1<=T/\T<=8)/\(0<=N/\N<=64)/\(1<=E/\E<=256)/\(0<=L/\L<=1099511627776):=by
  simp only [okCfg,Bool.and_eq_true,isIn_iff] at hok;omega
 have HB:=(mkH ((1<=T/\T<=8)/\(0<=N/\N<=64)/\(1<=E/\E<=256)/\(0<=L/\L<=1099511627776)) <|hb);obtain ⟨bb,hbb⟩ : ∃ bb : Nat,Hid (bb = 400 * acts.length/\bb + 70000<=2 ^ 36):=⟨_,rfl,by omega⟩;have HPd:=(mkH (∀ w,Fr (fun _=>False) W w->Calls Tryz.prog 26 #[cfg 1 T N E L,.slice sa acts.length c,.int .i64 ((0 : Nat) : Int)] w fun r W'=>∃ pb,r = .returned (pv pb)/\PlOn w W' pb (fun D=>OrdJ T N E L D/\Sz bb D)) <|by
  intro w hw;rw [hbb.out.1];exact played_calls ord_plays (fun D hD=>Go.Proofs.YtfccelbmacjifabGreat.T.OrdJ.fresh hb.2.1.1 hb.2.2.1.1 hb.2.2.2.1 hD) hok (by omega) w sa c acts hlen (fun i a ha=>⟨(hacts i a ha).1.keep hw,(hacts i a ha).2⟩))
 clear hok hacts hb rt rn re rl hT1 hlen;unfold cfg at HCf HPd ⊢;simp only [Int.ofNat_zero,Int.natCast_zero] at HPd
 go_enter Tryz.func12,Tryz.ntmps12
 go_wp2_with fail;refine Calls.mono (HCf.out _) ?_;rintro r w1 ⟨rfl,hF1⟩;have HF1:=(mkH (Fr (fun _=>False) W w1) <|((Fr.refl _ _).alloc _).trans hF1);clear hF1 HCf;go_wp2_with fail;refine Calls.mono (HPd.out w1 HF1.out) ?_;rintro r w2 ⟨pb,rfl,hOn⟩;obtain ⟨own,D,hP,hE,hF,hj,hS⟩:=hOn;have HC:=(mkH (Calls _ _ _ _ _) <|Pfinish_calls (f:=0) ord_plays hP hj hS (by have:=hbb.out.2; omega) (by have:=HB.out.1; omega) HB.out.2.1);have HX:=(mkH (Ext own00 own w1/\Fr (fun _=>False) w1 w2) <|⟨hE,hF⟩);clear hP hE hF hj hS HPd;unfold pv at HC ⊢;simp only [Int.ofNat_zero,Int.natCast_zero] at HC;go_wp2_with fail;refine Calls.mono HC.out ?_;rintro r w3 ⟨rfl,hg⟩;have HOn3:=(mkH (PlOn w1 w3 pb _) <|PlOn.goes HX.out.1 HX.out.2 hg);clear hg HC HX;go_wp2_with fail;refine Calls.mono (whole_calls w3) ?_;rintro r w6 ⟨va,vc,rfl,hO⟩;have HO:=(mkH (OwnSpans w3 w6 _ _) <|hO);clear hO;simp only [opVal];go_wp2_with fail;generalize hw7 : World.alloc _ _ = w7;have hf7 : Fr (fun _=>False) w6 w7:=by rw [<- hw7]; exact (Fr.refl _ _).alloc _
 clear hw7;obtain ⟨own5,D5,hP5,hE5,hF5,hj5,hS5,hst5⟩:=HOn3.out;obtain ⟨own7,hP7,hE7,hop7⟩:=hP5.boxes (HO.out.fr.trans hf7) (HO.out.keep hf7) (Nat.le_refl _) ⟨4,0,0,[(0,1099511627776)],.slice va 1 vc⟩ rfl rfl;have HC7:=(mkH (Calls _ _ _ _ _) <|ord_begin hP7 hj5 hst5 hS5 HB.out.1.1 (by have:=hbb.out.2; omega) va vc hop7);have HX7:=(mkH (Ext own00 own7 w1/\Fr (fun _=>False) w1 w7) <|⟨Ext.trans hE5 hE7 hF5.size,hF5.trans (HO.out.fr.trans hf7)⟩);clear hf7 hP5 hE5 hF5 hj5 hS5 hst5 hP7 hE7 hop7 HOn3 HO;unfold pv opVal at HC7;simp only [Int.ofNat_zero,Int.natCast_zero] at HC7;go_wp2_with fail;refine Calls.mono HC7.out ?_;rintro r w8 ⟨rfl,hg⟩;obtain ⟨own8,D8,hP8,hE8,hF8,hB8⟩:=PlOn.goes HX7.out.1 HX7.out.2 hg;have HC8:=(mkH (Calls _ _ _ _ _) <|ord_solo hP8 hB8 (by have:=hbb.out.2; omega) HB.out.2.1);have HX8:=(mkH (Ext own00 own8 w1/\Fr (fun _=>False) w1 w8) <|⟨hE8,hF8⟩);clear hP8 hE8 hF8 hB8 hg HC7 HX7;unfold pv at HC8;simp only [Int.ofNat_zero,Int.natCast_zero] at HC8;go_wp2_with fail;refine Calls.mono HC8.out ?_;rintro r w9 ⟨rfl,hg⟩;obtain ⟨own9,D9,hP9,hE9,hF9,hj9,hst9,hs9,hne9⟩:=PlOn.goes HX8.out.1 HX8.out.2 hg;clear hg HC8 HX8;obtain ⟨Rt,hFE⟩:=hj9.fair hst9;have hck:=hP9.fit.clk;have hlim:=hj9.lim;have HC9:=(mkH (Calls _ _ _ _ _) <|by
  unfold Sz at hs9;have hbz:=hbb.out.2;have hL:=HB.out.2.2.2;exact fair_calls hP9 hj9.cfg (by omega) (by omega) (by omega) hne9 HB.out.2.1.2 (by omega) hFE)
 have HF9:=(mkH (Fr (fun _=>False) W w9) <|HF1.out.trans hF9);clear hP9 hE9 hF9 hj9 hst9 hs9 hne9 hFE hck hlim;unfold pv at HC9;go_wp2_with fail;refine Calls.mono HC9.out ?_;rintro r w10 ⟨rfl,hF10⟩;have HF10:=(mkH (Fr (fun _=>False) W w10) <|HF9.out.trans hF10);clear hF10;go_wp2;go_ret;exact ⟨rfl,HF10.out⟩
end
section
open Go.RowKit
theorem tordered_any : LawHolds 6:=by
 intro k t n e l W sa c acts rt rn re rl hlen hacts;have HA:=(mkH (Calls Tryz.prog 12 #[cfg k t n e l,.slice sa acts.length c,.int .i64 1] (W.alloc (.cells #[.int .i64 k,.int .i64 t,.int .i64 n,.int .i64 e,.int .i64 l] 23)) _) <|ltordered_calls k t n e l _ sa c acts rt rn re rl hlen (fun i a ha=>⟨(hacts i a ha).1.keep ((Fr.refl _ _).alloc _),(hacts i a ha).2⟩));clear hacts;unfold cfg at HA ⊢
 go_enter Tryz.func6,Tryz.ntmps6
 go_wp2_with fail;refine Calls.mono HA.out ?_;rintro r w1 ⟨rfl,hF1⟩;have HF:=(mkH (Fr (fun _=>False) W w1) <|((Fr.refl _ _).alloc _).trans hF1);clear hF1 HA;go_wp2;go_ret;exact ⟨rfl,HF.out⟩
end
section
open Go.ChangeShapes Go.WideShapes Go.ChangeAt Go.RowKit Go.Joins Go.Deep
theorem tordered_contract (hany : LawHolds 6) (H : Type) (enc : TypeId × Value->H) (W : World) (base : Nat) (args : Array Value) (ds gs : List (DataW H)) (before : List MemPlace)
  (hval0 : ∀ (j : Nat) t v,Tryz.f6.params[j]? = some t->args[j]? = some v->Value.okWide Tryz.prog W .any base t v)
  (hW : DataW.Whole enc Tryz.prog Tryz.f6.params.toList Rows.treeOrderedSpec.vars false W args.toList ds gs before) (hk : Rows.uptoSmall H (ds ++ gs) = true) :
  Calls Tryz.prog 6 args W fun e W'=>∃ v,e = .returned v/\Rows.treeOrderedSpec.post enc Tryz.prog Tryz.f6 false true false false W args v W':=by
 have hval : ∀ (j : Nat) t v,Tryz.f6.params[j]? = some t->args[j]? = some v->Value.okWide Tryz.prog W .any base t v:=hval0;have hW':=hW;obtain ⟨p,q,hA0,hV,rfl,_,_⟩:=hW;have hA : DataW.TrodAll enc Tryz.prog W 0 (fun _=>true) true Tryz.f6.params.toList args.toList ds p:=hA0;rw [Tryz.params6] at hA hval;obtain ⟨v0,vs0,d0,ds0,p0,q0,hargs,rfl,rfl,h0,r0⟩:=trodAll_cons hA;obtain ⟨v1,vs1,d1,ds1,p1,q1,hargs1,rfl,rfl,h1,r1⟩:=trodAll_cons r0;obtain ⟨rfl,rfl,rfl⟩:=trodAll_nil r1;obtain rfl : args = #[v0,v1]:=by cases args; simp_all
 obtain ⟨rfl,rfl⟩:=trodVars_none hV;have k0:=h0;have k1:=h1;have lt0 : ∀ x ∈ p0,x.block < W.heap.size:=by obtain ⟨m,hm⟩:=k0; exact DataW.trod_lt m _ _ _ hm
 have lt1 : ∀ x ∈ p1,x.block < W.heap.size:=by obtain ⟨m,hm⟩:=k1; exact DataW.trod_lt m _ _ _ hm
 obtain ⟨k,t,n,e,l,rfl,rt,rn,re,rl⟩:=cfg_open (hval 0 23 v0 rfl rfl) h0;obtain ⟨sa,m,c,acts,rfl,hm,hl,hacts⟩:=acts_open (hval 1 24 v1 rfl rfl) h1;have hb : Rows.uptoBulk d1<=2 ^ 20:=by
  have h : Rows.uptoBulkAll ([d0,d1] ++ [])<=1048576:=of_decide_eq_true hk;simp only [List.cons_append,List.nil_append,Rows.uptoBulkAll] at h;omega
 clear hA0 hval0;subst hl;refine (hany k t n e l W sa c acts rt rn re rl (Nat.le_trans hm hb) (fun i a ha=>⟨(hacts i a ha).1,Nat.le_trans (hacts i a ha).2 hb⟩)).mono fun r W' ⟨he,hf⟩=>?_
 subst he;have bel : Below W.heap.size W W':=hf.below (fun _ _ h=>h);exact ⟨_,rfl,_,_,_,[],_,[],hW',trodAll_mk1 (shut_bool Tryz.underlying4 _),trodAll_cons_mk (Below.trod Tryz.laidOut (by kernel_rfl) (of_decide_eq_true (by kernel_rfl)) k0 bel lt0) (trodAll_cons_mk (Below.trod Tryz.laidOut (by kernel_rfl) (of_decide_eq_true (by kernel_rfl)) k1 bel lt1) trodAll_mk0),rfl,bel.frame _,fun h=>by cases h⟩
theorem tordered_lifted (hany : LawHolds 6) (os : Os) (started : os.Started) (H : Type) (enc : TypeId × Value->H) (F : Stop.Interp) :
  ReturnsInHanded {} Tryz.checked os 6 .any ((Rows.OpenSpec.upto Rows.treeOrderedSpec).pre6 enc Tryz.prog Tryz.f6 Rows.treeOrderedUptoRow.domain false) (((Rows.OpenSpec.upto Rows.treeOrderedSpec).at F).post enc Tryz.prog Tryz.f6 false true false false):=by
 refine returnsInHanded_of_cond (C:=Tryz.checked) (s:=Rows.OpenSpec.upto Rows.treeOrderedSpec) (k:=Rows.uptoSmall) rfl Tryz.own started (by kernel_rfl) Tryz.func6
  (OpenSpec.witness (enc:=enc) (C:=Tryz.checked) (s:=Rows.OpenSpec.upto Rows.treeOrderedSpec) (k:=Rows.uptoSmall) rfl false ⟨#[],#[.agg #[.int .i64 0,.int .i64 0,.int .i64 0,.int .i64 0,.int .i64 0],.slice none 0 0],[]⟩ 8 (by kernel_rfl) (by kernel_rfl) (by kernel_rfl)
   (x:=([.agg [.lit (.int .i64 0),.lit (.int .i64 0),.lit (.int .i64 0),.lit (.int .i64 0),.lit (.int .i64 0)],.nil],[],[])) (by kernel_rfl) rfl (by kernel_rfl)) ?_
 intro W base args ds gs before hval hW _ hk _;exact tordered_contract hany H enc W base args ds gs before hval hW hk
theorem tordered_frame (hany : LawHolds 6) : Rows.TreeOrderedUptoSaid :=
 OpenClaim.holds_of_cond 6 Tryz.f6 rfl rfl rfl rfl rfl rfl rfl ⟨rfl,rfl,rfl,rfl,rfl⟩ rfl rfl rfl rfl rfl (by kernel_rfl) Tryz.func6 (by kernel_rfl)
  (of_decide_eq_true (by kernel_rfl)) (by unfold Func.isWrapper; first | (rw [if_pos (by decide +kernel)]; kernel_rfl) | (rw [if_neg (by decide +kernel)]; exact ⟨rfl,rfl⟩))
  (fun os started H enc _ F=>tordered_lifted hany os started H enc F)
end
section
theorem tordered_holds : Rows.TreeOrderedUptoSaid:=tordered_frame tordered_any
#print axioms tordered_holds
end
end Go.Proofs.YtfccelbmacjifabGreat
