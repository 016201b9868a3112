import Derived.Test.YtfccelbmacjifabGreatP0
import Derived.Test.YtfccelbmacjifabGreatP30
import Derived.Test.YtfccelbmacjifabGreatP29
set_option linter.unusedSimpArgs false
set_option maxRecDepth 100000
set_option maxHeartbeats 4000000
namespace Go.Proofs.YtfccelbmacjifabGreat
section
open Go.RowKit
section
variable {W w w' : World} {K : List (Nat × List Value × TypeId)} {pb qb b i : Nat} {own op oq : Own} {z : Nat} {p q p' q' D : PlD} {v : Value} {Q : PlD->PlD->Prop} {T L : Int} {t u : PThread} {o : OpV} {x : Nat × List Value × TypeId}
theorem TwoAt.drop (h : TwoAt W w pb qb (x :: K) op oq p q) : TwoAt W w pb qb K op oq p q:=⟨h.p,h.q,h.ep,h.eq,h.fr,h.d1,h.d2,fun y hy=>h.kp y (List.mem_cons_of_mem _ hy)⟩
theorem TwoAt.keepOp (h : TwoAt W w pb qb K op oq p q) (hF : Fr (fun k=>InZ op k) w w') (ho : OpOk oq (1 + 1) w o) : OpOk (ext5 oq w (.slice none 0 0)) (1 + 1) w' o :=
 ho.fr (S:=fun k=>InZ op k/\k < w.heap.size) (Fr.mono hF (fun k hk hz=>⟨hz,hk⟩)) (ext5_ext _ _ _) (fun k hk hs=>h.d1 k hs.2 (.inr (by rw [hk])) hs.1)
theorem Psweep_two (h : PlAt own z w pb D) : ∃ how : Int,Calls Tryz.prog 42 #[pv D.L.s] w fun r w'=>r = .returned (.int .i64 how)/\PlGoes own z w pb w' (fun D1=>∃ L',D1 = { D with L:=L',P:=D.P.doSweep.1 }):=by
 refine ⟨D.P.doSweep.2,(ZSweep_fit h.st h.fit).mono ?_⟩;rintro r w2 ⟨rfl,hG⟩;have hf:=(h.fit.sweep h.st.mem.nsmall).1;obtain ⟨own2,L2,hP2,hE2,hF2,e2⟩:=h.store hG hf (by rw [sweep_ts]);exact ⟨rfl,own2,_,hP2,hE2,hF2,L2,rfl⟩
theorem doubly_calls (h : TwoAt W w pb qb K op oq p q) (hj : QJ T L p q) (hs : Sz b p) (hs2 : Sz b q) (hb : b<=2 ^ 35) (a : ActD) (hsp : Spans w a.sa a.sn a.ps) (hsn : a.sn<=2 ^ 20) (hm : -9223372036854775808<=a.m/\a.m<=9223372036854775807) (htt : -9223372036854775808<=a.tt/\a.tt<=9223372036854775807) :
  Calls Tryz.prog 17 #[pv pb,pv qb,actVal a] w fun r w'=>r = .returned (.bool true)/\TwoOn W w' pb qb K (fun p' q'=>QJ T L p' q'/\Sz (b + 400) p'/\Sz (b + 400) q'):=by
 obtain ⟨kd,tt,o,ky,va,m,psa,psn,psc,sps⟩:=a;simp only at hsp hsn hm htt;obtain rfl : sps.length = psn:=hsp.1;have hct:=hj.jp.cfg.2.1;have hT18 : 1<=T/\T<=8:=by have:=h.p.thr; have:=h.p.fit.thr; omega
 obtain ⟨ac,hac0⟩ : ∃ ac,ac = [Value.int .i64 kd,.int .i64 tt,.int .i64 o,.int .i64 ky,.int .i64 va,.int .i64 m,.slice psa sps.length psc]:=⟨_,rfl⟩;have hA1 : At (w.alloc (.cells ac.toArray 29)) w.heap.size ac 29:=At.new w _ _;have hf1 : Fr (fun _=>False) w (w.alloc (.cells ac.toArray 29)):=(Fr.refl _ _).alloc _;have hT1:=h.box hf1 hA1 (Nat.le_refl _);obtain ⟨ab,hab⟩ : ∃ ab,ab = w.heap.size:=⟨_,rfl⟩;rw [<- hab] at hT1;have HT1:=(mkH (TwoAt W _ pb qb ((ab,ac,29) :: K) _ _ p q) <|hT1);have HSp:=(mkH (Spans (w.alloc (.cells ac.toArray 29)) psa sps.length sps/\sps.length<=2 ^ 20) <|⟨hsp.keep hf1,hsn⟩);have HJ:=(mkH (QJ T L p q) <|hj);have HS:=(mkH (Sz b p/\Sz b q) <|⟨hs,hs2⟩);have HM:=(mkH (-9223372036854775808<=m/\m<=9223372036854775807) <|hm);have hp:=pickN_in (c:=tt) (n:=T) (by omega);obtain ⟨ti,hti⟩ : ∃ ti : Nat,Hid (pickN tt T = ti):=⟨(pickN tt T).toNat,by show _ = _; omega⟩;have htT : (ti : Int) < T:=by rw [<- hti.out]; omega
 have HPk:=(mkH (∀ w,Calls Tryz.prog 23 #[.int .i64 tt,.int .i64 T] w fun r w'=>r = .returned (.int .i64 ti)/\w' = w) <|by
  rw [<- hti.out];exact lpick_calls tt T htt ⟨by omega,by omega⟩)
 have hpc : At (w.alloc (.cells ac.toArray 29)) pb p.cells 42:=hT1.p.at_;have HPC:=(mkH (At _ pb p.cells 42) <|hpc);have HAc:=(mkH (ac = [Value.int .i64 kd,.int .i64 tt,.int .i64 o,.int .i64 ky,.int .i64 va,.int .i64 m,.slice psa sps.length psc]) <|hac0);have HA1:=(mkH (At _ ab ac 29) <|by rw [hab]; exact hA1);have HCt:=(mkH (p.t = T) <|hct);subst hac0;generalize hw1 : w.alloc (.cells [Value.int .i64 kd,.int .i64 tt,.int .i64 o,.int .i64 ky,.int .i64 va,.int .i64 m,.slice psa sps.length psc].toArray 29) = w1 at *;clear h hj hs hs2 hA1 hf1 hT1 hsp hsn hm htt hp hpc hct;unfold pv actVal
 go_enter Tryz.func17,Tryz.ntmps17
 go_wp2_with fail
 try rw [hw1]
 simp only [<- hab];clear hw1 hab;refine wp_region_calm [7] 0 rfl (by kernel_rfl) (by kernel_rfl) (by kernel_rfl) (by decide) (by kernel_rfl) (by decide) ?_;intro U V hU hV;have hau : ∀ u q,(V u).cell? ⟨ab,q,none⟩ = [Value.int .i64 kd,.int .i64 tt,.int .i64 o,.int .i64 ky,.int .i64 va,.int .i64 m,.slice psa sps.length psc][q]?:=fun u=>((hV u).at HA1.out (fun h=>h)).cell
 have hpu : ∀ u,(V u).cell? ⟨pb,2,none⟩ = some (.int .i64 T):=fun u=>by
  have:=((hV u).at HPC.out (fun h=>h)).cell 2
  simp only [PlD.cells,HCt.out] at this;exact this
 clear hV
 repeat (refine mix_read rfl rfl ?_; go_big_quiet_step (fail); refine wpQuiet_nil ?_)
 refine mix_effC (.int .i64 ti) rfl rfl rfl ?_ ?_
 ·intro w' hw';go_simp;refine Calls.mono (HPk.out w') ?_;rintro r w'' ⟨rfl,rfl⟩;exact ⟨rfl,hw'⟩
 go_simp
 repeat (refine mix_read rfl rfl ?_; go_big_quiet_step (fail); refine wpQuiet_nil ?_)
 refine mix_nil ?_;intro w2 hw2;have HT2:=(mkH (TwoAt W w2 pb qb ((ab,_,29) :: K) _ _ p q) <|HT1.out.more hw2 (.slice none 0 0));have HSp2:=(mkH (Spans w2 psa sps.length sps) <|HSp.out.1.keep hw2);have hac:=(HT2.out.kp _ (List.mem_cons_self ..)).1.cell;simp only at hac;obtain ⟨ac,hac1⟩ : ∃ ac,ac = [Value.int .i64 kd,.int .i64 tt,.int .i64 o,.int .i64 ky,.int .i64 va,.int .i64 m,.slice psa sps.length psc]:=⟨_,rfl⟩;have HAc2:=(mkH (ac = [Value.int .i64 kd,.int .i64 tt,.int .i64 o,.int .i64 ky,.int .i64 va,.int .i64 m,.slice psa sps.length psc]) <|hac1);rw [<- hac1] at HT2;clear hw2 hau hpu HPk hac1 HT1 HA1 HPC HAc;have HG:=(mkH (TwoOn W w2 pb qb ((ab,ac,29) :: K) (fun p' q'=>QJ T L p' q'/\Sz (b + 0) p'/\Sz (b + 0) q')) <|⟨_,_,_,_,HT2.out,HJ.out,HS.out.1,HS.out.2⟩);by_cases h1 : kd = 1
 ·subst h1;have HOp:=(mkH (Calls _ _ _ _ _) <|opOf_calls ⟨1,tt,o,ky,va,m,psa,sps.length,psc,sps⟩ w2 HSp2.out HSp.out.2);simp only [actVal] at HOp;go_wp2_with fail;refine Calls.mono HOp.out ?_;rintro r w4 ⟨xa,xc,rfl,hO⟩;have hT4:=HT2.out.more hO.fr (.slice xa sps.length xc);have hop4:=fun own' : Own=>OwnSpans.opok (op:=own') hO (Nat.le_refl _) ⟨o,ky,va,sps,.slice xa sps.length xc⟩ rfl rfl
  have HT4:=(mkH (TwoAt W w4 pb qb ((ab,ac,29) :: K) (ext5 _ w2 (.slice xa sps.length xc)) (ext5 _ w2 (.slice xa sps.length xc)) p q) <|hT4);have HO4:=(mkH (∀ own' : Own,OpOk (ext5 own' w2 (.slice xa sps.length xc)) (1 + 1) w4 ⟨o,ky,va,sps,.slice xa sps.length xc⟩) <|hop4);clear hO HOp hac hT4 hop4;simp only [opVal];obtain ⟨ob,hob⟩ : ∃ ob,ob = w4.heap.size:=⟨_,rfl⟩;go_wp2_with fail;generalize hw5 : World.alloc _ _ = w5;have hf5 : Fr (fun _=>False) w4 w5:=by rw [<- hw5]; exact (Fr.refl _ _).alloc _
  have hA5 : At w5 ob [.int .i64 o,.int .i64 ky,.int .i64 va,.slice xa sps.length xc] 53:=by rw [<- hw5,hob]; exact At.new w4 _ _
  have hT5:=HT4.out.box hf5 hA5 (by omega);have hO5:=fun own' : Own=>(HO4.out own').fr hf5 (ext5_ext (ext5 own' w2 (.slice xa sps.length xc)) w4 (.slice none 0 0)) (fun _ _ h=>h)
  have HT5:=(mkH (TwoAt W w5 pb qb ((ob,[.int .i64 o,.int .i64 ky,.int .i64 va,.slice xa sps.length xc],53) :: ((ab,ac,29) :: K)) (ext5 (ext5 _ w2 (.slice xa sps.length xc)) w4 (.slice none 0 0)) (ext5 (ext5 _ w2 (.slice xa sps.length xc)) w4 (.slice none 0 0)) p q) <|hT5);have HO5:=(mkH (∀ own' : Own,OpOk (ext5 (ext5 own' w2 (.slice xa sps.length xc)) w4 (.slice none 0 0)) (1 + 1) w5 ⟨o,ky,va,sps,.slice xa sps.length xc⟩) <|hO5);simp only [<- hob];clear hw5 hf5 hA5 hT5 hO5 hob HT4 HO4;have HU:=(mkH (∀ w,Calls Tryz.prog 33 #[opVal o ky va (.slice xa sps.length xc)] w _) <|fun w=>isUpdate_calls o ky va (.slice xa sps.length xc) w);unfold opVal at HU;refine Calls.mono (HU.out _) ?_;rintro r w6 ⟨rfl,hf6⟩;have hT6:=HT5.out.more hf6 (.slice none 0 0);have hO6:=fun own' : Own=>(HO5.out own').fr hf6 (ext5_ext (ext5 (ext5 own' w2 (.slice xa sps.length xc)) w4 (.slice none 0 0)) w5 (.slice none 0 0)) (fun _ _ h=>h)
  have hil : ti < p.P.ts.length:=by have:=hT6.p.thr; have:=HCt.out; omega
  obtain ⟨t1,ht1⟩ : ∃ t1,p.P.ts[ti]? = some t1:=⟨_,List.getElem?_eq_getElem hil⟩;obtain ⟨u1,hu1⟩ : ∃ u1,q.P.ts[ti]? = some u1:=⟨_,List.getElem?_eq_getElem (by rw [HJ.out.ln]; exact hil)⟩;obtain ⟨g,c,hv,hbc,_⟩:=hT6.p.busyRow (HJ.out.jp.bsy ht1);have ha:=hT6.p.at_.cell;simp only [PlD.cells,hv,pv] at ha;have hcn:=HJ.out.cn;obtain ⟨nT,hnT⟩ : ∃ nT,nT = p.P.ts.length:=⟨_,rfl⟩;rw [<- hnT] at ha hil;have hT8:=hT6.p.fit.thr;rw [<- hnT] at hT8;have hoc:=(hT6.kp _ (List.mem_cons_self ..)).1.cell;simp only at hoc;have HFin6:=(mkH (∀ w',Fr (fun _=>False) w6 w'->TwoOn W w' pb qb K (fun p' q'=>QJ T L p' q'/\Sz (b + 400) p'/\Sz (b + 400) q')) <|fun w' hf=>⟨_,_,_,_,(hT6.more hf (.slice none 0 0)).drop.drop,HJ.out,HS.out.1.mono (by omega),HS.out.2.mono (by omega)⟩);have HB1:=(mkH (∀ w',Fr (fun _=>False) w6 w'->Calls Tryz.prog 29 #[pv pb,.int .i64 ti,opVal o ky va (.slice xa sps.length xc)] w' fun r w7=>r = .returned (.bool true)/\∃ op7 oq7 p7,TwoAt W w7 pb qb ((ob,[.int .i64 o,.int .i64 ky,.int .i64 va,.slice xa sps.length xc],53) :: ((ab,ac,29) :: K)) op7 oq7 p7 q/\Begun p ti t1 ⟨o,ky,va,sps,.slice xa sps.length xc⟩ p7/\OpOk oq7 (1 + 1) w7 ⟨o,ky,va,sps,.slice xa sps.length xc⟩) <|fun w' hf=>by
   have hT:=hT6.more hf (.slice none 0 0);have hOk:=fun own' : Own=>(hO6 own').fr hf (ext5_ext (ext5 (ext5 (ext5 own' w2 (.slice xa sps.length xc)) w4 (.slice none 0 0)) w5 (.slice none 0 0)) w6 (.slice none 0 0)) (fun _ _ h=>h)
   refine (Pbegins_calls hT.p HJ.out.jp.ok ht1 o ky va sps xa xc (hOk _) (by have:=HSp.out.2; omega) (by omega)).mono ?_;rintro r w7 ⟨rfl,hg⟩;obtain ⟨op7,p7,e1,e2,_,e4⟩:=hT.left hg;exact ⟨rfl,op7,_,p7,e1,e2,hT.keepOp e4 (hOk _)⟩)
  have HB2:=(mkH (∀ op7 oq7 p7 w7,TwoAt W w7 pb qb ((ob,[.int .i64 o,.int .i64 ky,.int .i64 va,.slice xa sps.length xc],53) :: ((ab,ac,29) :: K)) op7 oq7 p7 q->OpOk oq7 (1 + 1) w7 ⟨o,ky,va,sps,.slice xa sps.length xc⟩->Calls Tryz.prog 29 #[pv qb,.int .i64 ti,opVal o ky va (.slice xa sps.length xc)] w7 fun r w8=>r = .returned (.bool true)/\∃ op8 oq8 q8,TwoAt W w8 pb qb ((ob,[.int .i64 o,.int .i64 ky,.int .i64 va,.slice xa sps.length xc],53) :: ((ab,ac,29) :: K)) op8 oq8 p7 q8/\Begun q ti u1 ⟨o,ky,va,sps,.slice xa sps.length xc⟩ q8) <|fun op7 oq7 p7 w7 hT hOk=>by
   refine (Pbegins_calls hT.q HJ.out.jq.ok hu1 o ky va sps xa xc hOk (by have:=HSp.out.2; omega) (by omega)).mono ?_;rintro r w8 ⟨rfl,hg⟩;obtain ⟨oq8,q8,e1,e2,_,_⟩:=hT.right hg;exact ⟨rfl,_,oq8,q8,e1,e2⟩)
  have HTs:=(mkH (p.P.ts[ti]? = some t1/\q.P.ts[ti]? = some u1) <|⟨ht1,hu1⟩);unfold pv opVal at HB1 HB2;obtain ⟨pu,hpu⟩ : ∃ pu,Hid (p.puts = pu):=⟨_,rfl⟩;obtain ⟨pk,hpk⟩ : ∃ pk,Hid (p.takes = pk):=⟨_,rfl⟩;rw [hpu.out,hpk.out] at ha hcn;have HFd:=(mkH (Fr (fun _=>False) w6 w6.drew) <|(Fr.refl _ _).drew);obtain ⟨_,_,hc30,hc0,hc1⟩:=hcn;clear hT6 hO6 hf6 HT5 HO5 HU hv ht1 hu1 hnT;cases hbt : t1.busy
  ·rw [hbt] at hbc;have HBt:=(mkH (t1.busy = false) <|hbt);clear hbt;by_cases hu : o = 1\/o = 2
   ·have hb12 : (o == 1 || o == 2) = true:=by simpa using hu
    rw [hb12];have HUo:=(mkH (o = 1\/o = 2) <|hu);clear hb12 hu;by_cases hc : pu + pk ≥ 30
    ·have hc' : decide (pu + pk ≥ 30) = true:=by simpa using hc
     have HR:=(mkH (TwoOn W w6.drew pb qb K (fun p' q'=>QJ T L p' q'/\Sz (b + 400) p'/\Sz (b + 400) q')) <|HFin6.out _ HFd.out);clear hc;go_wp2_with fail;go_region;go_wp2;go_ret;exact ⟨rfl,HR.out⟩
    ·have hc' : decide (pu + pk ≥ 30) = false:=by simpa using hc
     have HCc:=(mkH (p.puts + p.takes < 30) <|by show _ < _; rw [hpu.out,hpk.out]; omega);have HB1d:=(mkH (Calls _ _ _ _ _) <|HB1.out _ HFd.out);clear hc;go_wp2_with fail;go_region;go_wp2_with fail;refine Calls.mono HB1d.out ?_;rintro r w7 ⟨rfl,op7,oq7,p7,hT7,hB7,hO7⟩;have hoc:=(hT7.kp _ (List.mem_cons_self ..)).1.cell;simp only at hoc;have HB2d:=(mkH (Calls _ _ _ _ _) <|HB2.out _ _ _ _ hT7 hO7);have HBg:=(mkH (Begun p ti t1 ⟨o,ky,va,sps,.slice xa sps.length xc⟩ p7) <|hB7);clear hT7 hB7 hO7 HB1d;go_wp2_with fail;refine Calls.mono HB2d.out ?_;rintro r w8 ⟨rfl,op8,oq8,q8,hT8',hB8⟩;have HR:=(mkH (TwoOn W w8 pb qb K (fun p' q'=>QJ T L p' q'/\Sz (b + 400) p'/\Sz (b + 400) q')) <|⟨_,_,_,_,hT8'.drop.drop,HJ.out.begin2 HTs.out.1 HTs.out.2 HBt.out HUo.out ⟨rfl,rfl,rfl,rfl⟩ HBg.out hB8 HCc.out,(HS.out.1.begin HBg.out).mono (by omega),(HS.out.2.begin hB8).mono (by omega)⟩);clear hT8' hB8 HB2d;go_wp2;go_ret;exact ⟨rfl,HR.out⟩
   ·have hb12 : (o == 1 || o == 2) = false:=by
     simp only [not_or] at hu;simp [hu.1,hu.2]
    rw [hb12];have HUo:=(mkH (¬ (o = 1\/o = 2)) <|hu);have HB1d:=(mkH (Calls _ _ _ _ _) <|HB1.out _ HFd.out);clear hb12 hu;go_wp2_with fail;go_region;go_wp2_with fail;refine Calls.mono HB1d.out ?_;rintro r w7 ⟨rfl,op7,oq7,p7,hT7,hB7,hO7⟩;have HR:=(mkH (TwoOn W w7 pb qb K (fun p' q'=>QJ T L p' q'/\Sz (b + 400) p'/\Sz (b + 400) q')) <|⟨_,_,_,_,hT7.drop.drop,HJ.out.begin1 HTs.out.1 HBt.out HUo.out hB7,(HS.out.1.begin hB7).mono (by omega),HS.out.2.mono (by omega)⟩);clear hT7 hB7 hO7 HB1d;go_wp2;go_ret;exact ⟨rfl,HR.out⟩
  ·rw [hbt] at hbc;have HR:=(mkH (TwoOn W w6.drew pb qb K (fun p' q'=>QJ T L p' q'/\Sz (b + 400) p'/\Sz (b + 400) q')) <|HFin6.out _ HFd.out);clear hbt;go_wp2_with fail;go_region;go_wp2;go_ret;exact ⟨rfl,HR.out⟩
 ·have h1' : (kd == 1) = false:=by simpa using h1
  by_cases h2 : kd = 2
  ·subst h2;clear h1;go_wp2;clear hac
   go_loopw [17] (fun v wr=>∃ j : Nat,j<=1/\v = .int .i64 j/\Hid (TwoOn W wr pb qb ((ab,ac,29) :: K) (fun p' q'=>QJ T L p' q'/\Sz (b + j) p'/\Sz (b + j) q'))) (fun v _=>1 - (intOf v).toNat)
   case atStart=>exact ⟨0,by omega,rfl,HG.out⟩
   case round =>
    obtain ⟨j,hjn,rfl,HGr⟩:=hrel;obtain ⟨op3,oq3,p3,q3,hT3,hj3,hS3,hS3'⟩:=HGr.out;have HFin:=(mkH (TwoOn W wr pb qb K (fun p' q'=>QJ T L p' q'/\Sz (b + 400) p'/\Sz (b + 400) q')) <|⟨op3,oq3,p3,q3,hT3.drop,hj3,hS3.mono (by omega),hS3'.mono (by omega)⟩);by_cases hlt : j < 1
    ·have hil : ti < p3.P.ts.length:=by have:=hT3.p.thr; have:=hj3.jp.cfg.2.1; omega
     obtain ⟨t3,ht3⟩ : ∃ t3,p3.P.ts[ti]? = some t3:=⟨_,List.getElem?_eq_getElem hil⟩;have HC:=(mkH (Calls _ _ _ _ _) <|beside_calls hT3 hj3 hS3 hS3' (by omega) ht3);generalize (if t3.busy then (p3.P.step ti t3).2 else 0) = how at HC;unfold pv at HC;clear hT3 hj3 hS3 hS3' hil ht3 HGr HFin;go_wp2_with fail;refine Calls.mono HC.out ?_;rintro r w4 ⟨rfl,op4,oq4,p4,q4,hT4,hj4,_,hS4,hS4'⟩;have HG4:=(mkH (TwoOn W w4 pb qb ((ab,ac,29) :: K) (fun p' q'=>QJ T L p' q'/\Sz (b + (j + 1)) p'/\Sz (b + (j + 1)) q')) <|⟨op4,oq4,p4,q4,hT4,hj4,hS4.mono (by omega),hS4'.mono (by omega)⟩);have HFin4:=(mkH (TwoOn W w4 pb qb K (fun p' q'=>QJ T L p' q'/\Sz (b + 400) p'/\Sz (b + 400) q')) <|⟨op4,oq4,p4,q4,hT4.drop,hj4,hS4.mono (by omega),hS4'.mono (by omega)⟩);clear hT4 hj4 hS4 hS4' HC;by_cases hh : how = 1
     ·subst hh;go_wp2
      go_roundw
      case rel=>exact ⟨j + 1,by omega,by go_num,HG4⟩
      case measure=>simp [intOf]; omega
     ·have hh' : (how != 1) = true:=by simpa using hh
      clear hh;go_wp2;go_ret;exact ⟨rfl,HFin4.out⟩
    ·go_wp2;go_ret;exact ⟨rfl,HFin.out⟩
  ·have h2' : (kd == 2) = false:=by simpa using h2
   by_cases h3 : kd = 3
   ·subst h3;clear h1 h2;have hp4:=pickN_in (c:=m) (n:=40) (by omega);obtain ⟨qn,hqq⟩ : ∃ q : Nat,Hid (pickN m 40 = q):=⟨(pickN m 40).toNat,by show _ = _; omega⟩;have hq40 : qn < 40:=by have:=hqq.out; omega
    have HPk:=(mkH (∀ w,Calls Tryz.prog 23 #[.int .i64 m,.int .i64 40] w fun r w'=>r = .returned (.int .i64 qn)/\w' = w) <|by
     rw [<- hqq.out];exact lpick_calls m 40 HM.out ⟨by omega,by omega⟩)
    clear hp4;go_wp2_with fail;refine Calls.mono (HPk.out w2) ?_;rintro r w3 ⟨rfl,rfl⟩;go_wp2;clear hac
    go_loopw [17] (fun v wr=>∃ j : Nat,j<=(qn + 1)/\v = .int .i64 j/\Hid (TwoOn W wr pb qb ((ab,ac,29) :: K) (fun p' q'=>QJ T L p' q'/\Sz (b + j) p'/\Sz (b + j) q'))) (fun v _=>(qn + 1) - (intOf v).toNat)
    case atStart=>exact ⟨0,by omega,rfl,HG.out⟩
    case round =>
     obtain ⟨j,hjn,rfl,HGr⟩:=hrel;obtain ⟨op3,oq3,p3,q3,hT3,hj3,hS3,hS3'⟩:=HGr.out;have HFin:=(mkH (TwoOn W wr pb qb K (fun p' q'=>QJ T L p' q'/\Sz (b + 400) p'/\Sz (b + 400) q')) <|⟨op3,oq3,p3,q3,hT3.drop,hj3,hS3.mono (by omega),hS3'.mono (by omega)⟩);by_cases hlt : j < (qn + 1)
     ·have hil : ti < p3.P.ts.length:=by have:=hT3.p.thr; have:=hj3.jp.cfg.2.1; omega
      obtain ⟨t3,ht3⟩ : ∃ t3,p3.P.ts[ti]? = some t3:=⟨_,List.getElem?_eq_getElem hil⟩;have HC:=(mkH (Calls _ _ _ _ _) <|beside_calls hT3 hj3 hS3 hS3' (by omega) ht3);generalize (if t3.busy then (p3.P.step ti t3).2 else 0) = how at HC;unfold pv at HC;clear hT3 hj3 hS3 hS3' hil ht3 HGr HFin;go_wp2_with fail;refine Calls.mono HC.out ?_;rintro r w4 ⟨rfl,op4,oq4,p4,q4,hT4,hj4,_,hS4,hS4'⟩;have HG4:=(mkH (TwoOn W w4 pb qb ((ab,ac,29) :: K) (fun p' q'=>QJ T L p' q'/\Sz (b + (j + 1)) p'/\Sz (b + (j + 1)) q')) <|⟨op4,oq4,p4,q4,hT4,hj4,hS4.mono (by omega),hS4'.mono (by omega)⟩);have HFin4:=(mkH (TwoOn W w4 pb qb K (fun p' q'=>QJ T L p' q'/\Sz (b + 400) p'/\Sz (b + 400) q')) <|⟨op4,oq4,p4,q4,hT4.drop,hj4,hS4.mono (by omega),hS4'.mono (by omega)⟩);clear hT4 hj4 hS4 hS4' HC;by_cases hh : how = 1
      ·subst hh;go_wp2
       go_roundw
       case rel=>exact ⟨j + 1,by omega,by go_num,HG4⟩
       case measure=>simp [intOf]; omega
      ·have hh' : (how != 1) = true:=by simpa using hh
       clear hh;go_wp2;go_ret;exact ⟨rfl,HFin4.out⟩
     ·go_wp2;go_ret;exact ⟨rfl,HFin.out⟩
   ·have h3' : (kd == 3) = false:=by simpa using h3
    by_cases h4 : kd = 4
    ·subst h4;clear h1 h2 h3;have hp4:=pickN_in (c:=m) (n:=40) (by omega);obtain ⟨qn,hqq⟩ : ∃ q : Nat,Hid (pickN m 40 = q):=⟨(pickN m 40).toNat,by show _ = _; omega⟩;have hq40 : qn < 40:=by have:=hqq.out; omega
     have HPk:=(mkH (∀ w,Calls Tryz.prog 23 #[.int .i64 m,.int .i64 40] w fun r w'=>r = .returned (.int .i64 qn)/\w' = w) <|by
      rw [<- hqq.out];exact lpick_calls m 40 HM.out ⟨by omega,by omega⟩)
     clear hp4;go_wp2;clear hac
     go_loopw [13] (fun v wr=>∃ j : Nat,j<=qn + 1/\v = .int .i64 j/\Hid (TwoOn W wr pb qb ((ab,ac,29) :: K) (fun p' q'=>QJ T L p' q'/\Sz (b + 8 * j) p'/\Sz (b + 8 * j) q'))) (fun v _=>qn + 2 - (intOf v).toNat)
     case atStart=>exact ⟨0,by omega,rfl,HG.out⟩
     case round =>
      obtain ⟨j,hjq,rfl,HGr⟩:=hrel;obtain ⟨op3,oq3,p3,q3,hT3,hj3,hS3,hS3'⟩:=HGr.out;have hac:=(hT3.kp _ (List.mem_cons_self ..)).1.cell;simp only at hac;rw [HAc2.out] at hac;clear hT3 hj3 hS3 hS3';go_wp2_with fail;refine Calls.mono (HPk.out wr) ?_;rintro r w3 ⟨rfl,rfl⟩;by_cases hlt : j<=qn
      ·go_wp2;clear hac
       go_loopw [14] (fun v wr2=>∃ k : Nat,(k : Int)<=T/\v = .int .i64 k/\Hid (TwoOn W wr2 pb qb ((ab,ac,29) :: K) (fun p' q'=>QJ T L p' q'/\Sz (b + 8 * j + k) p'/\Sz (b + 8 * j + k) q'))) (fun v _=>T.toNat - (intOf v).toNat)
       case atStart=>exact ⟨0,by omega,rfl,HGr.out⟩
       case round =>
        obtain ⟨k,hkT,rfl,HGk⟩:=hrel;obtain ⟨op4,oq4,p4,q4,hT4,hj4,hS4,hS4'⟩:=HGk.out;have ha:=hT4.p.at_.cell;simp only [PlD.cells,hj4.jp.cfg.2.1,pv] at ha;by_cases hkl : (k : Int) < T
        ·have hil : k < p4.P.ts.length:=by have:=hT4.p.thr; have:=hj4.jp.cfg.2.1; omega
         obtain ⟨t4,ht4⟩ : ∃ t4,p4.P.ts[k]? = some t4:=⟨_,List.getElem?_eq_getElem hil⟩;have HC:=(mkH (Calls _ _ _ _ _) <|beside_calls hT4 hj4 hS4 hS4' (by omega) ht4);generalize (if t4.busy then (p4.P.step k t4).2 else 0) = how at HC;unfold pv at HC;clear hT4 hj4 hS4 hS4' hil ht4 HGk;go_wp2_with fail;refine Calls.mono HC.out ?_;rintro r w5 ⟨rfl,op5,oq5,p5,q5,hT5,hj5,_,hS5,hS5'⟩;have HG5:=(mkH (TwoOn W w5 pb qb ((ab,ac,29) :: K) (fun p' q'=>QJ T L p' q'/\Sz (b + 8 * j + (k + 1)) p'/\Sz (b + 8 * j + (k + 1)) q')) <|⟨op5,oq5,p5,q5,hT5,hj5,hS5,hS5'⟩);clear hT5 hj5 hS5 hS5' HC ha;go_wp2
         go_roundw
         case rel=>exact ⟨k + 1,by omega,by go_num,HG5⟩
         case measure=>simp [intOf]; omega
        ·have HG6:=(mkH (TwoOn W wr pb qb ((ab,ac,29) :: K) (fun p' q'=>QJ T L p' q'/\Sz (b + 8 * (j + 1)) p'/\Sz (b + 8 * (j + 1)) q')) <|⟨op4,oq4,p4,q4,hT4,hj4,hS4.mono (by omega),hS4'.mono (by omega)⟩);clear hT4 hj4 hS4 hS4' HGk;go_wp2
         go_roundw
         case rel=>exact ⟨j + 1,by omega,by go_num,HG6⟩
         case measure=>simp [intOf]; omega
      ·have HG:=(mkH (TwoOn W w3 pb qb ((ab,ac,29) :: K) (fun p' q'=>QJ T L p' q'/\Sz ((b + 328) + 0) p'/\Sz ((b + 328) + 0) q')) <|by
        obtain ⟨op3,oq3,p3,q3,hT3,hj3,hS3,hS3'⟩:=HGr.out;exact ⟨op3,oq3,p3,q3,hT3,hj3,hS3.mono (by omega),hS3'.mono (by omega)⟩)
       go_wp2;clear hac
       go_loopw [17] (fun v wr=>∃ j : Nat,j<=0/\v = .int .i64 j/\Hid (TwoOn W wr pb qb ((ab,ac,29) :: K) (fun p' q'=>QJ T L p' q'/\Sz ((b + 328) + j) p'/\Sz ((b + 328) + j) q'))) (fun v _=>0 - (intOf v).toNat)
       case atStart=>exact ⟨0,by omega,rfl,HG.out⟩
       case round =>
        obtain ⟨j,hjn,rfl,HGr⟩:=hrel;obtain ⟨op3,oq3,p3,q3,hT3,hj3,hS3,hS3'⟩:=HGr.out;have HFin:=(mkH (TwoOn W wr pb qb K (fun p' q'=>QJ T L p' q'/\Sz (b + 400) p'/\Sz (b + 400) q')) <|⟨op3,oq3,p3,q3,hT3.drop,hj3,hS3.mono (by omega),hS3'.mono (by omega)⟩);by_cases hlt : j < 0
        ·exact absurd hlt (Nat.not_lt_zero _)
        ·go_wp2;go_ret;exact ⟨rfl,HFin.out⟩
    ·have h4' : (kd == 4) = false:=by simpa using h4
     by_cases h6 : kd = 6
     ·subst h6;clear h1 h2 h3 h4;have ha:=HT2.out.p.at_.cell;simp only [PlD.cells,pv] at ha;obtain ⟨how,hcall⟩:=Psweep_two HT2.out.p;have HC:=(mkH (Calls _ _ _ _ _) <|hcall);unfold pv at HC;clear hcall;go_wp2_with fail;refine Calls.mono HC.out ?_;rintro r w3 ⟨rfl,hg⟩;obtain ⟨op3,p3,hT3,⟨L3,rfl⟩,_,_⟩:=HT2.out.left hg;have hj3:=HJ.out.sweepP L3;have ha:=hT3.q.at_.cell;simp only [PlD.cells,pv] at ha;obtain ⟨how2,hcall⟩:=Psweep_two hT3.q;have HC3:=(mkH (Calls _ _ _ _ _) <|hcall);have HT3:=(mkH (TwoAt W w3 pb qb ((ab,ac,29) :: K) _ _ _ _) <|hT3);have HJ3:=(mkH (QJ T L _ q) <|hj3);unfold pv at HC3;clear hcall hg hT3 hj3 HC hac;go_wp2_with fail;refine Calls.mono HC3.out ?_;rintro r w4 ⟨rfl,hg⟩;obtain ⟨oq4,q4,hT4,⟨L4,rfl⟩,_,_⟩:=HT3.out.right hg;have HG:=(mkH (TwoOn W w4 pb qb ((ab,ac,29) :: K) (fun p' q'=>QJ T L p' q'/\Sz (b + 0) p'/\Sz (b + 0) q')) <|⟨_,_,_,_,hT4,HJ3.out.sweepQ L4,HS.out.1,HS.out.2⟩);have hac:=(hT4.kp _ (List.mem_cons_self ..)).1.cell;clear hT4 hg HC3;go_wp2;clear hac
      go_loopw [17] (fun v wr=>∃ j : Nat,j<=0/\v = .int .i64 j/\Hid (TwoOn W wr pb qb ((ab,ac,29) :: K) (fun p' q'=>QJ T L p' q'/\Sz (b + j) p'/\Sz (b + j) q'))) (fun v _=>0 - (intOf v).toNat)
      case atStart=>exact ⟨0,by omega,rfl,HG.out⟩
      case round =>
       obtain ⟨j,hjn,rfl,HGr⟩:=hrel;obtain ⟨op3,oq3,p3,q3,hT3,hj3,hS3,hS3'⟩:=HGr.out;have HFin:=(mkH (TwoOn W wr pb qb K (fun p' q'=>QJ T L p' q'/\Sz (b + 400) p'/\Sz (b + 400) q')) <|⟨op3,oq3,p3,q3,hT3.drop,hj3,hS3.mono (by omega),hS3'.mono (by omega)⟩);by_cases hlt : j < 0
       ·exact absurd hlt (Nat.not_lt_zero _)
       ·go_wp2;go_ret;exact ⟨rfl,HFin.out⟩
     ·have h6' : (kd == 6) = false:=by simpa using h6
      clear h1 h2 h3 h4 h6;go_wp2;clear hac
      go_loopw [17] (fun v wr=>∃ j : Nat,j<=0/\v = .int .i64 j/\Hid (TwoOn W wr pb qb ((ab,ac,29) :: K) (fun p' q'=>QJ T L p' q'/\Sz (b + j) p'/\Sz (b + j) q'))) (fun v _=>0 - (intOf v).toNat)
      case atStart=>exact ⟨0,by omega,rfl,HG.out⟩
      case round =>
       obtain ⟨j,hjn,rfl,HGr⟩:=hrel;obtain ⟨op3,oq3,p3,q3,hT3,hj3,hS3,hS3'⟩:=HGr.out;have HFin:=(mkH (TwoOn W wr pb qb K (fun p' q'=>QJ T L p' q'/\Sz (b + 400) p'/\Sz (b + 400) q')) <|⟨op3,oq3,p3,q3,hT3.drop,hj3,hS3.mono (by omega),hS3'.mono (by omega)⟩);by_cases hlt : j < 0
       ·exact absurd hlt (Nat.not_lt_zero _)
       ·go_wp2;go_ret;exact ⟨rfl,HFin.out⟩
end
end
section
open Go.RowKit
def ShAt (w : World) (sb : Nat) (a : Option Addr) (c : Nat) (ps : List (Int × Int)) : Prop:=At w sb [.slice a ps.length c] 49/\PairsAt w a ps
section
variable {w w' : World} {sb : Nat} {a : Option Addr} {c : Nat} {ps : List (Int × Int)}
theorem ShAt.calm (h : ShAt w sb a c ps) (hf : Fr (fun _=>False) w w') : ShAt w' sb a c ps:=⟨hf.at h.1 (fun h=>h),h.2.calm hf⟩
theorem shValue_calls (h : ShAt w sb a c ps) (key : Int) (hsm : ps.length<=2 ^ 20) :
  Calls Tryz.prog 51 #[pv sb,.int .i64 key] w fun r w'=>r = .returned (.tuple #[.int .i64 (shVal ps key).1,.bool (shVal ps key).2])/\w' = w:=by
 have HP:=(mkH (PairsAt w a ps) <|h.2);have hc:=h.1.cell;clear h;unfold pv
 go_enter Tryz.func51,Tryz.ntmps51
 go_wp2
 go_loopw [6] (fun v wr=>∃ j : Nat,j<=ps.length/\v = .int .i64 j/\wr = w/\Hid (∀ p ∈ ps.take j,p.1≠key)) (fun v _=>ps.length - (intOf v).toNat)
 case atStart=>exact ⟨0,by omega,rfl,rfl,fun p hp=>by simp at hp⟩
 case round =>
  obtain ⟨j,hj,rfl,rfl,HN⟩:=hrel;by_cases hlt : j < ps.length
  ·have hx : Hid (ps[j]? = some ps[j]):=List.getElem?_eq_getElem hlt;generalize ps[j] = x at hx;obtain ⟨g,rfl,c0,c1⟩:=HP.out j x hx.out;by_cases hk : x.1 = key
   ·have hk' : (x.1 == key) = true:=by simpa using hk
    have HV : Hid (shVal ps key = (x.2,true)):=shVal_hit HN.out hx.out hk;clear hk;go_wp2;go_ret2;exact ⟨by rw [HV.out]; rfl,rfl⟩
   ·have hk' : (x.1 == key) = false:=by simpa using hk
    have HN2 : Hid (∀ p ∈ ps.take (j + 1),p.1≠key):=by
     intro p hp;rw [List.take_add_one,hx.out] at hp;rcases List.mem_append.1 hp with hp | hp
     ·exact HN.out p hp
     ·simp at hp; subst hp; exact hk
    clear hk;go_wp2
    go_roundw
    case rel=>exact ⟨j + 1,by omega,by go_num,trivial,HN2⟩
    case measure=>simp [intOf]; omega
  ·have HV : Hid (shVal ps key = (0,false)):=shVal_miss (by have:=HN.out; rwa [List.take_of_length_le (by omega)] at this);go_wp2;go_ret2;exact ⟨by rw [HV.out]; rfl,rfl⟩
theorem without_calls (h : ShAt w sb a c ps) (key : Int) (below : Bool) (hsm : ps.length<=2 ^ 20) :
  Calls Tryz.prog 52 #[pv sb,.int .i64 key,.bool below] w fun r w'=>∃ v,r = .returned v/\OwnPairs w w' v (ps.filter (shSide key below)):=by
 obtain ⟨iP,hiP,hzP,hsP,hbP⟩:=info_parts Tryz.infoPr;have HS:=(mkH (ShAt w sb a c ps) <|h);clear h;unfold pv
 go_enter Tryz.func52,Tryz.ntmps52
 go_wp2
 go_loopw [7,8] (fun v i wr=>∃ k : Nat,k<=ps.length/\i = .int .i64 k/\Hid (OwnPairs w wr v ((ps.take k).filter (shSide key below)))) (fun _ i _=>ps.length - (intOf i).toNat)
 case atStart=>exact ⟨0,Nat.zero_le _,rfl,⟨⟨by simp,.inl ⟨rfl,rfl⟩⟩,by intro k hk; simp [Value.ownBlock] at hk,Fr.refl _ _⟩⟩
 case round =>
  obtain ⟨k,hk,rfl,HO⟩:=hrel;have hsr:=HS.out.calm HO.out.fr;have hc:=hsr.1.cell;have HA:=(mkH (PairsAt wr a ps) <|hsr.2);clear hsr;by_cases hlt : k < ps.length
  ·have hx : Hid (ps[k]? = some ps[k]):=List.getElem?_eq_getElem hlt;generalize ps[k] = x at hx;obtain ⟨g,rfl,c0,c1⟩:=HA.out k x hx.out;have HN:=(show Hid _ from filter_take hx.out (shSide key below));clear HA;cases hin : shSide key below x
   ·have HI:=(mkH (shSide key below x = false) <|hin);cases below
    ·have hd : decide (x.1 > key) = false:=by simpa [shSide] using hin
     clear hin;go_wp2
     go_roundw
     case rel=>exact ⟨k + 1,by omega,by go_num,by show OwnPairs _ _ _ _; rw [HN.out,HI.out]; simpa using HO.out⟩
     case measure=>simp [intOf]; omega
    ·have hd : decide (x.1 < key) = false:=by simpa [shSide] using hin
     clear hin;go_wp2
     go_roundw
     case rel=>exact ⟨k + 1,by omega,by go_num,by show OwnPairs _ _ _ _; rw [HN.out,HI.out]; simpa using HO.out⟩
     case measure=>simp [intOf]; omega
   ·have HI:=(mkH (shSide key below x = true) <|hin);have HFL:=(mkH (((ps.take k).filter (shSide key below)).length<=2 ^ 40) <|Nat.le_trans (List.length_filter_le _ _) (by rw [List.length_take]; omega));have HH : Hid (∀ (g' cap : Nat) (w3 : World) (ob : Obj),w3.ownsRow 0 95 2 (.slice (some ⟨g',0,none⟩) (((ps.take k).filter (shSide key below)).length + 1) cap) (((ps.take k).filter (shSide key below)).length + 1) (((ps.take k).filter (shSide key below)).flatMap pairCells ++ [.int .i64 x.1,.int .i64 x.2])->(wr.alloc ob).grownBy w3 u7.ownBlock->(u7.ownBlock = some g'\/wr.heap.size + 1<=g')->OwnPairs w w3 (.slice (some ⟨g',0,none⟩) (((ps.take k).filter (shSide key below)).length + 1) cap) ((ps.take (k + 1)).filter (shSide key below))):=by
     intro g' cap w3 ob hown hgr hge;rw [HN.out,HI.out];refine ⟨?_,?_,Fr.grown (HO.out.fr.alloc _) hgr (fun k hk=>.inr (HO.out.new k hk))⟩
     ·simpa [pairCells] using hown
     ·intro q hq;simp [Value.ownBlock] at hq;subst hq;rcases hge with h | h
      ·exact HO.out.new _ h
      ·have:=HO.out.fr.size; first | omega | (simp at h; omega)
    cases below
    ·have hd : decide (x.1 > key) = true:=by simpa [shSide] using hin
     clear hin;go_wp2_with (at_builtin; refine wpList_push _ rfl _ _ 47 rfl 0 95 iP _ 2 16 Tryz.underlying47 hiP hzP hsP hbP rfl (by decide) _ _ _ rfl (ownsRow_alloc HO.out.row _) wr.heap.size [.int .i64 x.1,.int .i64 x.2] rfl rfl 95 (At.newAt (by simp) _ _) (by simp [Value.oneCell']) (by have:=HFL.out; unfold maxLen; omega) (by have:=HFL.out; omega) (by simp) ?_);intro g' cap w3 hown hgr hge;have HO3:=(mkH (OwnPairs _ _ _ _) <|HH.out g' cap w3 _ hown hgr hge);clear hown hgr hge;go_wp2
     go_roundw
     case rel=>exact ⟨k + 1,by omega,by go_num,HO3⟩
     case measure=>simp [intOf]; omega
    ·have hd : decide (x.1 < key) = true:=by simpa [shSide] using hin
     clear hin;go_wp2_with (at_builtin; refine wpList_push _ rfl _ _ 47 rfl 0 95 iP _ 2 16 Tryz.underlying47 hiP hzP hsP hbP rfl (by decide) _ _ _ rfl (ownsRow_alloc HO.out.row _) wr.heap.size [.int .i64 x.1,.int .i64 x.2] rfl rfl 95 (At.newAt (by simp) _ _) (by simp [Value.oneCell']) (by have:=HFL.out; unfold maxLen; omega) (by have:=HFL.out; omega) (by simp) ?_);intro g' cap w3 hown hgr hge;have HO3:=(mkH (OwnPairs _ _ _ _) <|HH.out g' cap w3 _ hown hgr hge);clear hown hgr hge;go_wp2
     go_roundw
     case rel=>exact ⟨k + 1,by omega,by go_num,HO3⟩
     case measure=>simp [intOf]; omega
  ·have hke : k = ps.length:=by omega
   subst hke;rw [List.take_length] at HO;go_wp2;go_ret;exact ⟨_,rfl,HO.out⟩
theorem cut_calls (h : ShAt w sb a c ps) (sp : Int × Int) (hsm : ps.length<=2 ^ 20) :
  Calls Tryz.prog 53 #[pv sb,.agg #[.int .i64 sp.1,.int .i64 sp.2]] w fun r w'=>∃ v,r = .returned v/\OwnPairs w w' v (ps.filter (inSpan sp)):=by
 obtain ⟨iP,hiP,hzP,hsP,hbP⟩:=info_parts Tryz.infoPr;have HS:=(mkH (ShAt w sb a c ps) <|h);have HB0:=(mkH (At (w.alloc (.cells #[.int .i64 sp.1,.int .i64 sp.2] 81)) w.heap.size [.int .i64 sp.1,.int .i64 sp.2] 81) <|At.new w [.int .i64 sp.1,.int .i64 sp.2] _);have HF0:=(mkH (Fr (fun _=>False) w (w.alloc (.cells #[.int .i64 sp.1,.int .i64 sp.2] 81))) <|(Fr.refl _ _).alloc _);clear h;unfold pv
 go_enter Tryz.func53,Tryz.ntmps53
 go_wp2
 go_loopw [5,6] (fun v i wr=>∃ k : Nat,k<=ps.length/\i = .int .i64 k/\Hid (OwnPairs w wr v ((ps.take k).filter (inSpan sp)))/\Hid (At wr w.heap.size [.int .i64 sp.1,.int .i64 sp.2] 81)/\Hid (v.ownBlock≠some w.heap.size)) (fun _ i _=>ps.length - (intOf i).toNat)
 case atStart =>
  refine ⟨0,Nat.zero_le _,rfl,⟨⟨by simp,.inl ⟨rfl,rfl⟩⟩,by intro k hk; simp [Value.ownBlock] at hk,HF0.out⟩,HB0,?_⟩;show _≠_;simp [Value.ownBlock]
 case round =>
  clear HB0 HF0;obtain ⟨k,hk,rfl,HO,HB,HNB⟩:=hrel;have hbc:=HB.out.cell;have hsr:=HS.out.calm HO.out.fr;have hc:=hsr.1.cell;have HA:=(mkH (PairsAt wr a ps) <|hsr.2);clear hsr;by_cases hlt : k < ps.length
  ·have hx : Hid (ps[k]? = some ps[k]):=List.getElem?_eq_getElem hlt;generalize ps[k] = x at hx;obtain ⟨g,rfl,c0,c1⟩:=HA.out k x hx.out;have HN:=(show Hid _ from filter_take hx.out (inSpan sp));clear HA;have HNo : Hid (inSpan sp x = false->∀ w2,Fr (fun _=>False) wr w2->∃ k' : Nat,k'<=ps.length/\Value.int .i64 ((k : Int) + 1) = .int .i64 k'/\Hid (OwnPairs w w2 u5 ((ps.take k').filter (inSpan sp)))/\Hid (At w2 w.heap.size [.int .i64 sp.1,.int .i64 sp.2] 81)/\Hid (u5.ownBlock≠some w.heap.size)):=by
    intro hin w2 hw2;exact ⟨k + 1,by omega,by go_num,by show OwnPairs _ _ _ _; rw [HN.out,hin]; simpa using HO.out.calm hw2,hw2.at HB.out (fun h=>h),HNB⟩
   by_cases h1 : x.1 ≥ sp.1
   ·have h1' : decide (x.1 ≥ sp.1) = true:=by simpa using h1
    by_cases h2 : x.1<=sp.2
    ·have h2' : decide (x.1<=sp.2) = true:=by simpa using h2
     have HI : Hid (inSpan sp x = true):=by show _ = _; simp [inSpan,isIn]; omega
     clear h1 h2;have HFL:=(mkH (((ps.take k).filter (inSpan sp)).length<=2 ^ 40) <|Nat.le_trans (List.length_filter_le _ _) (by rw [List.length_take]; omega));go_wp2_with fail
     go_quiet (fail)
     have HO2:=(mkH (OwnPairs w (wr.drewN nq) u5 _) <|HO.out.calm ((Fr.refl _ _).drewN _));have HB2:=(mkH (At (wr.drewN nq) w.heap.size _ _) <|HB.out.drewN _);go_wp2_with (at_builtin; refine wpList_push _ rfl _ _ 47 rfl 0 95 iP _ 2 16 Tryz.underlying47 hiP hzP hsP hbP rfl (by decide) _ _ _ rfl (ownsRow_alloc HO2.out.row _) wr.heap.size [.int .i64 x.1,.int .i64 x.2] rfl rfl 95 (At.newAt (by simp) _ _) (by simp [Value.oneCell']) (by have:=HFL.out; unfold maxLen; omega) (by have:=HFL.out; omega) (by simp) ?_);intro g' cap w3 hown hgr hge;have HO3 : Hid (OwnPairs w w3 (.slice (some ⟨g',0,none⟩) (((ps.take k).filter (inSpan sp)).length + 1) cap) ((ps.take (k + 1)).filter (inSpan sp))):=by
      show OwnPairs _ _ _ _;rw [HN.out,HI.out];refine ⟨?_,?_,Fr.grown (HO2.out.fr.alloc _) hgr (fun k hk=>.inr (HO2.out.new k hk))⟩
      ·simpa [pairCells] using hown
      ·intro q hq;simp [Value.ownBlock] at hq;subst hq;rcases hge with h | h
       ·exact HO2.out.new _ h
       ·have:=HO.out.fr.size; first | omega | (simp at h; omega)
     have HB3 : Hid (At w3 w.heap.size [.int .i64 sp.1,.int .i64 sp.2] 81):=(Fr.grown (S:=fun j=>u5.ownBlock = some j) (Fr.refl _ _) hgr (fun j hj=>.inl hj)).at (HB2.out.alloc _) HNB.out;have HNB3 : Hid ((Value.slice (some ⟨g',0,none⟩) (((ps.take k).filter (inSpan sp)).length + 1) cap).ownBlock≠some w.heap.size):=by
      show _≠_;intro e;simp [Value.ownBlock] at e;subst e;rcases hge with h | h
      ·exact HNB.out h
      ·have:=HB.out.lt; first | omega | (simp at h; omega)
     clear hown hgr hge HO2 HB2 HNB;go_wp2
     go_roundw
     case rel=>exact ⟨k + 1,by omega,by go_num,HO3,HB3,HNB3⟩
     case measure=>simp [intOf]; omega
    ·have h2' : decide (x.1<=sp.2) = false:=by simpa using h2
     have HI : Hid (inSpan sp x = false):=by show _ = _; simp [inSpan,isIn]; omega
     clear h1 h2;go_wp2_with fail
     go_quiet (fail)
     go_wp2
     go_roundw
     case rel=>exact HNo.out HI.out _ ((Fr.refl _ _).drewN _)
     case measure=>simp [intOf]; omega
   ·have h1' : decide (x.1 ≥ sp.1) = false:=by simpa using h1
    have HI : Hid (inSpan sp x = false):=by show _ = _; simp [inSpan,isIn]; omega
    clear h1;go_wp2_with fail
    go_quiet (fail)
    go_wp2
    go_roundw
    case rel=>exact HNo.out HI.out _ ((Fr.refl _ _).drewN _)
    case measure=>simp [intOf]; omega
  ·have hke : k = ps.length:=by omega
   have HO' : Hid (OwnPairs w wr u5 (ps.filter (inSpan sp))):=by
    have:=HO.out
    rw [hke,List.take_length] at this;exact this
   clear HO hke;go_wp2;go_ret;exact ⟨u5,rfl,HO'.out⟩
end
end
section
open Go.RowKit
section
variable {w w' : World} {sb : Nat} {a : Option Addr} {c : Nat} {ps : List (Int × Int)}
def zeroAns : List Value:=[.int .i64 0,.bool false,.int .i64 0,.int .i64 0,.slice none 0 0]
theorem copy5 {w : World} {b : Nat} {a0 a1 a2 a3 a4 : Value} {T : TypeId} (h : At w b [a0,a1,a2,a3,a4] T) (v0 v1 v2 v3 v4 : Value) : At (((((w.setCell ⟨b,0,none⟩ v0).setCell ⟨b,1,none⟩ v1).setCell ⟨b,2,none⟩ v2).setCell ⟨b,3,none⟩ v3).setCell ⟨b,4,none⟩ v4) b [v0,v1,v2,v3,v4] T :=
 ((((h.set 0 v0).set 1 v1).set 2 v2).set 3 v3).set 4 v4
theorem frCopy5 {S : Nat->Prop} {w0 w : World} {b : Nat} (hb : w0.heap.size<=b) (h : Fr S w0 w) (v0 v1 v2 v3 v4 : Value) : Fr S w0 (((((w.setCell ⟨b,0,none⟩ v0).setCell ⟨b,1,none⟩ v1).setCell ⟨b,2,none⟩ v2).setCell ⟨b,3,none⟩ v3).setCell ⟨b,4,none⟩ v4) :=
 Fr.setNew hb (Fr.setNew hb (Fr.setNew hb (Fr.setNew hb (Fr.setNew hb h 0 v0) 1 v1) 2 v2) 3 v3) 4 v4
theorem does_start (w : World) (kind key value : Int) (sv : Value) : ∃ w1 : World,w1 = ((w.alloc (.cells #[.int .i64 kind,.int .i64 key,.int .i64 value,sv] 53)).alloc (.cells #[.int .i64 0,.bool false,.int .i64 0,.int .i64 0,.slice none 0 0] 69)).alloc (.cells #[.int .i64 0,.bool false,.int .i64 0,.int .i64 0,.slice none 0 0] 69)/\At w1 w.heap.size [.int .i64 kind,.int .i64 key,.int .i64 value,sv] 53/\At w1 (w.heap.size + 1) zeroAns 69/\At w1 (w.heap.size + 1 + 1) zeroAns 69/\Fr (fun _=>False) w w1/\w1.heap.size = w.heap.size + 3 :=
 ⟨_,rfl,((At.new w _ _).alloc _).alloc _,(At.newAt (by simp) _ _).alloc _,At.newAt (by simp) _ _,(((Fr.refl _ _).alloc _).alloc _).alloc _,by simp⟩
theorem does_look (h : ShAt w sb a c ps) (key value : Int) (sv : Value) (hsm : ps.length<=2 ^ 20) :
  Calls Tryz.prog 34 #[pv sb,opVal 3 key value sv] w fun r w'=>r = .returned (ansV { did:=(shVal ps key).2,value:=(shVal ps key).1 } (.slice none 0 0))/\Fr (fun _=>False) w w':=by
 have HS:=(mkH (ShAt w sb a c ps) <|h);clear h;have HC:=(mkH (∀ w1,ShAt w1 sb a c ps->Calls Tryz.prog 51 #[pv sb,.int .i64 key] w1 _) <|fun w1 h=>shValue_calls h key hsm);generalize shVal ps key = x at HC ⊢;obtain ⟨x1,x2⟩:=x;unfold pv at HC ⊢;unfold opVal
 go_enter Tryz.func34,Tryz.ntmps34
 go_wp2_with fail;obtain ⟨w1,e1,hO,hR,hV,hF,hs⟩:=does_start w 3 key value sv;rw [<- e1];refine (HC.out w1 (HS.out.calm hF)).mono ?_;rintro r w2 ⟨rfl,rfl⟩;clear e1;have ho:=hO.cell;have hr:=hR.cell;have hrz:=hR.frozen;have hv:=hV.cell;have hvz:=hV.frozen;have n1 : w.heap.size + 1≠w.heap.size + 1 + 1:=by omega
 have n2 : w.heap.size + 1 + 1≠w.heap.size + 1:=by omega
 have n3 : w.heap.size≠w.heap.size + 1 + 1:=by omega
 have n4 : w.heap.size + 1 + 1≠w.heap.size:=by omega
 have HF:=(mkH (Fr _ w w2) <|hF);have hf0:=(copy5 ((hR.setOther ⟨w.heap.size + 1 + 1,1,none⟩ n1 (.bool x2)).setOther ⟨w.heap.size + 1 + 1,2,none⟩ n1 (.int .i64 x1)) (.int .i64 0) (.bool x2) (.int .i64 x1) (.int .i64 0) (.slice none 0 0)).cell;unfold zeroAns at hr hv;clear hO hR hV hF;go_wp2;exact bodyPost_ret (v:=ansV { did:=x2,value:=x1 } (.slice none 0 0)) (by simp [results,Tryz.results34,go_sem,ansV,hf0]) rfl ⟨rfl,frCopy5 (by omega) (Fr.setNew (by omega) (Fr.setNew (by omega) HF.out _ _) _ _) _ _ _ _ _⟩
theorem does_not (h : ShAt w sb a c ps) (kind key value : Int) (sv : Value) (hsm : ps.length<=2 ^ 20) (hk : kind = 1\/kind = 2) (hd : (shVal ps key).2 = decide (kind = 1)) :
  Calls Tryz.prog 34 #[pv sb,opVal kind key value sv] w fun r w'=>r = .returned (ansV {} (.slice none 0 0))/\Fr (fun _=>False) w w':=by
 have HS:=(mkH (ShAt w sb a c ps) <|h);clear h;have HC:=(mkH (∀ w1,ShAt w1 sb a c ps->Calls Tryz.prog 51 #[pv sb,.int .i64 key] w1 _) <|fun w1 h=>shValue_calls h key hsm);generalize shVal ps key = x at HC hd ⊢;obtain ⟨x1,x2⟩:=x;simp only at hd;unfold pv at HC ⊢;unfold opVal;obtain ⟨w1,e1,hO,hR,hV,hF,hs⟩:=does_start w kind key value sv;have ho:=hO.cell;have hr:=hR.cell;have hrz:=hR.frozen;have hv:=hV.cell;have hvz:=hV.frozen;have n1 : w.heap.size + 1≠w.heap.size + 1 + 1:=by omega
 have n2 : w.heap.size + 1 + 1≠w.heap.size + 1:=by omega
 have n3 : w.heap.size≠w.heap.size + 1 + 1:=by omega
 have n4 : w.heap.size + 1 + 1≠w.heap.size:=by omega
 have HF:=(mkH (Fr _ w w1) <|hF);have hf0:=(copy5 (hR.setOther ⟨w.heap.size + 1 + 1,1,none⟩ n1 (.bool false)) (.int .i64 0) (.bool false) (.int .i64 0) (.int .i64 0) (.slice none 0 0)).cell;unfold zeroAns at hr hv;have E1:=(mkH (_ = _) <|e1);clear hO hR hV hF e1;rcases hk with rfl | rfl
 ·simp at hd;subst hd
  go_enter Tryz.func34,Tryz.ntmps34
  go_wp2_with fail;rw [<- E1.out];refine (HC.out w1 (HS.out.calm HF.out)).mono ?_;rintro r w2 ⟨rfl,rfl⟩;clear E1;go_wp2;exact bodyPost_ret (v:=ansV {} (.slice none 0 0)) (by simp [results,Tryz.results34,go_sem,ansV,hf0]) rfl ⟨rfl,frCopy5 (by omega) (Fr.setNew (by omega) HF.out _ _) _ _ _ _ _⟩
 ·simp at hd;subst hd
  go_enter Tryz.func34,Tryz.ntmps34
  go_wp2_with fail;rw [<- E1.out];refine (HC.out w1 (HS.out.calm HF.out)).mono ?_;rintro r w2 ⟨rfl,rfl⟩;clear E1;go_wp2;exact bodyPost_ret (v:=ansV {} (.slice none 0 0)) (by simp [results,Tryz.results34,go_sem,ansV,hf0]) rfl ⟨rfl,frCopy5 (by omega) (Fr.setNew (by omega) HF.out _ _) _ _ _ _ _⟩
end
end
end Go.Proofs.YtfccelbmacjifabGreat
