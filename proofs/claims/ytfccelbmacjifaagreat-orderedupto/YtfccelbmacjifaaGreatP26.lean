import Derived.Test.YtfccelbmacjifaaGreatP0
import Derived.Test.YtfccelbmacjifaaGreatP25
import Derived.Test.YtfccelbmacjifaaGreatP23
set_option linter.unusedSimpArgs false
set_option maxRecDepth 100000
set_option maxHeartbeats 4000000
namespace Go.Proofs.YtfccelbmacjifaaGreat
section
open Go.RowKit
section
variable {own : Own} {z : Nat} {w w' : World} {pb : Nat} {D D1 D2 : PlD} {i f k m s N b : Nat} {t : PThread} {J : PlD->Prop} {T Nn E L : Int}
theorem Plays.busy (hJ : Plays f T Nn E L J) (hj : J D) (hi : i < D.P.ts.length) : ∃ t,D.P.ts[i]? = some t/\D.bs[i]? = some t.busy:=by
 have ht : D.P.ts[i]? = some D.P.ts[i]:=List.getElem?_eq_getElem hi;refine ⟨D.P.ts[i],ht,?_⟩;have hok : D.bs = D.P.ts.map (·.busy):=hJ.ok hj;rw [hok,List.getElem?_map,ht]; rfl
theorem Psteps_any (hJ : Plays f T Nn E L J) (h : PlAt own z w pb D) (hj : J D) (hS : Sz b D) (hb : b<=2 ^ 37) (hi : i < D.P.ts.length) (hf : f<=i) :
  ∃ how : Int,0<=how/\how<=3/\Calls Tryz.prog 56 #[pv pb,.int .i64 i] w fun r w'=>r = .returned (.tuple #[.int .i64 how,.bool true])/\PlGoes own z w pb w' (fun D1=>J D1/\Sz (b + 1) D1):=by
 obtain ⟨t,ht,hbs⟩:=hJ.busy hj hi;cases hbz : t.busy
 ·rw [hbz] at hbs;refine ⟨0,by omega,by omega,(Psteps_idle h hbs ht hbz).mono ?_⟩;rintro r w1 ⟨rfl,rfl⟩;exact ⟨rfl,own,D,h,Ext.refl _ _,Fr.refl _ _,hj,hS.mono (by omega)⟩
 ·rw [hbz] at hbs;have hrg:=(h.fit.turn ht hbz).how;refine ⟨(D.P.step i t).2,by omega,by omega,(Psteps_busy h hbs ht hbz (by unfold Sz at hS; omega) (by unfold Sz at hS; omega)).mono ?_⟩;rintro r w1 ⟨rfl,own1,D1,hP,hE,hF,hs⟩;exact ⟨rfl,own1,D1,hP,hE,hF,hJ.step hj h.fit ht hbz hf hs,hS.step hs⟩
theorem Psweep_any (hJ : Plays f T Nn E L J) (h : PlAt own z w pb D) (hj : J D) (hS : Sz b D) :
  ∃ how : Int,1<=how/\how<=3/\Calls Tryz.prog 73 #[pv D.L.s] w fun r w'=>r = .returned (.int .i64 how)/\PlGoes own z w pb w' (fun D1=>J D1/\Sz b D1):=by
 have hrg : 1<=D.P.doSweep.2/\D.P.doSweep.2<=3:=by
  unfold PSt.doSweep;simp only;split
  ·simp
  ·split
   ·split <;> simp
   ·split <;> simp
 refine ⟨D.P.doSweep.2,hrg.1,hrg.2,(ZSweep_fit h.st h.fit).mono ?_⟩;rintro r w2 ⟨rfl,hG⟩;have hf:=(h.fit.sweep h.st.mem.nsmall).1;obtain ⟨own2,L2,hP2,hE2,hF2,e2⟩:=h.store hG hf (by rw [sweep_ts]);exact ⟨rfl,own2,_,hP2,hE2,hF2,hJ.sweep L2 hj,hS⟩
theorem Pruns_calls (hJ : Plays f T Nn E L J) (h : PlAt own z w pb D) (hj : J D) (hS : Sz b D) (hb : b<=2 ^ 36) (hi : (i : Int) < T) (hf : f<=i) (n : Nat) (hn : n<=40) :
  Calls Tryz.prog 86 #[pv pb,.int .i64 i,.int .i64 n] w fun r w'=>r = .returned (.bool true)/\PlGoes own z w pb w' (fun D1=>J D1/\Sz (b + 40) D1):=by
 have H:=(mkH (PlAt own z w pb D/\J D/\Sz b D) <|⟨h,hj,hS⟩);have HJ:=(mkH (Plays f T Nn E L J) <|hJ);have hT8 : T<=8:=by have:=(hJ.cfg hj).2.1; have:=h.thr; have:=h.fit.thr; omega
 have HI:=(mkH (∀ (own1 : Own) (w1 : World) (D1 : PlD),PlAt own1 z w1 pb D1->J D1->i < D1.P.ts.length) <|by
  intro own1 w1 D1 h1 j1;have h2:=h1.thr;have h3:=(hJ.cfg j1).2.1;omega)
 clear h hj hS hJ;unfold pv
 go_enter Tryz.func86,Tryz.ntmps86
 go_wp2
 go_loopw [7] (fun v wr=>∃ k : Nat,k<=n/\v = .int .i64 k/\Hid (PlGoes own z w pb wr (fun D1=>J D1/\Sz (b + k) D1))) (fun v _=>n - (intOf v).toNat)
 case atStart=>exact ⟨0,by omega,rfl,own,D,H.out.1,Ext.refl _ _,Fr.refl _ _,H.out.2.1,H.out.2.2⟩
 case round =>
  clear H;obtain ⟨k,hkn,rfl,HG⟩:=hrel;obtain ⟨own1,D1,hP,hE,hF,hj1,hS1⟩:=HG.out;have HP:=(mkH (PlAt own1 z wr pb D1/\J D1/\Sz (b + k) D1) <|⟨hP,hj1,hS1⟩);have HX:=(mkH (Ext own own1 w/\FrP own z w wr) <|⟨hE,hF⟩);have hil:=HI.out own1 wr D1 hP hj1;obtain ⟨t1,ht1,hbs⟩:=HJ.out.busy hj1 hil;obtain ⟨g,gc,hv,hc,hz,hg,hgl⟩:=hP.busyRow hbs;have ha:=hP.at_.cell;simp only [PlD.cells,hv,pv] at ha;have HE:=(mkH (PlGoes own z w pb wr (fun D1=>J D1/\Sz (b + 40) D1)) <|⟨own1,D1,hP,hE,hF,hj1,hS1.mono (by omega)⟩);have HB:=(mkH (i < D1.P.ts.length) <|hil);clear hP hE hF hj1 hS1 HG ht1 hbs hv hg;by_cases hlt : k < n
  ·cases hbz : t1.busy
   ·rw [hbz] at hc;clear hbz;go_wp2;go_ret;exact ⟨rfl,HE.out⟩
   ·rw [hbz] at hc;clear hbz;obtain ⟨how,h0,h3,hcall⟩:=Psteps_any HJ.out HP.out.1 HP.out.2.1 HP.out.2.2 (by omega) HB.out hf;have HC:=(mkH (Calls _ _ _ _ _) <|hcall);clear hcall;unfold pv at HC;go_wp2_with fail;refine Calls.mono HC.out ?_;rintro r w2 ⟨rfl,own2,D2,hP2,hE2,hF2,hj2,hS2⟩;have HG2:=(mkH (PlGoes own z w pb w2 (fun D2=>J D2/\Sz (b + (k + 1)) D2)) <|PlGoes.trans HX.out.1 HX.out.2 ⟨own2,D2,hP2,hE2,hF2,hj2,hS2⟩);have HE2:=(mkH (PlGoes own z w pb w2 (fun D2=>J D2/\Sz (b + 40) D2)) <|PlGoes.trans HX.out.1 HX.out.2 ⟨own2,D2,hP2,hE2,hF2,hj2,hS2.mono (by omega)⟩);clear hP2 hE2 hF2 hj2 hS2 ha hc hz HC HE;by_cases h2 : how = 2
    ·subst h2;go_wp2;go_ret;exact ⟨rfl,HE2.out⟩
    ·have h2' : (how == 2) = false:=by simpa using h2
     clear h2;go_wp2
     go_roundw
     case rel=>exact ⟨k + 1,by omega,by go_num,HG2⟩
     case measure=>simp [intOf]; omega
  ·go_wp2;go_ret;exact ⟨rfl,HE.out⟩
end
end
section
open Go.RowKit
section
variable {w w1 : World} {i : Nat}
theorem ActIn.keep {sa : Option Addr} {a : ActD} (h : ActIn w sa i a) (hf : Fr (fun _=>False) w w1) : ActIn w1 sa i a:=by
 obtain ⟨b,off,e,h1,h2,h3⟩:=h;exact ⟨b,off,e,fun j v hj=>hf.keepCell (h1 j v hj),h2.keep hf,h3⟩
theorem OwnSpans.keep {w0 : World} {v : Value} {sp : List (Int × Int)} (h : OwnSpans w0 w v sp) (hf : Fr (fun _=>False) w w1) : OwnSpans w0 w1 v sp:=⟨hf.owns h.row (fun _ _ h=>h),h.new,h.fr.trans hf⟩
end
end
section
open Go.RowKit
section
variable {own : Own} {z : Nat} {w w1 w' : World} {pb : Nat} {D D1 D2 : PlD} {i f k m s N b : Nat} {t : PThread} {J : PlD->Prop} {T Nn E L : Int}
theorem PlAt.boxes (h : PlAt own z w pb D) (hf : Fr (fun _=>False) w w1) {v : Value} {sp : List (Int × Int)} {w0 : World} (hO : OwnSpans w0 w1 v sp) (hw : w.heap.size<=w0.heap.size) (o : OpV) (h1 : o.sv = v) (h2 : o.spans = sp) : ∃ own1,PlAt own1 z w1 pb D/\Ext own own1 w/\OpOk own1 (z + 1) w1 o:=by
 obtain ⟨own1,ho⟩ : ∃ own1 : Own,own1 = fun k=>if k < w.heap.size then own k else if v.ownBlock = some k then ⟨z + 1,.oth 5⟩ else ⟨z + 7,.store⟩:=⟨_,rfl⟩
 have hE : Ext own own1 w:=fun k hk=>by rw [ho]; simp [hk]
 refine ⟨own1,h.fr hf hE (fun _ _ h=>h),hE,⟨?_,?_⟩⟩
 ·rw [h1,h2]; exact hO.row
 ·rw [h1];intro k hk
  have:=hO.new k hk
  rw [ho]; simp [show ¬ k < w.heap.size by omega,hk]
theorem Plays.beginAny (hJ : Plays f T Nn E L J) (hj : J D) (hS : Sz b D) (ht : D.P.ts[i]? = some t) (hf : f<=i) {o : OpV} (hB : Begun D i t o D1) : J D1/\Sz (b + 1) D1:=⟨hJ.begin hj ht hf hB,hS.begin hB⟩
theorem Pact_calls (hJ : Plays f T Nn E L J) (h : PlAt own z w pb D) (hj : J D) (hS : Sz b D) (hb : b<=2 ^ 35) (hf : (f : Int) < T) (a : ActD) (hsp : Spans w a.sa a.sn a.ps) (hsn : a.sn<=2 ^ 20) (hm : -9223372036854775808<=a.m/\a.m<=9223372036854775807) (htt : -9223372036854775808<=a.tt/\a.tt<=9223372036854775807) :
  Calls Tryz.prog 57 #[pv pb,actVal a,.int .i64 f] w fun r w'=>r = .returned (.bool true)/\PlGoes own z w pb w' (fun D1=>J D1/\Sz (b + 400) D1):=by
 obtain ⟨kd,tt,o,ky,va,m,psa,psn,psc,sps⟩:=a;simp only at hsp hsn hm htt;obtain rfl : sps.length = psn:=hsp.1;have hT8 : T<=8:=by have:=(hJ.cfg hj).2.1; have:=h.thr; have:=h.fit.thr; omega
 have hE0 : Ext own (own.put w.heap.size (z + 7) .store) w:=Ext.put (Nat.le_refl _) _ _;obtain ⟨own0,hown0⟩ : ∃ own0,own0 = own.put w.heap.size (z + 7) .store:=⟨_,rfl⟩;rw [<- hown0] at hE0;have hz0 : own0 w.heap.size = ⟨z + 7,.store⟩:=by rw [hown0]; simp [Own.put]
 generalize hw1 : w.alloc (.cells #[.int .i64 kd,.int .i64 tt,.int .i64 o,.int .i64 ky,.int .i64 va,.int .i64 m,.slice psa sps.length psc] 34) = w1;have hf1 : Fr (fun _=>False) w w1:=by rw [<- hw1]; exact (Fr.refl _ _).alloc _
 have hA1 : At w1 w.heap.size [.int .i64 kd,.int .i64 tt,.int .i64 o,.int .i64 ky,.int .i64 va,.int .i64 m,.slice psa sps.length psc] 34:=by rw [<- hw1]; exact At.new w _ _
 have H1:=(mkH (PlAt own0 z w1 pb D/\J D/\Sz b D) <|⟨h.fr hf1 hE0 (fun _ _ h=>h),hj,hS⟩);have HX:=(mkH (Ext own own0 w/\FrP own z w w1/\own0 w.heap.size = ⟨z + 7,.store⟩) <|⟨hE0,Fr.mono hf1 (fun _ _ h=>h.elim),hz0⟩);have HA1:=(mkH (At w1 w.heap.size _ 34) <|hA1);have HSp:=(mkH (Spans w1 psa sps.length sps/\sps.length<=2 ^ 20) <|⟨hsp.keep hf1,hsn⟩);have HJ:=(mkH (Plays f T Nn E L J) <|hJ);have HM:=(mkH (-9223372036854775808<=m/\m<=9223372036854775807) <|hm);have hp:=pickN_in (c:=tt) (n:=T - f) (by omega);obtain ⟨p,hpp⟩ : ∃ p : Nat,Hid (pickN tt (T - f) = p):=⟨(pickN tt (T - f)).toNat,by show _ = _; omega⟩;have hpT : (f : Int) + p < T:=by rw [<- hpp.out]; omega
 have HPk:=(mkH (∀ w,Calls Tryz.prog 31 #[.int .i64 tt,.int .i64 (T - f)] w fun r w'=>r = .returned (.int .i64 p)/\w' = w) <|by
  rw [<- hpp.out];exact lpick_calls tt (T - f) htt ⟨by omega,by omega⟩)
 have HI:=(mkH (∀ (own1 : Own) (w1 : World) (D1 : PlD),PlAt own1 z w1 pb D1->J D1->f + p < D1.P.ts.length) <|by
  intro own1 w1 D1 h1 j1;have h2:=h1.thr;have h3:=(hJ.cfg j1).2.1;omega)
 have hct:=(hJ.cfg hj).2.1;clear h hj hS hJ hE0 hown0 hz0 hf1 hA1 hsp hsn hm htt hp;unfold pv actVal
 go_enter Tryz.func57,Tryz.ntmps57
 go_wp2_with fail
 try rw [hw1]
 clear hw1;refine wp_region_calm [10] 0 rfl (by kernel_rfl) (by kernel_rfl) (by kernel_rfl) (by decide) (by kernel_rfl) (by decide) ?_;intro U V hU hV;have hau : ∀ u q,(V u).cell? ⟨w.heap.size,q,none⟩ = [Value.int .i64 kd,.int .i64 tt,.int .i64 o,.int .i64 ky,.int .i64 va,.int .i64 m,.slice psa sps.length psc][q]?:=fun u=>((hV u).at HA1.out (fun h=>h)).cell
 have hpu : ∀ u,(V u).cell? ⟨pb,2,none⟩ = some (.int .i64 T):=fun u=>by
  have:=((hV u).at H1.out.1.at_ (fun h=>h)).cell 2
  simp only [PlD.cells,hct] at this;exact this
 clear hV
 repeat (refine mix_read rfl rfl ?_; go_big_quiet_step (fail); refine wpQuiet_nil ?_)
 refine mix_effC (.int .i64 p) rfl rfl rfl ?_ ?_
 ·intro w' hw';go_simp;refine Calls.mono (HPk.out w') ?_;rintro r w'' ⟨rfl,rfl⟩;exact ⟨rfl,hw'⟩
 go_simp
 repeat (refine mix_read rfl rfl ?_; go_big_quiet_step (fail); refine wpQuiet_nil ?_)
 refine mix_nil ?_;intro w2 hw2;have H2:=(mkH (PlAt own0 z w2 pb D) <|H1.out.1.calm hw2);have HA2:=(mkH (At w2 w.heap.size _ 34) <|hw2.at HA1.out (fun h=>h));have HX2:=(mkH (FrP own z w w2) <|Fr.trans HX.out.2.1 (Fr.mono hw2 (fun _ _ h=>h.elim)));have HSp2:=(mkH (Spans w2 psa sps.length sps) <|HSp.out.1.keep hw2);clear hw2 hau hpu HPk;have HFin:=(mkH (∀ (own3 : Own) (w3 w4 : World),Ext own0 own3 w2->FrP own0 z w2 w3->∀ b',b'<=b + 400->PlGoes own3 z w3 pb w4 (fun D1=>J D1/\Sz b' D1)->PlGoes own z w pb w4 (fun D1=>J D1/\Sz (b + 400) D1)) <|by
  intro own3 w3 w4 he hf b' hb' hg;have hsz : w.heap.size<=w2.heap.size:=HX2.out.size;obtain ⟨o5,d5,y1,y2,y3,y4,y5⟩:=PlGoes.trans (Ext.trans HX.out.1 he hsz) (FrP.trans HX2.out HX.out.1 hf) hg;exact ⟨o5,d5,y1,y2,y3,y4,y5.mono hb'⟩)
 have hac:=HA2.out.cell;by_cases h1 : kd = 1
 ·subst h1;have HOp:=(mkH (Calls _ _ _ _ _) <|opOf_calls ⟨1,tt,o,ky,va,m,psa,sps.length,psc,sps⟩ w2 HSp2.out HSp.out.2);simp only [actVal] at HOp;go_wp2_with fail;refine Calls.mono HOp.out ?_;rintro r w4 ⟨xa,xc,rfl,hO⟩;have HO:=(mkH (OwnSpans w2 w4 _ sps) <|hO);clear hO HOp hac;simp only [opVal];go_wp2_with fail;generalize hw5 : World.alloc _ _ = w5;have hf5 : Fr (fun _=>False) w4 w5:=by rw [<- hw5]; exact (Fr.refl _ _).alloc _
  clear hw5;have hf25:=HO.out.fr.trans hf5;obtain ⟨own5,hP5,hE5,hop5⟩:=H2.out.boxes hf25 (HO.out.keep hf5) (Nat.le_refl _) ⟨o,ky,va,sps,.slice xa sps.length xc⟩ rfl rfl;have hil:=HI.out own5 w5 D hP5 H1.out.2.1;obtain ⟨t1,ht1,_⟩:=HJ.out.busy H1.out.2.1 hil;have hS:=H1.out.2.2;have HB:=(mkH (Calls _ _ _ _ _) <|Pbegins_calls hP5 (HJ.out.ok H1.out.2.1) ht1 o ky va sps xa xc hop5 (by have:=HSp.out.2; omega) (by unfold Sz at hS; omega));have HT:=(mkH (D.P.ts[f + p]? = some t1) <|ht1);have HE5:=(mkH (Ext own0 own5 w2/\FrP own0 z w2 w5) <|⟨hE5,Fr.mono hf25 (fun _ _ h=>h.elim)⟩);clear hf5 hf25 hP5 hE5 hop5 hil ht1 hS;unfold pv opVal at HB;simp only [Int.natCast_add] at HB;go_wp2_with fail;refine Calls.mono HB.out ?_;rintro r w6 ⟨rfl,own6,D6,hP6,hE6,hF6,hB6⟩;have HR:=(mkH (PlGoes own z w pb w6 (fun D1=>J D1/\Sz (b + 400) D1)) <|HFin.out own5 w5 w6 HE5.out.1 HE5.out.2 (b + 1) (by omega) ⟨own6,D6,hP6,hE6,hF6,HJ.out.beginAny H1.out.2.1 H1.out.2.2 HT.out (by omega) hB6⟩);clear hP6 hE6 hF6 hB6;go_wp2;go_ret;exact ⟨rfl,HR.out⟩
 ·have h1' : (kd == 1) = false:=by simpa using h1
  by_cases h2 : kd = 2
  ·subst h2;obtain ⟨how,q0,q3,hcall⟩:=Psteps_any HJ.out H2.out H1.out.2.1 H1.out.2.2 (by omega) (HI.out _ _ _ H2.out H1.out.2.1) (show f<=f + p by omega);have HC:=(mkH (Calls _ _ _ _ _) <|hcall);clear hcall h1;unfold pv at HC;simp only [Int.natCast_add] at HC;go_wp2_with fail;refine Calls.mono HC.out ?_;rintro r w6 ⟨rfl,hg⟩;have HR:=(mkH (PlGoes own z w pb w6 (fun D1=>J D1/\Sz (b + 400) D1)) <|HFin.out own0 w2 w6 (Ext.refl _ _) (Fr.refl _ _) (b + 1) (by omega) hg);clear hg;go_wp2;go_ret;exact ⟨rfl,HR.out⟩
  ·have h2' : (kd == 2) = false:=by simpa using h2
   by_cases h3 : kd = 3
   ·subst h3;clear h1 h2;have hp4:=pickN_in (c:=m) (n:=40) (by omega);obtain ⟨q,hqq⟩ : ∃ q : Nat,Hid (pickN m 40 = q):=⟨(pickN m 40).toNat,by show _ = _; omega⟩;have hq40 : q < 40:=by have:=hqq.out; omega
    have HPk:=(mkH (∀ w,Calls Tryz.prog 31 #[.int .i64 m,.int .i64 40] w fun r w'=>r = .returned (.int .i64 q)/\w' = w) <|by
     rw [<- hqq.out];exact lpick_calls m 40 HM.out ⟨by omega,by omega⟩)
    have HC:=(mkH (Calls _ _ _ _ _) <|Pruns_calls HJ.out H2.out H1.out.2.1 H1.out.2.2 (by omega) (i:=f + p) (by simp only [Int.natCast_add]; exact hpT) (by omega) (1 + q) (by omega));unfold pv at HC;simp only [Int.natCast_add] at HC;clear hp4;go_wp2_with fail;refine Calls.mono (HPk.out w2) ?_;rintro r w3 ⟨rfl,rfl⟩;go_wp2_with fail;refine Calls.mono HC.out ?_;rintro r w6 ⟨rfl,hg⟩;have HR:=(mkH (PlGoes own z w pb w6 (fun D1=>J D1/\Sz (b + 400) D1)) <|HFin.out own0 _ w6 (Ext.refl _ _) (Fr.refl _ _) (b + 40) (by omega) hg);clear hg;go_wp2;go_ret;exact ⟨rfl,HR.out⟩
   ·have h3' : (kd == 3) = false:=by simpa using h3
    by_cases h4 : kd = 4
    ·subst h4;clear h1 h2 h3;have hp4:=pickN_in (c:=m) (n:=40) (by omega);obtain ⟨q,hqq⟩ : ∃ q : Nat,Hid (pickN m 40 = q):=⟨(pickN m 40).toNat,by show _ = _; omega⟩;have hq40 : q < 40:=by have:=hqq.out; omega
     have HPk:=(mkH (∀ w,Calls Tryz.prog 31 #[.int .i64 m,.int .i64 40] w fun r w'=>r = .returned (.int .i64 q)/\w' = w) <|by
      rw [<- hqq.out];exact lpick_calls m 40 HM.out ⟨by omega,by omega⟩)
     have HFt:=(mkH ((f : Int) < T) <|hf);clear hp4 hf;go_wp2;clear hac
     go_loopw [11] (fun v wr=>∃ j : Nat,j<=q + 1/\v = .int .i64 j/\Hid (PlGoes own0 z w2 pb wr (fun D1=>J D1/\Sz (b + 8 * j) D1))) (fun v _=>q + 2 - (intOf v).toNat)
     case atStart=>exact ⟨0,by omega,rfl,own0,D,H2.out,Ext.refl _ _,Fr.refl _ _,H1.out.2.1,H1.out.2.2⟩
     case round =>
      obtain ⟨j,hjq,rfl,HG⟩:=hrel;obtain ⟨own3,D3,hP3,hE3,hF3,hj3,hS3⟩:=HG.out;have hac:=(hF3.at HA2.out (by rw [HX.out.2.2]; simp)).cell;have HP3:=(mkH (PlAt own3 z wr pb D3/\J D3/\Sz (b + 8 * j) D3) <|⟨hP3,hj3,hS3⟩);have HX3:=(mkH (Ext own0 own3 w2/\FrP own0 z w2 wr) <|⟨hE3,hF3⟩);clear hP3 hE3 hF3 hj3 hS3;go_wp2_with fail;refine Calls.mono (HPk.out wr) ?_;rintro r w3 ⟨rfl,rfl⟩;by_cases hlt : j<=q
      ·have HB:=(mkH (b + 8 * j<=2 ^ 37) <|by show b + 8 * j<=2 ^ 37; omega);go_wp2_with fail;refine (Pturn_calls HJ.out HP3.out.1 HP3.out.2.1 HP3.out.2.2 HB.out HFt.out).mono ?_;rintro r w4 ⟨mm,ss,rfl,hm8,own4,D4,hP4,hE4,hF4,hj4,hS4,hTu⟩;have HG2:=(mkH (PlGoes own0 z w2 pb w4 (fun D1=>J D1/\Sz (b + 8 * (j + 1)) D1)) <|PlGoes.trans HX3.out.1 HX3.out.2 ⟨own4,D4,hP4,hE4,hF4,hj4,hS4.mono (by omega)⟩);clear hP4 hE4 hF4 hj4 hS4 hTu hm8 HG hac;go_wp2
       go_roundw
       case rel=>exact ⟨j + 1,by omega,by go_num,HG2⟩
       case measure=>simp [intOf]; omega
      ·have HR:=(mkH (PlGoes own z w pb _ (fun D1=>J D1/\Sz (b + 400) D1)) <|HFin.out own3 _ _ HX3.out.1 HX3.out.2 (b + 8 * j) (by omega) ⟨own3,D3,HP3.out.1,Ext.refl _ _,Fr.refl _ _,HP3.out.2.1,HP3.out.2.2⟩);clear HG hac;go_wp2;go_ret;exact ⟨rfl,HR.out⟩
    ·have h4' : (kd == 4) = false:=by simpa using h4
     by_cases h6 : kd = 6
     ·subst h6;clear h1 h2 h3 h4;have hp4:=pickN_in (c:=m) (n:=12) (by omega);obtain ⟨q,hqq⟩ : ∃ q : Nat,Hid (pickN m 12 = q):=⟨(pickN m 12).toNat,by show _ = _; omega⟩;have hq40 : q < 12:=by have:=hqq.out; omega
      have HPk:=(mkH (∀ w,Calls Tryz.prog 31 #[.int .i64 m,.int .i64 12] w fun r w'=>r = .returned (.int .i64 q)/\w' = w) <|by
       rw [<- hqq.out];exact lpick_calls m 12 HM.out ⟨by omega,by omega⟩)
      clear hp4;go_wp2;clear hac
      go_loopw [15] (fun v wr=>∃ j : Nat,j<=q + 1/\v = .int .i64 j/\Hid (PlGoes own0 z w2 pb wr (fun D1=>J D1/\Sz b D1))) (fun v _=>q + 2 - (intOf v).toNat)
      case atStart=>exact ⟨0,by omega,rfl,own0,D,H2.out,Ext.refl _ _,Fr.refl _ _,H1.out.2.1,H1.out.2.2⟩
      case round =>
       obtain ⟨j,hjq,rfl,HG⟩:=hrel;obtain ⟨own3,D3,hP3,hE3,hF3,hj3,hS3⟩:=HG.out;have hac:=(hF3.at HA2.out (by rw [HX.out.2.2]; simp)).cell;have ha:=hP3.at_.cell;simp only [PlD.cells,pv] at ha;have HP3:=(mkH (PlAt own3 z wr pb D3/\J D3/\Sz b D3) <|⟨hP3,hj3,hS3⟩);have HX3:=(mkH (Ext own0 own3 w2/\FrP own0 z w2 wr) <|⟨hE3,hF3⟩);obtain ⟨how,q1,q3,hcall⟩:=Psweep_any HJ.out hP3 hj3 hS3;have HC:=(mkH (Calls _ _ _ _ _) <|hcall);unfold pv at HC;clear hP3 hE3 hF3 hj3 hS3 hcall;go_wp2_with fail;refine Calls.mono (HPk.out wr) ?_;rintro r w3 ⟨rfl,rfl⟩;by_cases hlt : j<=q
       ·go_wp2_with fail;refine Calls.mono HC.out ?_;rintro r w4 ⟨rfl,hg⟩;have HG2:=(mkH (PlGoes own0 z w2 pb w4 (fun D1=>J D1/\Sz b D1)) <|PlGoes.trans HX3.out.1 HX3.out.2 hg);clear hg HG hac ha HC;go_wp2
        go_roundw
        case rel=>exact ⟨j + 1,by omega,by go_num,HG2⟩
        case measure=>simp [intOf]; omega
       ·have HR:=(mkH (PlGoes own z w pb _ (fun D1=>J D1/\Sz (b + 400) D1)) <|HFin.out own3 _ _ HX3.out.1 HX3.out.2 b (by omega) ⟨own3,D3,HP3.out.1,Ext.refl _ _,Fr.refl _ _,HP3.out.2.1,HP3.out.2.2⟩);clear HG hac ha HC;go_wp2;go_ret;exact ⟨rfl,HR.out⟩
     ·have h6' : (kd == 6) = false:=by simpa using h6
      clear h1 h2 h3 h4 h6;have HR:=(mkH (PlGoes own z w pb w2 (fun D1=>J D1/\Sz (b + 400) D1)) <|HFin.out own0 w2 w2 (Ext.refl _ _) (Fr.refl _ _) b (by omega) ⟨own0,D,H2.out,Ext.refl _ _,Fr.refl _ _,H1.out.2.1,H1.out.2.2⟩);go_wp2;go_ret;exact ⟨rfl,HR.out⟩
end
end
section
open Go.RowKit
theorem fresh_nodes (nn : Nat) (es : List PEntry) (x : Int) : (⟨freshNodes nn,es⟩ : PMem).node x = if x = 0 then anchorNode else if x = 1 then endNode else PNode.zero:=by
 unfold PMem.node;have hl : (⟨freshNodes nn,es⟩ : PMem).hasNode x = true ↔ 0<=x/\x < nn + 2:=by
  unfold PMem.hasNode; rw [isIn_iff]; simp [freshNodes]; omega
 by_cases h : (⟨freshNodes nn,es⟩ : PMem).hasNode x = true
 ·rw [if_pos h];rw [hl] at h;by_cases h0 : x = 0
  ·subst h0; rfl
  ·rw [if_neg h0];by_cases h1 : x = 1
   ·subst h1; rfl
   ·rw [if_neg h1];obtain ⟨k,hk⟩ : ∃ k : Nat,x = k + 2:=⟨(x - 2).toNat,by omega⟩;have : x.toNat = k + 2:=by omega
    rw [this];show ((anchorNode :: endNode :: List.replicate nn PNode.zero)[k + 2]?).getD PNode.zero = _;simp only [List.getElem?_cons_succ];rw [List.getElem?_replicate];split <;> rfl
 ·rw [if_neg h];rw [hl] at h;rw [if_neg (by omega),if_neg (by omega)]
theorem fresh_seen (nn en : Nat) (he : 1<=en) : Wm (freshMem nn en)/\(freshMem nn en).ns.length = nn + 2/\(∀ x,(freshMem nn en).node x = if x = 0 then linked false 1 anchorNode else if x = 1 then endNode else PNode.zero)/\(∀ x,Pd (freshMem nn en) x = [])/\(∀ x s d,Sd (freshMem nn en) x s d ↔ x = 0/\s = 0/\d = 1):=by
 have hz : ∀ e ∈ List.replicate en PEntry.zero,e = PEntry.zero:=fun e he=>(List.mem_replicate.1 he).2
 obtain ⟨M0,hM0⟩ : ∃ M0 : PMem,M0 = ⟨freshNodes nn,List.replicate en PEntry.zero⟩:=⟨_,rfl⟩;have hn0 : ∀ x,M0.node x = if x = 0 then anchorNode else if x = 1 then endNode else PNode.zero:=fun x=>by rw [hM0]; exact fresh_nodes nn _ x
 have hw0 : Wm M0:=by
  refine ⟨by rw [hM0]; simp [freshNodes],?_,?_,?_⟩
  ·intro e he _; rw [hM0] at he; exact hz e he
  ·intro e he; rw [hM0] at he; rw [hz e he]; rfl
  ·intro x hx;rw [hn0] at hx ⊢;by_cases h0 : x = 0
   ·rw [if_pos h0] at hx; exact nomatch hx
   ·rw [if_neg h0] at hx ⊢;by_cases h1 : x = 1
    ·rw [if_pos h1] at hx; exact nomatch hx
    ·rw [if_neg h1]
 have hp0 : ∀ x,Pd M0 x = []:=by
  intro x;rw [hM0];unfold Pd;rw [List.filter_eq_nil_iff.2]
  ·rfl
  ·intro e he; rw [hz e he,isPd_z]; decide
 have hs0 : ∀ x s d,¬ Sd M0 x s d:=by
  rintro x s d ⟨e,he,h1,_⟩;rw [hM0] at he;rw [hz e he,isSt_z] at h1; cases h1
 have hr0 : 0 < M0.room.2:=by
  rw [hM0];unfold PMem.room;simp only;have : count (fun x : PEntry=>!x.used) (List.replicate en PEntry.zero) = en:=by
   unfold count;rw [List.filter_eq_self.2]
   ·simp
   ·intro e he; rw [hz e he]; rfl
  rw [this]; omega
 obtain ⟨g1,g2,g3,g4,g5,_⟩:=addLink_e (n:=0) (to:=1) hw0 (by rw [hn0,if_pos rfl]; rfl) (by rw [hn0,if_pos rfl]; rfl) (hp0 0) hr0;have hfm : freshMem nn en = (M0.addLink 0 1).stampNew 0 0:=by rw [hM0]; rfl
 generalize M0.addLink 0 1 = M1 at *;obtain ⟨s1,s2,s3,s4⟩:=stamp_e (n:=0) (d:=1) 0 g2 (by rw [g4,if_pos rfl]);have hfm2 : freshMem nn en = M1.stamp 0 false 0:=by
  rw [hfm];unfold PMem.stampNew;rw [stamp_no s2]
 rw [hfm2];refine ⟨s2,?_,?_,?_,?_⟩
 ·rw [s1,g1,hM0]; simp [freshNodes]
 ·intro x;rw [node_ns s1,g3];split
  ·rw [hn0,if_pos rfl]
  ·next h=>rw [hn0,if_neg h]
 ·intro x;rw [s3];split
  ·rfl
  ·next h=>rw [g4,if_neg h]; exact hp0 x
 ·intro x s d;rw [s4,g5];constructor
  ·rintro (h | h)
   ·exact absurd h (hs0 x s d)
   ·exact h
  ·exact .inr
theorem inv_fresh {T N E L : Int} (hE : 1<=E) : Inv (fun x=>x = 0) (freshP 0 T N E L)/\(freshP 0 T N E L).mem.ns.length = N.toNat + 2:=by
 obtain ⟨hw,hl,hn,hp,hs⟩:=fresh_seen N.toNat E.toNat (by omega);have hm : (freshP 0 T N E L).mem = freshMem N.toNat E.toNat:=rfl;refine ⟨⟨rfl,hw,?_,?_,?_,?_⟩,hl⟩
 all_goals (try rw [hm]); generalize freshMem N.toNat E.toNat = M at *
 ·have n0 : M.node 0 = linked false 1 anchorNode:=by rw [hn,if_pos rfl]
  have n1 : M.node 1 = endNode:=by rw [hn,if_neg (by decide),if_pos rfl]
  have nd : ∀ x,(M.node x).dead = false:=by
   intro x; rw [hn]; split
   ·rfl
   ·split <;> rfl
  have nr : ∀ x,(M.node x).retired = false:=by
   intro x; rw [hn]; split
   ·rfl
   ·split <;> rfl
  refine ⟨⟨rfl,nd 0⟩,⟨by decide,by simp only [Us]; rw [n1]; rfl,by rw [n1]; rfl,nd 1,nr 1,by simp only [Ky]; rw [n1]; rfl⟩,?_,?_,?_,?_,?_,?_⟩
  ·rintro x rfl;refine ⟨by simp only [Us]; rw [n0]; rfl,by rw [n0]; rfl,nr 0,?_,?_,.inl rfl⟩
   ·left; simp only [Ld]; rw [n0]; rfl
   ·simp only [Ld]; rw [n0]; decide
  ·intro x hx h0 h1;simp only [Us] at hx;rw [hn,if_neg h0,if_neg h1] at hx;exact nomatch hx
  ·intro x y hx hy _; exact hx.trans hy.symm
  ·intro x hx; simp only [De] at hx; rw [nd] at hx; cases hx
  ·intro x hx; simp only [Re] at hx; rw [nr] at hx; cases hx
  ·intro x hx; simp only [De] at hx; rw [nd] at hx; cases hx
 ·have n0 : M.node 0 = linked false 1 anchorNode:=by rw [hn,if_pos rfl]
  have nr : ∀ x,(M.node x).retired = false:=by
   intro x; rw [hn]; split
   ·rfl
   ·split <;> rfl
  refine ⟨?_,?_,?_,?_,?_⟩
  ·intro x s d h;obtain ⟨rfl,rfl,rfl⟩:=(hs x s d).1 h;exact ⟨by simp only [Us]; rw [n0]; rfl,by decide,by decide,Int.le_refl _,by decide,.inl rfl,.inl rfl⟩
  ·intro x d h; rw [hp] at h; cases h
  ·intro x s d h;obtain ⟨rfl,rfl,rfl⟩:=(hs x s d).1 h;left; simp only [Ld]; rw [n0]; rfl
  ·intro x s d _ hr; simp only [Re] at hr; rw [nr] at hr; cases hr
  ·intro h;have : (0 : Nat) = _:=h;omega
 ·have nd : ∀ x,(M.node x).dead = false:=by
   intro x; rw [hn]; split
   ·rfl
   ·split <;> rfl
  refine ⟨?_,?_,?_,?_,?_,?_,⟨Int.le_refl _,Int.le_refl _⟩,Nat.zero_le _,fun _=>⟨rfl,rfl⟩⟩
  ·intro x hx;by_cases h0 : x = 0
   ·exact .inr (.inl h0)
   ·by_cases h1 : x = 1
    ·exact .inl h1
    ·simp only [Us] at hx;rw [hn,if_neg h0,if_neg h1] at hx;exact nomatch hx
  ·intro x hx; simp only [De] at hx; rw [nd] at hx; cases hx
  ·intro x hx; simp only [De] at hx; rw [nd] at hx; cases hx
  ·intro x hx;left;simp only [Ho,Us] at hx ⊢;rw [hn] at hx ⊢;by_cases h0 : x = 0
   ·rw [if_pos h0]; rfl
   ·rw [if_neg h0] at hx ⊢;by_cases h1 : x = 1
    ·rw [if_pos h1]; rfl
    ·rw [if_neg h1] at hx; exact nomatch hx
  ·intro i j t u x hi _ hf _;have : t = PThread.zero:=(List.mem_replicate.1 (List.mem_of_getElem? hi)).2;rw [this] at hf; exact nomatch hf.1
  ·rintro x ⟨n,h,_⟩; cases h
 ·intro i t ht;have htz : t = PThread.zero:=(List.mem_replicate.1 (List.mem_of_getElem? ht)).2;subst htz;have nb : ∀ {p : Prop},PThread.zero.busy = true->p:=fun b=>nomatch b
  refine Th.of6 nb nb nb nb rfl nb ?_ nb nb nb nb nb nb nb nb nb nb nb;intro x hx;constructor
  ·intro h;exfalso;simp only [Ho,Us] at h hx;rw [hn] at h hx;by_cases h0 : x = 0
   ·rw [if_pos h0] at h;have : (-1 : Int) = i:=h;omega
   ·rw [if_neg h0] at h hx;by_cases h1 : x = 1
    ·rw [if_pos h1] at h;have : (-1 : Int) = i:=h;omega
    ·rw [if_neg h1] at hx; exact nomatch hx
  ·rintro ⟨h,_⟩; exact nomatch h
theorem count_flip {α : Type} (p : α->Bool) : ∀ {l : List α} {k : Nat} {x : α} (y : α),l[k]? = some x->count p l + (if p y then 1 else 0) = count p (l.set k y) + (if p x then 1 else 0)
 | [],k,x,y,h=>by simp at h
 | z :: r,0,x,y,h=>by
  simp at h; subst h;unfold count;rw [List.set_cons_zero,List.filter_cons,List.filter_cons];by_cases h1 : p z = true <;> by_cases h2 : p y = true <;> simp [h1,h2] <;> omega
 | z :: r,k + 1,x,y,h=>by
  have ih:=count_flip p (l:=r) (k:=k) (x:=x) y (by simpa using h);unfold count at *;rw [List.set_cons_succ,List.filter_cons,List.filter_cons];by_cases h1 : p z = true
  ·simp only [h1,if_true,List.length_cons]; omega
  ·simp only [h1,if_false,Bool.false_eq_true]; exact ih
theorem greatest_le (B : Int) : ∀ (l : List (Int × Int)) (m : Int),m<=B->(∀ p ∈ l,p.2<=B)->l.foldl (fun m p=>if p.2 > m then p.2 else m) m<=B
 | [],m,hm,_=>hm
 | p :: l,m,hm,h=>by
  rw [List.foldl_cons];refine greatest_le B l _ ?_ (fun q hq=>h q (by simp [hq]))
  have:=h p (by simp)
  split <;> omega
theorem spansOkX_hi : ∀ (l : List (Int × Int)),spansOkX l = true->∀ p ∈ l,p.2<=1099511627776
 | [],_,p,hp=>by cases hp
 | q :: l,h,p,hp=>by
  unfold spansOkX at h;simp only [Bool.and_eq_true,isIn_iff,decide_eq_true_eq] at h;rcases List.mem_cons.1 hp with rfl | hp
  ·have:=h.2.1.2; omega
  ·exact spansOkX_hi l h.2.2.2 p hp
theorem newWork_ok {kd ky va : Int} {sp : List (Int × Int)} (h : properB kd ky sp = true) : (newWork kd ky va sp).next = 1/\(newWork kd ky va sp).kind = kd/\(kd = 1\/kd = 2\/kd = 3\/kd = 4)/\(newWork kd ky va sp).locks = 0/\(newWork kd ky va sp).made = []/\(kd≠4->0<=(newWork kd ky va sp).key/\(newWork kd ky va sp).key<=1099511627776/\(newWork kd ky va sp).key = ky)/\(kd = 4->greatestHi (newWork kd ky va sp).spans<=1099511627776/\(newWork kd ky va sp).links = [(0,false)]/\(newWork kd ky va sp).spans = sp)/\(kd≠4->(newWork kd ky va sp).links = [])/\(kd = 1->(newWork kd ky va sp).value = va):=by
 have h0 : checkOp kd ky sp = 0:=of_decide_eq_true h;unfold checkOp at h0;by_cases h1 : kd = 1\/kd = 2\/kd = 3
 ·rw [if_pos h1] at h0;have hk : isIn ky 0 (2 ^ 40) = true:=by
   cases hh : isIn ky 0 (2 ^ 40)
   ·rw [hh] at h0; exact absurd h0 (by decide)
   ·rfl
  rw [isIn_iff] at hk;rcases h1 with e | e | e <;> subst e <;> simp [newWork,PWork.zero] <;> omega
 ·rw [if_neg h1] at h0;by_cases h4 : kd = 4
  ·subst h4;rw [if_pos rfl] at h0;have hk : (isIn sp.length 1 16 && spansOkX sp) = true:=by
    cases hh : (isIn sp.length 1 16 && spansOkX sp)
    ·rw [hh] at h0; exact absurd h0 (by decide)
    ·rfl
   rw [Bool.and_eq_true] at hk;refine ⟨rfl,rfl,.inr (.inr (.inr rfl)),rfl,rfl,fun e=>absurd rfl e,fun _=>⟨?_,rfl,rfl⟩,fun e=>absurd rfl e,fun e=>by cases e⟩;show greatestHi sp<=_;exact greatest_le _ sp 0 (by decide) (spansOkX_hi sp hk.2)
  ·rw [if_neg h4] at h0; exact absurd h0 (by decide)
section
variable {D D' : PlD} {i : Nat} {t : PThread} {o : OpV} {T N E L : Int}
theorem ok_begin (hok : D.ok) (hB : Begun D i t o D') : D'.ok:=by
 have hok' : D.bs = D.P.ts.map (·.busy):=hok;show D'.bs = D'.P.ts.map (·.busy);by_cases hh : t.busy = true\/properB o.kind o.key o.spans = false
 ·obtain ⟨q1,q2,_⟩:=hB.no hh;rw [q1,q2]; exact hok'
 ·simp only [not_or,Bool.not_eq_true,Bool.not_eq_false] at hh;obtain ⟨q1,q2,_⟩:=hB.yes hh.1 hh.2;rw [q1,q2,hok'];unfold PSt.setT;rw [List.map_set]
theorem cfg_trans {a b : PlD} (h : b.k = a.k/\b.t = a.t/\b.n = a.n/\b.e = a.e/\b.l = a.l) (g : a.k = 0/\a.t = T/\a.n = N/\a.e = E/\a.l = L) : b.k = 0/\b.t = T/\b.n = N/\b.e = E/\b.l = L:=by
 obtain ⟨a1,a2,a3,a4,a5⟩:=h;obtain ⟨b1,b2,b3,b4,b5⟩:=g;exact ⟨a1.trans b1,a2.trans b2,a3.trans b3,a4.trans b4,a5.trans b5⟩
theorem inv_begin {C : Int->Prop} (h : Inv C D.P) (ht : D.P.ts[i]? = some t) (hB : Begun D i t o D') : Inv C D'.P/\D'.P.mem = D.P.mem:=by
 by_cases hh : t.busy = true\/properB o.kind o.key o.spans = false
 ·obtain ⟨q1,_⟩:=hB.no hh;rw [q1]; exact ⟨h,rfl⟩
 ·simp only [not_or,Bool.not_eq_true,Bool.not_eq_false] at hh;obtain ⟨q1,_⟩:=hB.yes hh.1 hh.2;rw [q1];obtain ⟨w1,w2,w3,w4,w5,w6,w7,w8,_⟩:=newWork_ok (va:=o.value) hh.2;exact ⟨h.begin ht hh.1 w1 (by rw [w2]; exact w3) w4 w5 (fun e=>by rw [w2] at e; exact ⟨(w6 e).1,(w6 e).2.1⟩) (fun e=>by rw [w2] at e; exact ⟨(w7 e).1,(w7 e).2.1⟩) (fun e=>by rw [w2] at e; exact w8 e),rfl⟩
end
end
section
def tk (d : DeedV) : Int:=if d.a.did = true then (if d.op.kind = 1 then 1 else if d.op.kind = 2 then -1 else 0) else 0
section
variable {C C' : Int->Prop} {i j : Nat} {t : PThread} {P : PSt} {D D' : PlD} {o : OpV} {T N E L : Int}
theorem three_next (h : (P.step i t).2 = 3) : t.work.next = 13:=by
 unfold PSt.step at h;split at h
 ·cases h
 ·cases h
 ·cases h
 ·assumption
 ·split at h
  ·unfold PSt.read at h;simp only at h;split at h <;> cases h
  ·unfold PSt.update at h;split at h
   ·cases h
   ·unfold PSt.lock at h;split at h
    ·split at h <;> cases h
    ·cases h
   all_goals cases h
theorem sweep_eln (P : PSt) : P.doSweep.1.mem.es.length = P.mem.es.length/\P.doSweep.1.limit = P.limit:=by
 unfold PSt.doSweep;simp only;split
 ·exact ⟨rfl,rfl⟩
 ·split
  ·split <;> exact ⟨rfl,rfl⟩
  ·split
   ·exact ⟨drop_eslen _,rfl⟩
   ·exact ⟨freesIf_eslen _ _ _ _,rfl⟩
theorem invx_fresh (hE : 1<=E) : InvX (fun x=>x = 0) (freshP 0 T N E L):=by
 obtain ⟨hw,hl,hn,hp,hs⟩:=fresh_seen N.toNat E.toNat (by omega);have hm : (freshP 0 T N E L).mem = freshMem N.toNat E.toNat:=rfl;have hts : ∀ t ∈ (freshP 0 T N E L).ts,t = PThread.zero:=fun t ht=>(List.mem_replicate.1 ht).2
 refine ⟨fun x hx h0=>absurd hx h0,?_,?_,?_⟩
 ·rintro x (rfl | ⟨j,u,hj,hu⟩)
  ·exact ⟨0,1,(hs 0 0 1).2 ⟨rfl,rfl,rfl⟩⟩
  ·rw [hts u (List.mem_of_getElem? hj)] at hu; exact nomatch hu.1
 ·rw [hm];obtain ⟨en,hen⟩ : ∃ en : Nat,E.toNat = en + 1:=⟨E.toNat - 1,by omega⟩;rw [hen,fresh_mem];have one : ∀ (i : Nat) a,(⟨true,false,0,false,1,0⟩ :: List.replicate en PEntry.zero : List PEntry)[i]? = some a->stp a = true->i = 0:=by
   intro i a hi hu;cases i with
   | zero=>rfl
   | succ i =>
    have hi' : (List.replicate en PEntry.zero)[i]? = some a:=hi
    have:=(List.mem_replicate.1 (List.mem_of_getElem? hi')).2
    subst this; exact nomatch hu
  intro i j a b ha hb sa sb _ _;rw [one i a ha sa,one j b hb sb]
 ·rw [hm,hn 0,if_pos rfl]; exact ⟨rfl,rfl⟩
end
end
section
section
variable {C : Int->Prop} {Rt : Int->List (Int × Int)} {Vt : Int->Int->Prop} {i j : Nat} {t t' : PThread} {P : PSt} {x s d : Int} {N E L T : Int}
end
end
section
section
variable {C : Int->Prop} {Rt : Int->List (Int × Int)} {Vt : Int->Int->Prop} {i j : Nat} {t t' : PThread} {P : PSt} {x s d : Int} {N E L T n e c : Int} {ps : List (Int × Int)}
theorem InvV.begin (hV : InvV C Rt Vt P) (ht : P.ts[i]? = some t) (hb : t.busy = false) {k : PWork} (h1 : k.next = 1) : InvV C Rt Vt { P with ts:=P.ts.set i { t with busy:=true,work:=k } }:=by
 have hi:=(List.getElem?_eq_some_iff.1 ht).1;have nb : ∀ {p : Prop},t.busy = true->p:=fun q=>by rw [hb] at q; cases q
 have vs : ∀ x s,Vs x s { t with busy:=true,work:=k } ↔ Vs x s t:=fun x s=>⟨fun q=>by have : 9<=k.next:=q.2.2.1; omega,fun q=>nb q.1⟩
 have ver : ∀ {R V T},Ver P.mem P.ts R V T->Ver P.mem (P.ts.set i { t with busy:=true,work:=k }) R V T:=by
  intro R V T hR;have hve:=fun x s d=>ve_same (M:=P.mem) (M':=P.mem) ht rfl vs x s d
  exact hR.mono (fun _ _=>rfl) (fun x hx=>⟨rfl,(hR.d x hx).1,(hR.d x hx).2.2.2⟩) (fun x s d _ hv _ _=>(hve x s d).2 hv) (fun x s d _ hv _=>(hve x s d).1 hv)
 obtain ⟨now,set,fv,rd⟩:=hV;refine ⟨ver now,?_,?_,?_⟩
 ·intro x;show Vt P.clock x ↔ _;rw [set];have e1 : Ex (P.ts.set i { t with busy:=true,work:=k }) (Removing x) ↔ Ex P.ts (Removing x):=ex_iff ht ⟨fun q=>by have : k.next = 9\/k.next = 10:=q.2.2.1; omega,fun q=>nb q.1⟩;have e2 : Ex (P.ts.set i { t with busy:=true,work:=k }) (Fresh10 x) ↔ Ex P.ts (Fresh10 x):=ex_iff ht ⟨fun q=>by have : k.next = 10:=q.2.2.1; omega,fun q=>nb q.1⟩;show _ ↔ (C x/\x≠0/\¬ Ex (P.ts.set i { t with busy:=true,work:=k }) (Removing x))\/Ex (P.ts.set i { t with busy:=true,work:=k }) (Fresh10 x);rw [e1,e2]
 ·intro j u hj x hf;have hj' : (P.ts.set i { t with busy:=true,work:=k })[j]? = some u:=hj;rw [List.getElem?_set] at hj';by_cases e : i = j
  ·subst e;simp [hi] at hj'; subst hj';have : k.next = 8\/k.next = 10:=hf.2.2.1
   omega
  ·rw [if_neg e] at hj'; exact fv j u hj' x hf
 ·intro j u hj hr;have hj' : (P.ts.set i { t with busy:=true,work:=k })[j]? = some u:=hj;rw [List.getElem?_set] at hj';by_cases e : i = j
  ·subst e;simp [hi] at hj'; subst hj';have : 3<=k.next:=hr.2.2.1
   omega
  ·rw [if_neg e] at hj'; exact ver (rd j u hj' hr)
theorem InvR.begin (hR : InvR Rt Vt P) (ht : P.ts[i]? = some t) {k : PWork} (h1 : k.next = 1) (h2 : k.noted = []) (h3 : k.kind = 4->spansOkX k.spans = true) : InvR Rt Vt { P with ts:=P.ts.set i { t with busy:=true,work:=k } }:=by
 have hi:=(List.getElem?_eq_some_iff.1 ht).1;intro j u hj;have hj' : (P.ts.set i { t with busy:=true,work:=k })[j]? = some u:=hj;rw [List.getElem?_set] at hj';by_cases e : i = j
 ·subst e;simp [hi] at hj'; subst hj';refine ⟨fun _=>h3,fun _ _ _=>h2,?_,?_,?_⟩
  ·intro _ _ q; have : k.next = 4:=q; omega
  ·intro _ _ q; have : k.next = 4:=q; omega
  ·intro _ _ q; have : k.next = 13:=q; omega
 ·rw [if_neg e] at hj'; exact hR j u hj'
theorem InvR.init (h : ∀ t ∈ P.ts,t.busy = false) : InvR Rt Vt P:=fun j u hj=>RPos.upd (fun b=>by have:=h u (List.mem_of_getElem? hj); rw [b] at this; cases this)
theorem newWork_rd {kd ky va : Int} {sp : List (Int × Int)} (h : properB kd ky sp = true) : (newWork kd ky va sp).noted = []/\((newWork kd ky va sp).kind = 4->spansOkX (newWork kd ky va sp).spans = true):=by
 obtain ⟨_,w2,w3,_,_,_,w7,_⟩:=newWork_ok (va:=va) h;constructor
 ·unfold newWork;simp only;split
  ·rfl
  ·split
   ·rfl
   ·split <;> rfl
 ·intro e;rw [w2] at e;rw [(w7 e).2.2];have h0 : checkOp kd ky sp = 0:=of_decide_eq_true h;unfold checkOp at h0;rw [if_neg (by omega),if_pos e] at h0;cases hh : (isIn sp.length 1 16 && spansOkX sp)
  ·rw [hh] at h0; exact absurd h0 (by decide)
  ·exact (Bool.and_eq_true_iff.1 hh).2
end
end
section
section
variable {C : Int->Prop} {P : PSt}
theorem InvV.none (h : Inv C P) (hX : InvX C P) (hidle : ∀ t ∈ P.ts,t.busy = false) (hC : ∀ x,C x->x = 0) : InvV C (fun _=>[]) (fun _ _=>False) P:=by
 have nob : ∀ {p : PThread->Prop},(∀ t,p t->t.busy = true)->¬ Ex P.ts p:=by
  rintro p hp ⟨j,u,hj,hu⟩
  have:=hidle u (List.mem_of_getElem? hj)
  rw [hp u hu] at this; cases this
 refine ⟨⟨?_,?_,?_,?_,?_⟩,?_,?_,?_⟩
 ·intro p; simp
 ·intro x y hx; exact hx.elim
 ·intro x hx; exact hx.elim
 ·intro x hx;have hx0 : x = 0:=hx.elim id (fun q=>q.elim);subst hx0;have hxC : C 0:=h.n.a0.1;obtain ⟨s,d,en,he,he1,_⟩:=hX.en 0 (.inl hxC);obtain ⟨m,q1,q2,q3⟩:=maxE (isSt 0 false) P.mem.es ⟨en,he,he1⟩;have hsd : Sd P.mem 0 m.stamp m.dst:=⟨m,q1,q2,rfl,rfl⟩;have hld : m.dst = Ld P.mem 0:=by
   rcases h.e.nw 0 m.stamp m.dst hsd with z | ⟨s',z1,z2⟩
   ·exact z
   ·exfalso;rcases z2 with ⟨d',e',he',h1',rfl,_⟩ | z2
    ·have:=q3 e' he' h1'; omega
    ·exact nob (fun t q=>q.1) z2
  obtain ⟨_,_,_,n4,n5,n6⟩:=h.n.mc 0 hxC;refine ⟨m.stamp,Ld P.mem 0,.inl (by rw [<- hld]; exact hsd),(h.e.ms _ _ _ hsd).2.2.2.1,?_,?_,n6,?_⟩
  ·rintro s' d' (⟨e',he',h1',rfl,rfl⟩ | ⟨z,_⟩) _
   ·have hle:=q3 e' he' h1';rcases (show e'.stamp < m.stamp\/e'.stamp = m.stamp by omega) with w | w
    ·exact .inl w
    ·right;obtain ⟨a,ha'⟩:=List.mem_iff_getElem?.1 he';obtain ⟨b,hb'⟩:=List.mem_iff_getElem?.1 q1;simp only [isSt,Bool.and_eq_true,beq_iff_eq,Bool.not_eq_true'] at h1' q2
     have:=hX.uq a b e' m ha' hb' (by unfold stp; rw [h1'.1,h1'.2.1]; rfl) (by unfold stp; rw [q2.1,q2.2.1]; rfl) (h1'.2.2.1.trans q2.2.2.1.symm) w
     subst this;rw [ha'] at hb'; injection hb' with hb'
     rw [hb',hld]; exact ⟨rfl,rfl⟩
   ·exact absurd z (nob (fun t q=>q.1))
  ·rcases n4 with z | z
   ·exact .inl z
   ·left;exact absurd (hC _ z) n5
  ·intro p hp; cases hp
 ·exact List.Pairwise.nil
 ·intro x;constructor
  ·intro q; exact q.elim
  ·rintro (⟨q1,q2,_⟩ | q)
   ·exact q2 (hC x q1)
   ·exact nob (fun t q=>q.1) q
 ·intro j u hj x hf
  have:=hidle u (List.mem_of_getElem? hj)
  rw [hf.1] at this; cases this
 ·intro j u hj hr
  have:=hidle u (List.mem_of_getElem? hj)
  rw [hr.1] at this; cases this
end
end
section
structure Ut (P : PSt) (i : Nat) (t t' : PThread) : Prop where
 ts : (P.step i t).1.ts = P.ts.set i t'
 bz : t.work.next≠13->t'.busy = true
 lo : t.work.next<=5->t'.work.next<=6
 n6 : t.work.next = 6->t'.work.next = 4\/t'.work.next = 7\/(t' = { t with work:=t.work.settle { stamp:=P.clock } }/\P.outdated t.work = false/\P.meetsKey t.work = (t.work.kind == 1))
 n7 : t.work.next = 7->(t' = { t with work:=t.work.settle { err:=7 } }/\(P.mem.room.1 < (P.needs t.work.kind).1\/P.mem.room.2 < (P.needs t.work.kind).2))\/t'.work.next = 8
 n9 : 9<=t.work.next->t.work.next<=12->t'.work.next = t.work.next + 1/\t'.work.ans = t.work.ans
 n13 : t.work.next = 13->t' = t.leave
section
variable {C : Int->Prop} {P : PSt} {i : Nat} {t : PThread}
theorem Inv.upTo (h : Inv C P) (ht : P.ts[i]? = some t) (hb : t.busy = true) (hk : t.work.kind = 1\/t.work.kind = 2) : ∃ t',Ut P i t t':=by
 have hnx:=(h.th i t ht).nx hb;have same : P.ts.set i t = P.ts:=by
  apply List.ext_getElem?;intro j;rw [List.getElem?_set];split
  ·next e=>subst e; split <;> simp_all
  ·rfl
 have fin : ∀ {Q : PSt} {k : PWork} {n : Int},P.step i t = (Q.setW i k,n)->Q.ts = P.ts->(P.step i t).1.ts = P.ts.set i { t with work:=k }:=by
  intro Q k n hs hQ;rw [hs];show (Q.setW i k).ts = _;rw [setW_to Q (t:=t) (by rw [hQ]; exact ht) k,hQ]
 rcases (show t.work.next = 1\/t.work.next = 2\/t.work.next = 3\/t.work.next = 13\/(4<=t.work.next/\t.work.next<=12) by omega) with hn | hn | hn | hn | hn
 ·have hs : P.step i t = (P.setT i { t with slot:=1,work:={ t.work with next:=2 } },1):=by unfold PSt.step; simp only [hn]
  exact ⟨{ t with slot:=1,work:={ t.work with next:=2 } },by rw [hs]; rfl,fun _=>hb,fun _=>by show 2<=6; omega,fun e=>by omega,fun e=>by omega,fun e=>by omega,fun e=>by omega⟩
 ·have hs : P.step i t = (P.setT i { t with work:={ t.work with time:=P.clock,next:=3 } },1):=by unfold PSt.step; simp only [hn]
  exact ⟨{ t with work:={ t.work with time:=P.clock,next:=3 } },by rw [hs]; rfl,fun _=>hb,fun _=>by show 3<=6; omega,fun e=>by omega,fun e=>by omega,fun e=>by omega,fun e=>by omega⟩
 ·have hs : P.step i t = (P.setT i { t with slot:=2,work:=t.work.home },1):=by unfold PSt.step; simp only [hn]
  exact ⟨{ t with slot:=2,work:=t.work.home },by rw [hs]; rfl,fun _=>hb,fun _=>by show 4<=6; omega,fun e=>by omega,fun e=>by omega,fun e=>by omega,fun e=>by omega⟩
 ·have hs : P.step i t = (P.setT i t.leave,3):=by unfold PSt.step; simp only [hn]
  exact ⟨t.leave,by rw [hs]; rfl,fun e=>absurd hn e,fun e=>by omega,fun e=>by omega,fun e=>by omega,fun _ e=>by omega,fun _=>rfl⟩
 ·have hsm:=step_mid (i:=i) P hn.1 hn.2;rw [if_neg (by omega)] at hsm;unfold PSt.update at hsm;rcases (show t.work.next = 4\/t.work.next = 5\/t.work.next = 6\/t.work.next = 7\/t.work.next = 8\/t.work.next = 9\/t.work.next = 10\/t.work.next = 11\/t.work.next = 12 by omega) with hn | hn | hn | hn | hn | hn | hn | hn | hn
  ·simp only [hn] at hsm;refine ⟨_,fin hsm rfl,fun _=>hb,fun _=>?_,fun e=>by omega,fun e=>by omega,fun e=>by omega,fun e=>by omega⟩;show (P.walk t.work).next<=6
   unfold PSt.walk;split
   ·show t.work.next<=6; omega
   ·show 5<=6; omega
  ·simp only [hn] at hsm;unfold PSt.lock at hsm;split at hsm
   ·split at hsm
    ·refine ⟨_,fin hsm rfl,fun _=>hb,fun _=>?_,fun e=>by omega,fun e=>by omega,fun e=>by omega,fun e=>by omega⟩;show (if _ then 6 else t.work.next)<=6;split <;> omega
    ·exact ⟨t,by rw [hsm]; exact same.symm,fun _=>hb,fun _=>by omega,fun e=>by omega,fun e=>by omega,fun e=>by omega,fun e=>by omega⟩
   ·exact ⟨_,fin hsm rfl,fun _=>hb,fun _=>by show 6<=6; omega,fun e=>by omega,fun e=>by omega,fun e=>by omega,fun e=>by omega⟩
  ·simp only [hn] at hsm;unfold PSt.check at hsm;cases ho : P.outdated t.work
   ·rw [ho] at hsm;simp only [Bool.false_eq_true,if_false] at hsm;by_cases hm : (P.meetsKey t.work == (t.work.kind == 1)) = true
    ·rw [if_pos hm] at hsm;exact ⟨_,fin hsm rfl,fun _=>hb,fun e=>by omega,fun _=>.inr (.inr ⟨rfl,ho,by simpa using hm⟩),fun e=>by omega,fun e=>by omega,fun e=>by omega⟩
    ·rw [if_neg hm] at hsm;exact ⟨_,fin hsm rfl,fun _=>hb,fun e=>by omega,fun _=>.inr (.inl rfl),fun e=>by omega,fun e=>by omega,fun e=>by omega⟩
   ·rw [ho,if_pos rfl] at hsm;exact ⟨_,fin hsm rfl,fun _=>hb,fun e=>by omega,fun _=>.inl rfl,fun e=>by omega,fun e=>by omega,fun e=>by omega⟩
  ·simp only [hn] at hsm;unfold PSt.prepare at hsm;split at hsm
   ·next hr=>exact ⟨_,fin hsm rfl,fun _=>hb,fun e=>by omega,fun e=>by omega,fun _=>.inl ⟨rfl,hr⟩,fun e=>by omega,fun e=>by omega⟩
   ·exact ⟨_,fin hsm rfl,fun _=>hb,fun e=>by omega,fun e=>by omega,fun _=>.inr rfl,fun e=>by omega,fun e=>by omega⟩
  ·obtain ⟨t',hto⟩:=h.goTo ht hb;refine ⟨t',hto.ts,fun _=>?_,fun e=>by omega,fun e=>by omega,fun e=>by omega,fun e=>by omega,fun e=>by omega⟩
   have:=hto.n8 hn
   split at this
   ·rw [this]; exact hb
   ·split at this
    ·rw [this]; exact hb
    ·rw [this]; exact hb
  ·simp only [hn] at hsm;exact ⟨_,fin hsm rfl,fun _=>hb,fun e=>by omega,fun e=>by omega,fun e=>by omega,fun _ _=>⟨by rw [hn],rfl⟩,fun e=>by omega⟩
  ·simp only [hn] at hsm;exact ⟨_,fin hsm rfl,fun _=>hb,fun e=>by omega,fun e=>by omega,fun e=>by omega,fun _ _=>⟨by rw [hn],rfl⟩,fun e=>by omega⟩
  ·simp only [hn] at hsm;exact ⟨_,fin hsm rfl,fun _=>hb,fun e=>by omega,fun e=>by omega,fun e=>by omega,fun _ _=>⟨by rw [hn],rfl⟩,fun e=>by omega⟩
  ·simp only [hn] at hsm;unfold PSt.unlock at hsm;exact ⟨_,fin hsm rfl,fun _=>hb,fun e=>by omega,fun e=>by omega,fun e=>by omega,fun _ _=>⟨by rw [hn],rfl⟩,fun e=>by omega⟩
end
end
end Go.Proofs.YtfccelbmacjifaaGreat
