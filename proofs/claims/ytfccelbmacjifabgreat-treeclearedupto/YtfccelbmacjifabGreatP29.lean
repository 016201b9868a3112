import Derived.Test.YtfccelbmacjifabGreatP0
import Derived.Test.YtfccelbmacjifabGreatP28
import Derived.Test.YtfccelbmacjifabGreatP26
import Derived.Test.YtfccelbmacjifabGreatRows
import Derived.Test.YtfccelbmacjifabGreatP25
import Derived.Test.YtfccelbmacjifabGreatP20
import Derived.ProofKit
import Derived.Lib.SmallJoins
import Derived.OpenShut
import Derived.ChangeOld
import Derived.JoinedCond
set_option linter.unusedSimpArgs false
set_option maxRecDepth 100000
set_option maxHeartbeats 4000000
namespace Go.Proofs.YtfccelbmacjifabGreat
section
open Go.RowKit
structure Turning (K : Kin) (f N : Nat) (D : PlD) (k m s : Nat) (D1 : PlD) : Prop where
 pot : ∀ n,Pot K N D n->∃ n',n' + m<=n/\Pot K N D1 n'
 still : m = 0->D1.P = D.P/\∀ j u,f<=j->j < k->D.P.ts[j]? = some u->u.busy = true->(D.P.step j u).2 = 2
 none_ : s = 0->D1.P = D.P/\m = 0/\∀ j u,f<=j->j < k->D.P.ts[j]? = some u->u.busy = false
 some_ : s≠0->m = 0->∃ j u,f<=j/\D.P.ts[j]? = some u/\u.busy = true
 le : m<=k/\s<=k
section
variable {K : Kin} {own : Own} {z : Nat} {w w' : World} {pb : Nat} {D D1 D2 : PlD} {i f k m s N b : Nat} {t : PThread} {J : PlD->Prop} {T Nn E L : Int}
theorem Turning.start : Turning K f N D f 0 0 D:=⟨fun n h=>⟨n,by omega,h⟩,fun _=>⟨rfl,fun j u h1 h2=>by omega⟩,fun _=>⟨rfl,rfl,fun j u h1 h2=>by omega⟩,fun h=>absurd rfl h,by omega⟩
theorem Turning.skip (h : Turning K f N D k m s D1) (hk : D1.P.ts[k]? = some t) (hb : t.busy = false) : Turning K f N D (k + 1) m s D1:=by
 refine ⟨h.pot,?_,?_,h.some_,by have:=h.le; omega⟩
 ·intro hm;obtain ⟨h1,h2⟩:=h.still hm;refine ⟨h1,?_⟩;intro j u hj hjk hu hub;rcases (show j < k\/j = k by omega) with e | e
  ·exact h2 j u hj e hu hub
  ·subst e; rw [<- h1,hk] at hu; injection hu with hu; subst hu; rw [hb] at hub; cases hub
 ·intro hs;obtain ⟨h1,h2,h3⟩:=h.none_ hs;refine ⟨h1,h2,?_⟩;intro j u hj hjk hu;rcases (show j < k\/j = k by omega) with e | e
  ·exact h3 j u hj e hu
  ·subst e; rw [<- h1,hk] at hu; injection hu with hu; subst hu; exact hb
theorem Turning.wait (h : Turning K f N D k m s D1) (hf : f<=k) (hp : ∃ n,K.Pot N D1.P n) (hk : D1.P.ts[k]? = some t) (hb : t.busy = true) (hs : Stepped D1 k t D2) (h2 : (D1.P.step k t).2 = 2) : Turning K f N D (k + 1) m (s + 1) D2:=by
 obtain ⟨_,hC⟩:=hp;have hP2 : D2.P = D1.P:=by rw [hs.P,K.wait hC hk hb h2]
 refine ⟨?_,?_,fun e=>by omega,?_,by have:=h.le; omega⟩
 ·intro n hn;obtain ⟨n',q1,q2⟩:=h.pot n hn;exact ⟨n',q1,(q2.wait hk hb hs h2).1⟩
 ·intro hm;obtain ⟨g1,g2⟩:=h.still hm;refine ⟨hP2.trans g1,?_⟩;intro j u hj hjk hu hub;rcases (show j < k\/j = k by omega) with e | e
  ·exact g2 j u hj e hu hub
  ·subst e; rw [<- g1,hk] at hu; injection hu with hu; subst hu; rw [<- g1]; exact h2
 ·intro _ hm;obtain ⟨g1,_⟩:=h.still hm;exact ⟨k,t,hf,by rw [<- g1]; exact hk,hb⟩
theorem Turning.move (h : Turning K f N D k m s D1) (hk : D1.P.ts[k]? = some t) (hb : t.busy = true) (hs : Stepped D1 k t D2) (h2 : (D1.P.step k t).2≠2) : Turning K f N D (k + 1) (m + 1) (s + 1) D2:=by
 refine ⟨?_,fun e=>by omega,fun e=>by omega,fun _ e=>by omega,by have:=h.le; omega⟩;intro n hn;obtain ⟨n',q1,q2⟩:=h.pot n hn;obtain ⟨n'',q3,q4⟩:=q2.move hk hb hs h2;exact ⟨n'',by omega,q4⟩
theorem Turning.done (hJ : Plays K f T Nn E L J) (hj : J D) (h : Turning K f N D D.P.ts.length m s D1) (hm : m = 0) : s = 0:=by
 by_cases hs : s = 0
 ·exact hs
 ·exfalso;obtain ⟨j,u,h1,h2,h3⟩:=h.some_ hs hm;obtain ⟨_,hC⟩:=hJ.inv hj;obtain ⟨j',u',g1,g2,g3,g4⟩:=K.live hC h2 h3;have hf : f<=j':=by
   rcases Nat.lt_or_ge j' f with hlt | hge
   ·have hl:=hJ.low hj hlt g1 g2;rcases g4 with e | e
    ·omega
    ·omega
   ·exact hge
  exact g3 ((h.still hm).2 j' u' hf (List.getElem?_eq_some_iff.1 g1).1 g1 g2)
theorem Psteps_busy (h : PlAt own z w pb D) (hb : D.bs[i]? = some true) (ht : D.P.ts[i]? = some t) (htb : t.busy = true) (hN : D.N < 2 ^ 39) (hdl : D.deeds.length<=2 ^ 38) :
  Calls Tryz.prog 35 #[pv pb,.int .i64 i] w fun r w'=>r = .returned (.tuple #[.int .i64 (D.P.step i t).2,.bool true])/\PlGoes own z w pb w' (Stepped D i t):=by
 by_cases h3 : (D.P.step i t).2 = 3
 ·rw [h3]; exact Psteps_end h hb ht htb hN hdl h3
 ·exact Psteps_on h hb ht htb hN h3
theorem Pturn_calls (hJ : Plays K f T Nn E L J) (h : PlAt own z w pb D) (hj : J D) (hS : Sz b D) (hb : b<=2 ^ 37) (hf : (f : Int) < T) :
  Calls Tryz.prog 47 #[pv pb,.int .i64 f] w fun r w'=>∃ m s : Nat,r = .returned (.tuple #[.int .i64 m,.int .i64 s,.bool true])/\m<=8/\PlGoes own z w pb w' (fun D1=>J D1/\Sz (b + 8) D1/\Turning K f Nn.toNat D D.P.ts.length m s D1):=by
 have hT8:=h.fit.thr;have hTt : D.t = D.P.ts.length:=h.thr;obtain ⟨q,hq⟩ : ∃ q : Nat,Hid (q = D.P.ts.length):=⟨_,rfl⟩;have hTq : Hid (T = q):=by show T = q; rw [<- (hJ.cfg hj).2.1,hTt,hq.out]
 have hq8 : q<=8:=by have:=hq.out; omega
 have hfq : f < q:=by have:=hTq.out; omega
 have H:=(mkH (PlAt own z w pb D/\J D/\Sz b D) <|⟨h,hj,hS⟩);have HJ:=(mkH (Plays K f T Nn E L J) <|hJ);have HL:=(mkH (∀ (own1 : Own) (w1 : World) (D1 : PlD),PlAt own1 z w1 pb D1->J D1->D1.P.ts.length = q/\D1.t = q) <|by
  intro own1 w1 D1 h1 j1;have h2:=h1.thr;have h3:=(hJ.cfg j1).2.1;have h4:=hTq.out;have : (D1.P.ts.length : Int) = q:=by rw [<- h2,h3,h4]
  exact ⟨by omega,by rw [h3,h4]⟩)
 have HQ:=(mkH (∀ (w' : World) (m s : Nat),PlGoes own z w pb w' (fun D1=>J D1/\Sz (b + 8) D1/\Turning K f Nn.toNat D q m s D1)->PlGoes own z w pb w' (fun D1=>J D1/\Sz (b + 8) D1/\Turning K f Nn.toNat D D.P.ts.length m s D1)) <|by
  intro w' m s hh; rw [hq.out] at hh; exact hh)
 clear h hj hS hT8 hTt hJ hq hTq hf;unfold pv
 go_enter Tryz.func47,Tryz.ntmps47
 go_wp2
 go_loopw [7,8,9] (fun v1 v2 v3 wr=>∃ k m s : Nat,f<=k/\k<=q/\m<=8/\s<=8/\v1 = .int .i64 m/\v2 = .int .i64 s/\v3 = .int .i64 k/\Hid (PlGoes own z w pb wr (fun D1=>J D1/\Sz (b + k) D1/\Turning K f Nn.toNat D k m s D1))) (fun _ _ v3 _=>q - (intOf v3).toNat)
 case atStart=>exact ⟨f,0,0,Nat.le_refl _,by omega,by omega,by omega,rfl,rfl,rfl,own,D,H.out.1,Ext.refl _ _,Fr.refl _ _,H.out.2.1,H.out.2.2.mono (by omega),Turning.start⟩
 case round =>
  clear H;obtain ⟨k,m,s,hfk,hkq,hm8,hs8,rfl,rfl,rfl,HG⟩:=hrel;obtain ⟨own1,D1,hP,hE,hF,hj1,hS1,hTu⟩:=HG.out;obtain ⟨l1,l2⟩:=HL.out own1 wr D1 hP hj1;have HP:=(mkH (PlAt own1 z wr pb D1/\J D1/\Sz (b + k) D1/\Turning K f Nn.toNat D k m s D1) <|⟨hP,hj1,hS1,hTu⟩);have HX:=(mkH (Ext own own1 w/\FrP own z w wr) <|⟨hE,hF⟩);have hok : D1.ok:=HJ.out.ok hj1;by_cases hlt : k < q
  ·have hkl : k < D1.P.ts.length:=by omega
   have ht1 : D1.P.ts[k]? = some D1.P.ts[k]:=List.getElem?_eq_getElem hkl;generalize D1.P.ts[k] = t1 at ht1;have hbs : D1.bs[k]? = some t1.busy:=by
    have hok' : D1.bs = D1.P.ts.map (·.busy):=hok;rw [hok',List.getElem?_map,ht1]; rfl
   obtain ⟨g,gc,hv,hc,hz,hg,hgl⟩:=hP.busyRow hbs;have ha:=hP.at_.cell;rw [l1] at hv;simp only [PlD.cells,hv,l2,pv] at ha;have HT:=(mkH (D1.P.ts[k]? = some t1/\D1.bs[k]? = some t1.busy) <|⟨ht1,hbs⟩);have hle:=hTu.le;clear hP hE hF hj1 hS1 hTu HG hok ht1 hbs hv hg;cases hbz : t1.busy
   ·rw [hbz] at hc;have HG2:=(mkH (PlGoes own z w pb wr (fun D1=>J D1/\Sz (b + (k + 1)) D1/\Turning K f Nn.toNat D (k + 1) m s D1)) <|⟨own1,D1,HP.out.1,HX.out.1,HX.out.2,HP.out.2.1,HP.out.2.2.1.mono (by omega),HP.out.2.2.2.skip HT.out.1 hbz⟩);clear HT hbz;go_wp2
    go_roundw
    case rel=>exact ⟨k + 1,m,s,by omega,by omega,hm8,hs8,rfl,rfl,by go_num,HG2⟩
    case measure=>simp [intOf]; omega
   ·rw [hbz] at hc;have HT2:=(mkH (t1.busy = true/\D1.bs[k]? = some true) <|⟨hbz,by rw [<- hbz]; exact HT.out.2⟩);clear hbz;have HN:=(mkH (D1.N < 2 ^ 39/\D1.deeds.length<=2 ^ 38) <|by have:=HP.out.2.2.1; unfold Sz at this; exact ⟨by omega,by omega⟩);go_wp2_with fail;refine (Psteps_busy HP.out.1 HT2.out.2 HT.out.1 HT2.out.1 HN.out.1 HN.out.2).mono ?_;rintro r w2 ⟨rfl,own2,D2,hP2,hE2,hF2,hS2⟩;have HS2:=(mkH (PlGoes own z w pb w2 (fun D2=>J D2/\Sz (b + (k + 1)) D2/\Stepped D1 k t1 D2)) <|PlGoes.trans HX.out.1 HX.out.2 ⟨own2,D2,hP2,hE2,hF2,HJ.out.step HP.out.2.1 HP.out.1.fit HT.out.1 HT2.out.1 hfk hS2,HP.out.2.2.1.step hS2,hS2⟩);have hrg:=(HP.out.1.fit.turn HT.out.1 HT2.out.1).how;clear hP2 hE2 hF2 hS2 ha hc hz;by_cases h2 : (D1.P.step k t1).2 = 2
    ·have HG2:=(mkH (PlGoes own z w pb w2 (fun D2=>J D2/\Sz (b + (k + 1)) D2/\Turning K f Nn.toNat D (k + 1) m (s + 1) D2)) <|by
      obtain ⟨o,d,y1,y2,y3,y4,y5,y6⟩:=HS2.out;exact ⟨o,d,y1,y2,y3,y4,y5,HP.out.2.2.2.wait hfk (HJ.out.inv HP.out.2.1) HT.out.1 HT2.out.1 y6 h2⟩)
     rw [h2];clear h2 HS2 hrg;go_wp2
     go_roundw
     case rel=>exact ⟨k + 1,m,s + 1,by omega,by omega,hm8,by omega,rfl,by go_num,by go_num,HG2⟩
     case measure=>simp [intOf]; omega
    ·have HG2:=(mkH (PlGoes own z w pb w2 (fun D2=>J D2/\Sz (b + (k + 1)) D2/\Turning K f Nn.toNat D (k + 1) (m + 1) (s + 1) D2)) <|by
      obtain ⟨o,d,y1,y2,y3,y4,y5,y6⟩:=HS2.out;exact ⟨o,d,y1,y2,y3,y4,y5,HP.out.2.2.2.move HT.out.1 HT2.out.1 y6 h2⟩)
     generalize (D1.P.step k t1).2 = hw at h2 hrg ⊢;have h2' : (hw == 2) = false:=by simpa using h2
     clear HS2 h2;go_wp2
     go_roundw
     case rel=>exact ⟨k + 1,m + 1,s + 1,by omega,by omega,by omega,by omega,by go_num,by go_num,by go_num,HG2⟩
     case measure=>simp [intOf]; omega
  ·have hkq' : Hid (k = q):=by show k = q; omega
   have ha:=hP.at_.cell;simp only [PlD.cells,l2,pv] at ha;have HF:=(mkH (PlGoes own z w pb wr (fun D1=>J D1/\Sz (b + 8) D1/\Turning K f Nn.toNat D q m s D1)) <|⟨own1,D1,hP,hE,hF,hj1,hS1.mono (by omega),by rw [<- hkq'.out]; exact hTu⟩);clear hP hE hF hj1 hS1 hTu HG hok HP HX;go_wp2;go_ret3;exact ⟨m,s,rfl,hm8,HQ.out _ _ _ HF.out⟩
end
end
section
open Go.RowKit
section
variable {K : Kin} {own : Own} {z : Nat} {w w' : World} {pb : Nat} {D D1 D2 : PlD} {i f k m s N b : Nat} {t : PThread} {J : PlD->Prop} {T Nn E L : Int}
theorem Plays.pot (hJ : Plays K f T Nn E L J) (hj : J D) (hT : (D.P.ts.length : Int) = T) (hN : 0<=Nn) : Pot K Nn.toNat D (T * (T + 2) * (Nn + 16)).toNat:=by
 obtain ⟨_,hC⟩:=hJ.inv hj
 have:=K.bound hC
 have e : (T * (T + 2) * (Nn + 16)).toNat = D.P.ts.length * ((D.P.ts.length + 2) * (Nn.toNat + 16)):=by
  rw [<- hT];have : ((D.P.ts.length : Int) * (D.P.ts.length + 2) * (Nn + 16)) = ((D.P.ts.length * ((D.P.ts.length + 2) * (Nn.toNat + 16)) : Nat) : Int):=by
   rw [<- Nat.mul_assoc];simp only [Int.natCast_mul,Int.natCast_add];rw [Int.toNat_of_nonneg hN]; rfl
  rw [this]; rfl
 rw [e]; exact this
def Still (f : Nat) (D : PlD) : Prop:=∀ j u,f<=j->D.P.ts[j]? = some u->u.busy = false
theorem most_le {T Nn : Int} (hT : 1<=T/\T<=8) (hN : 0<=Nn/\Nn<=64) : (0<=T * (T + 2)/\T * (T + 2)<=80)/\0<=T * (T + 2) * (Nn + 16)/\T * (T + 2) * (Nn + 16)<=6400:=by
 have h1 : T * (T + 2)<=8 * 10:=Int.mul_le_mul hT.2 (by omega) (by omega) (by omega);have h2 : 0<=T * (T + 2):=Int.mul_nonneg (by omega) (by omega);have h3 : T * (T + 2) * (Nn + 16)<=80 * 80:=Int.mul_le_mul (by omega) (by omega) (by omega) (by omega);have h4 : 0<=T * (T + 2) * (Nn + 16):=Int.mul_nonneg h2 (by omega);omega
theorem Pfinish_calls (hJ : Plays K f T Nn E L J) (h : PlAt own z w pb D) (hj : J D) (hS : Sz b D) (hb : b<=2 ^ 36) (hf : (f : Int) < T) (hNn : 0<=Nn/\Nn<=64) :
  Calls Tryz.prog 27 #[pv pb,.int .i64 f] w fun r w'=>r = .returned (.bool true)/\PlGoes own z w pb w' (fun D1=>J D1/\Sz (b + 60000) D1/\Still f D1):=by
 have hT8:=h.fit.thr;have hTt : D.t = D.P.ts.length:=h.thr;have hT1 : (1 : Int)<=T/\T<=8:=by have:=(hJ.cfg hj).2.1; omega
 obtain ⟨⟨m1,m2⟩,m3,m4⟩:=most_le hT1 hNn;obtain ⟨n1,n2⟩:=hNn;obtain ⟨t1,t2⟩:=hT1;have hpot:=hJ.pot hj (by rw [<- hTt]; exact (hJ.cfg hj).2.1) n1;have H:=(mkH (PlAt own z w pb D/\J D/\Sz b D) <|⟨h,hj,hS⟩);have HJ:=(mkH (Plays K f T Nn E L J) <|hJ);have HF:=(mkH ((f : Int) < T) <|hf);have ha:=h.at_.cell;simp only [PlD.cells,(hJ.cfg hj).2.1,(hJ.cfg hj).2.2.1,pv] at ha;obtain ⟨M,hM⟩ : ∃ M : Nat,Hid (T * (T + 2) * (Nn + 16) = M):=⟨(T * (T + 2) * (Nn + 16)).toNat,by show _ = _; omega⟩;have hM6 : M<=6400:=by have:=hM.out; omega
 have HPot:=(mkH (Pot K Nn.toNat D M) <|by
  show Pot K Nn.toNat D M;rw [hM.out] at hpot; simpa using hpot)
 clear h hj hS hT8 hTt hJ hf hpot;unfold pv
 go_enter Tryz.func27,Tryz.ntmps27
 go_wp2;go_region;rw [hM.out];have HD:=(mkH (PlAt own z w.drew pb D) <|H.out.1.calm ((Fr.refl _ _).drew));have HW:=(mkH (FrP own z w w.drew) <|(Fr.refl _ _).drew);clear ha;generalize w.drew = w0 at HD HW ⊢;go_wp2
 go_loopw [6] (fun v wr=>∃ j : Nat,j<=M/\v = .int .i64 j/\Hid (PlGoes own z w pb wr (fun D1=>J D1/\Sz (b + 8 * j) D1/\∃ n,n + j<=M/\Pot K Nn.toNat D1 n))) (fun v _=>M + 1 - (intOf v).toNat)
 case atStart=>exact ⟨0,by omega,rfl,own,D,HD.out,Ext.refl _ _,HW.out,H.out.2.1,H.out.2.2,M,by omega,HPot.out⟩
 case round =>
  clear H HD HW HPot;obtain ⟨j,hjM,rfl,HG⟩:=hrel;obtain ⟨own1,D1,hP,hE,hF,hj1,hS1,n,hn,hpt⟩:=HG.out;have HP:=(mkH (PlAt own1 z wr pb D1/\J D1/\Sz (b + 8 * j) D1/\n + j<=M/\Pot K Nn.toNat D1 n) <|⟨hP,hj1,hS1,hn,hpt⟩);have HX:=(mkH (Ext own own1 w/\FrP own z w wr) <|⟨hE,hF⟩);clear hP hE hF hj1 hS1 hn hpt HG;have HB:=(mkH (b + 8 * j<=2 ^ 37) <|by show b + 8 * j<=2 ^ 37; omega);go_wp2_with fail;refine (Pturn_calls HJ.out HP.out.1 HP.out.2.1 HP.out.2.2.1 HB.out HF.out).mono ?_;rintro r w2 ⟨mm,ss,rfl,hm8,own2,D2,hP2,hE2,hF2,hj2,hS2,hTu⟩;have HG2:=(mkH (PlGoes own z w pb w2 (fun D2=>J D2/\Sz (b + 8 * (j + 1)) D2/\Turning K f Nn.toNat D1 D1.P.ts.length mm ss D2)) <|PlGoes.trans HX.out.1 HX.out.2 ⟨own2,D2,hP2,hE2,hF2,hj2,hS2.mono (by omega),hTu⟩);clear hP2 hE2 hF2 hj2 hS2 hTu hm8;by_cases hs : ss = 0
  ·have HR:=(mkH (PlGoes own z w pb w2 (fun D1=>J D1/\Sz (b + 60000) D1/\Still f D1)) <|by
    obtain ⟨o,d,y1,y2,y3,y4,y5,y6⟩:=HG2.out;obtain ⟨z1,z2,z3⟩:=y6.none_ hs;refine ⟨o,d,y1,y2,y3,y4,y5.mono (by omega),?_⟩;intro q u hq hu;rw [z1] at hu;exact z3 q u hq (List.getElem?_eq_some_iff.1 hu).1 hu)
   subst hs;clear HG2;go_wp2;go_ret;exact ⟨rfl,HR.out⟩
  ·have hm : mm≠0:=by
    intro e;obtain ⟨o,d,y1,y2,y3,y4,y5,y6⟩:=HG2.out;exact hs (y6.done HJ.out HP.out.2.1 e)
   have HG3:=(mkH (j + 1<=M/\PlGoes own z w pb w2 (fun D2=>J D2/\Sz (b + 8 * (j + 1)) D2/\∃ n,n + (j + 1)<=M/\Pot K Nn.toNat D2 n)) <|by
    obtain ⟨o,d,y1,y2,y3,y4,y5,y6⟩:=HG2.out;obtain ⟨n',q1,q2⟩:=y6.pot n HP.out.2.2.2.2
    have:=HP.out.2.2.2.1
    exact ⟨by omega,o,d,y1,y2,y3,y4,y5,n',by omega,q2⟩)
   have hs' : ((ss : Int) == 0) = false:=by simp; exact hs
   have hm' : ((mm : Int) == 0) = false:=by simp; exact hm
   have hj1:=HG3.out.1;have HG4:=(mkH (PlGoes own z w pb w2 (fun D2=>J D2/\Sz (b + 8 * (j + 1)) D2/\∃ n,n + (j + 1)<=M/\Pot K Nn.toNat D2 n)) <|HG3.out.2);clear HG2 HG3 hs hm;go_wp2
   go_roundw
   case rel=>exact ⟨j + 1,hj1,by go_num,HG4⟩
   case measure=>simp [intOf]; omega
end
end
section
open Go.RowKit
section
variable {K : Kin} {own : Own} {z : Nat} {w w' : World} {pb : Nat} {D D1 D2 : PlD} {i f k m s N b : Nat} {t : PThread} {J : PlD->Prop} {T Nn E L : Int}
theorem Plays.busy (hJ : Plays K f T Nn E L J) (hj : J D) (hi : i < D.P.ts.length) : ∃ t,D.P.ts[i]? = some t/\D.bs[i]? = some t.busy:=by
 have ht : D.P.ts[i]? = some D.P.ts[i]:=List.getElem?_eq_getElem hi;refine ⟨D.P.ts[i],ht,?_⟩;have hok : D.bs = D.P.ts.map (·.busy):=hJ.ok hj;rw [hok,List.getElem?_map,ht]; rfl
theorem Psteps_any (hJ : Plays K f T Nn E L J) (h : PlAt own z w pb D) (hj : J D) (hS : Sz b D) (hb : b<=2 ^ 37) (hi : i < D.P.ts.length) (hf : f<=i) :
  ∃ how : Int,0<=how/\how<=3/\Calls Tryz.prog 35 #[pv pb,.int .i64 i] w fun r w'=>r = .returned (.tuple #[.int .i64 how,.bool true])/\PlGoes own z w pb w' (fun D1=>J D1/\Sz (b + 1) D1):=by
 obtain ⟨t,ht,hbs⟩:=hJ.busy hj hi;cases hbz : t.busy
 ·rw [hbz] at hbs;refine ⟨0,by omega,by omega,(Psteps_idle h hbs ht hbz).mono ?_⟩;rintro r w1 ⟨rfl,rfl⟩;exact ⟨rfl,own,D,h,Ext.refl _ _,Fr.refl _ _,hj,hS.mono (by omega)⟩
 ·rw [hbz] at hbs;have hrg:=(h.fit.turn ht hbz).how;refine ⟨(D.P.step i t).2,by omega,by omega,(Psteps_busy h hbs ht hbz (by unfold Sz at hS; omega) (by unfold Sz at hS; omega)).mono ?_⟩;rintro r w1 ⟨rfl,own1,D1,hP,hE,hF,hs⟩;exact ⟨rfl,own1,D1,hP,hE,hF,hJ.step hj h.fit ht hbz hf hs,hS.step hs⟩
theorem Psweep_any (hJ : Plays K f T Nn E L J) (h : PlAt own z w pb D) (hj : J D) (hS : Sz b D) :
  ∃ how : Int,1<=how/\how<=3/\Calls Tryz.prog 42 #[pv D.L.s] w fun r w'=>r = .returned (.int .i64 how)/\PlGoes own z w pb w' (fun D1=>J D1/\Sz b D1):=by
 have hrg : 1<=D.P.doSweep.2/\D.P.doSweep.2<=3:=by
  unfold PSt.doSweep;simp only;split
  ·simp
  ·split
   ·split <;> simp
   ·split <;> simp
 refine ⟨D.P.doSweep.2,hrg.1,hrg.2,(ZSweep_fit h.st h.fit).mono ?_⟩;rintro r w2 ⟨rfl,hG⟩;have hf:=(h.fit.sweep h.st.mem.nsmall).1;obtain ⟨own2,L2,hP2,hE2,hF2,e2⟩:=h.store hG hf (by rw [sweep_ts]);exact ⟨rfl,own2,_,hP2,hE2,hF2,hJ.sweep L2 hj,hS⟩
theorem Pruns_calls (hJ : Plays K f T Nn E L J) (h : PlAt own z w pb D) (hj : J D) (hS : Sz b D) (hb : b<=2 ^ 36) (hi : (i : Int) < T) (hf : f<=i) (n : Nat) (hn : n<=40) :
  Calls Tryz.prog 56 #[pv pb,.int .i64 i,.int .i64 n] w fun r w'=>r = .returned (.bool true)/\PlGoes own z w pb w' (fun D1=>J D1/\Sz (b + 40) D1):=by
 have H:=(mkH (PlAt own z w pb D/\J D/\Sz b D) <|⟨h,hj,hS⟩);have HJ:=(mkH (Plays K f T Nn E L J) <|hJ);have hT8 : T<=8:=by have:=(hJ.cfg hj).2.1; have:=h.thr; have:=h.fit.thr; omega
 have HI:=(mkH (∀ (own1 : Own) (w1 : World) (D1 : PlD),PlAt own1 z w1 pb D1->J D1->i < D1.P.ts.length) <|by
  intro own1 w1 D1 h1 j1;have h2:=h1.thr;have h3:=(hJ.cfg j1).2.1;omega)
 clear h hj hS hJ;unfold pv
 go_enter Tryz.func56,Tryz.ntmps56
 go_wp2
 go_loopw [7] (fun v wr=>∃ k : Nat,k<=n/\v = .int .i64 k/\Hid (PlGoes own z w pb wr (fun D1=>J D1/\Sz (b + k) D1))) (fun v _=>n - (intOf v).toNat)
 case atStart=>exact ⟨0,by omega,rfl,own,D,H.out.1,Ext.refl _ _,Fr.refl _ _,H.out.2.1,H.out.2.2⟩
 case round =>
  clear H;obtain ⟨k,hkn,rfl,HG⟩:=hrel;obtain ⟨own1,D1,hP,hE,hF,hj1,hS1⟩:=HG.out;have HP:=(mkH (PlAt own1 z wr pb D1/\J D1/\Sz (b + k) D1) <|⟨hP,hj1,hS1⟩);have HX:=(mkH (Ext own own1 w/\FrP own z w wr) <|⟨hE,hF⟩);have hil:=HI.out own1 wr D1 hP hj1;obtain ⟨t1,ht1,hbs⟩:=HJ.out.busy hj1 hil;obtain ⟨g,gc,hv,hc,hz,hg,hgl⟩:=hP.busyRow hbs;have ha:=hP.at_.cell;simp only [PlD.cells,hv,pv] at ha;have HE:=(mkH (PlGoes own z w pb wr (fun D1=>J D1/\Sz (b + 40) D1)) <|⟨own1,D1,hP,hE,hF,hj1,hS1.mono (by omega)⟩);have HB:=(mkH (i < D1.P.ts.length) <|hil);clear hP hE hF hj1 hS1 HG ht1 hbs hv hg;by_cases hlt : k < n
  ·cases hbz : t1.busy
   ·rw [hbz] at hc;clear hbz;go_wp2;go_ret;exact ⟨rfl,HE.out⟩
   ·rw [hbz] at hc;clear hbz;obtain ⟨how,h0,h3,hcall⟩:=Psteps_any HJ.out HP.out.1 HP.out.2.1 HP.out.2.2 (by omega) HB.out hf;have HC:=(mkH (Calls _ _ _ _ _) <|hcall);clear hcall;unfold pv at HC;go_wp2_with fail;refine Calls.mono HC.out ?_;rintro r w2 ⟨rfl,own2,D2,hP2,hE2,hF2,hj2,hS2⟩;have HG2:=(mkH (PlGoes own z w pb w2 (fun D2=>J D2/\Sz (b + (k + 1)) D2)) <|PlGoes.trans HX.out.1 HX.out.2 ⟨own2,D2,hP2,hE2,hF2,hj2,hS2⟩);have HE2:=(mkH (PlGoes own z w pb w2 (fun D2=>J D2/\Sz (b + 40) D2)) <|PlGoes.trans HX.out.1 HX.out.2 ⟨own2,D2,hP2,hE2,hF2,hj2,hS2.mono (by omega)⟩);clear hP2 hE2 hF2 hj2 hS2 ha hc hz HC HE;by_cases h2 : how = 2
    ·subst h2;go_wp2;go_ret;exact ⟨rfl,HE2.out⟩
    ·have h2' : (how == 2) = false:=by simpa using h2
     clear h2;go_wp2
     go_roundw
     case rel=>exact ⟨k + 1,by omega,by go_num,HG2⟩
     case measure=>simp [intOf]; omega
  ·go_wp2;go_ret;exact ⟨rfl,HE.out⟩
end
end
section
open Go.RowKit
section
variable {w w1 : World} {i : Nat}
theorem ActIn.keep {sa : Option Addr} {a : ActD} (h : ActIn w sa i a) (hf : Fr (fun _=>False) w w1) : ActIn w1 sa i a:=by
 obtain ⟨b,off,e,h1,h2,h3⟩:=h;exact ⟨b,off,e,fun j v hj=>hf.keepCell (h1 j v hj),h2.keep hf,h3⟩
theorem OwnSpans.keep {w0 : World} {v : Value} {sp : List (Int × Int)} (h : OwnSpans w0 w v sp) (hf : Fr (fun _=>False) w w1) : OwnSpans w0 w1 v sp:=⟨hf.owns h.row (fun _ _ h=>h),h.new,h.fr.trans hf⟩
end
end
section
open Go.RowKit
section
variable {K : Kin} {own : Own} {z : Nat} {w w1 w' : World} {pb : Nat} {D D1 D2 : PlD} {i f k m s N b : Nat} {t : PThread} {J : PlD->Prop} {T Nn E L : Int}
theorem PlAt.boxes (h : PlAt own z w pb D) (hf : Fr (fun _=>False) w w1) {v : Value} {sp : List (Int × Int)} {w0 : World} (hO : OwnSpans w0 w1 v sp) (hw : w.heap.size<=w0.heap.size) (o : OpV) (h1 : o.sv = v) (h2 : o.spans = sp) : ∃ own1,PlAt own1 z w1 pb D/\Ext own own1 w/\OpOk own1 (z + 1) w1 o:=by
 obtain ⟨own1,ho⟩ : ∃ own1 : Own,own1 = fun k=>if k < w.heap.size then own k else if v.ownBlock = some k then ⟨z + 1,.oth 5⟩ else ⟨z + 7,.store⟩:=⟨_,rfl⟩
 have hE : Ext own own1 w:=fun k hk=>by rw [ho]; simp [hk]
 refine ⟨own1,h.fr hf hE (fun _ _ h=>h),hE,⟨?_,?_⟩⟩
 ·rw [h1,h2]; exact hO.row
 ·rw [h1];intro k hk
  have:=hO.new k hk
  rw [ho]; simp [show ¬ k < w.heap.size by omega,hk]
theorem Plays.beginAny (hJ : Plays K f T Nn E L J) (hj : J D) (hS : Sz b D) (ht : D.P.ts[i]? = some t) (hf : f<=i) {o : OpV} (hB : Begun D i t o D1) : J D1/\Sz (b + 1) D1:=⟨hJ.begin hj ht hf hB,hS.begin hB⟩
theorem Pact_calls (hJ : Plays K f T Nn E L J) (h : PlAt own z w pb D) (hj : J D) (hS : Sz b D) (hb : b<=2 ^ 35) (hf : (f : Int) < T) (a : ActD) (hsp : Spans w a.sa a.sn a.ps) (hsn : a.sn<=2 ^ 20) (hm : -9223372036854775808<=a.m/\a.m<=9223372036854775807) (htt : -9223372036854775808<=a.tt/\a.tt<=9223372036854775807) :
  Calls Tryz.prog 36 #[pv pb,actVal a,.int .i64 f] w fun r w'=>r = .returned (.bool true)/\PlGoes own z w pb w' (fun D1=>J D1/\Sz (b + 400) D1):=by
 obtain ⟨kd,tt,o,ky,va,m,psa,psn,psc,sps⟩:=a;simp only at hsp hsn hm htt;obtain rfl : sps.length = psn:=hsp.1;have hT8 : T<=8:=by have:=(hJ.cfg hj).2.1; have:=h.thr; have:=h.fit.thr; omega
 have hE0 : Ext own (own.put w.heap.size (z + 7) .store) w:=Ext.put (Nat.le_refl _) _ _;obtain ⟨own0,hown0⟩ : ∃ own0,own0 = own.put w.heap.size (z + 7) .store:=⟨_,rfl⟩;rw [<- hown0] at hE0;have hz0 : own0 w.heap.size = ⟨z + 7,.store⟩:=by rw [hown0]; simp [Own.put]
 generalize hw1 : w.alloc (.cells #[.int .i64 kd,.int .i64 tt,.int .i64 o,.int .i64 ky,.int .i64 va,.int .i64 m,.slice psa sps.length psc] 29) = w1;have hf1 : Fr (fun _=>False) w w1:=by rw [<- hw1]; exact (Fr.refl _ _).alloc _
 have hA1 : At w1 w.heap.size [.int .i64 kd,.int .i64 tt,.int .i64 o,.int .i64 ky,.int .i64 va,.int .i64 m,.slice psa sps.length psc] 29:=by rw [<- hw1]; exact At.new w _ _
 have H1:=(mkH (PlAt own0 z w1 pb D/\J D/\Sz b D) <|⟨h.fr hf1 hE0 (fun _ _ h=>h),hj,hS⟩);have HX:=(mkH (Ext own own0 w/\FrP own z w w1/\own0 w.heap.size = ⟨z + 7,.store⟩) <|⟨hE0,Fr.mono hf1 (fun _ _ h=>h.elim),hz0⟩);have HA1:=(mkH (At w1 w.heap.size _ 29) <|hA1);have HSp:=(mkH (Spans w1 psa sps.length sps/\sps.length<=2 ^ 20) <|⟨hsp.keep hf1,hsn⟩);have HJ:=(mkH (Plays K f T Nn E L J) <|hJ);have HM:=(mkH (-9223372036854775808<=m/\m<=9223372036854775807) <|hm);have hp:=pickN_in (c:=tt) (n:=T - f) (by omega);obtain ⟨p,hpp⟩ : ∃ p : Nat,Hid (pickN tt (T - f) = p):=⟨(pickN tt (T - f)).toNat,by show _ = _; omega⟩;have hpT : (f : Int) + p < T:=by rw [<- hpp.out]; omega
 have HPk:=(mkH (∀ w,Calls Tryz.prog 23 #[.int .i64 tt,.int .i64 (T - f)] w fun r w'=>r = .returned (.int .i64 p)/\w' = w) <|by
  rw [<- hpp.out];exact lpick_calls tt (T - f) htt ⟨by omega,by omega⟩)
 have HI:=(mkH (∀ (own1 : Own) (w1 : World) (D1 : PlD),PlAt own1 z w1 pb D1->J D1->f + p < D1.P.ts.length) <|by
  intro own1 w1 D1 h1 j1;have h2:=h1.thr;have h3:=(hJ.cfg j1).2.1;omega)
 have hct:=(hJ.cfg hj).2.1;clear h hj hS hJ hE0 hown0 hz0 hf1 hA1 hsp hsn hm htt hp;unfold pv actVal
 go_enter Tryz.func36,Tryz.ntmps36
 go_wp2_with fail
 try rw [hw1]
 clear hw1;refine wp_region_calm [10] 0 rfl (by kernel_rfl) (by kernel_rfl) (by kernel_rfl) (by decide) (by kernel_rfl) (by decide) ?_;intro U V hU hV;have hau : ∀ u q,(V u).cell? ⟨w.heap.size,q,none⟩ = [Value.int .i64 kd,.int .i64 tt,.int .i64 o,.int .i64 ky,.int .i64 va,.int .i64 m,.slice psa sps.length psc][q]?:=fun u=>((hV u).at HA1.out (fun h=>h)).cell
 have hpu : ∀ u,(V u).cell? ⟨pb,2,none⟩ = some (.int .i64 T):=fun u=>by
  have:=((hV u).at H1.out.1.at_ (fun h=>h)).cell 2
  simp only [PlD.cells,hct] at this;exact this
 clear hV
 repeat (refine mix_read rfl rfl ?_; go_big_quiet_step (fail); refine wpQuiet_nil ?_)
 refine mix_effC (.int .i64 p) rfl rfl rfl ?_ ?_
 ·intro w' hw';go_simp;refine Calls.mono (HPk.out w') ?_;rintro r w'' ⟨rfl,rfl⟩;exact ⟨rfl,hw'⟩
 go_simp
 repeat (refine mix_read rfl rfl ?_; go_big_quiet_step (fail); refine wpQuiet_nil ?_)
 refine mix_nil ?_;intro w2 hw2;have H2:=(mkH (PlAt own0 z w2 pb D) <|H1.out.1.calm hw2);have HA2:=(mkH (At w2 w.heap.size _ 29) <|hw2.at HA1.out (fun h=>h));have HX2:=(mkH (FrP own z w w2) <|Fr.trans HX.out.2.1 (Fr.mono hw2 (fun _ _ h=>h.elim)));have HSp2:=(mkH (Spans w2 psa sps.length sps) <|HSp.out.1.keep hw2);clear hw2 hau hpu HPk;have HFin:=(mkH (∀ (own3 : Own) (w3 w4 : World),Ext own0 own3 w2->FrP own0 z w2 w3->∀ b',b'<=b + 400->PlGoes own3 z w3 pb w4 (fun D1=>J D1/\Sz b' D1)->PlGoes own z w pb w4 (fun D1=>J D1/\Sz (b + 400) D1)) <|by
  intro own3 w3 w4 he hf b' hb' hg;have hsz : w.heap.size<=w2.heap.size:=HX2.out.size;obtain ⟨o5,d5,y1,y2,y3,y4,y5⟩:=PlGoes.trans (Ext.trans HX.out.1 he hsz) (FrP.trans HX2.out HX.out.1 hf) hg;exact ⟨o5,d5,y1,y2,y3,y4,y5.mono hb'⟩)
 have hac:=HA2.out.cell;by_cases h1 : kd = 1
 ·subst h1;have HOp:=(mkH (Calls _ _ _ _ _) <|opOf_calls ⟨1,tt,o,ky,va,m,psa,sps.length,psc,sps⟩ w2 HSp2.out HSp.out.2);simp only [actVal] at HOp;go_wp2_with fail;refine Calls.mono HOp.out ?_;rintro r w4 ⟨xa,xc,rfl,hO⟩;have HO:=(mkH (OwnSpans w2 w4 _ sps) <|hO);clear hO HOp hac;simp only [opVal];go_wp2_with fail;generalize hw5 : World.alloc _ _ = w5;have hf5 : Fr (fun _=>False) w4 w5:=by rw [<- hw5]; exact (Fr.refl _ _).alloc _
  clear hw5;have hf25:=HO.out.fr.trans hf5;obtain ⟨own5,hP5,hE5,hop5⟩:=H2.out.boxes hf25 (HO.out.keep hf5) (Nat.le_refl _) ⟨o,ky,va,sps,.slice xa sps.length xc⟩ rfl rfl;have hil:=HI.out own5 w5 D hP5 H1.out.2.1;obtain ⟨t1,ht1,_⟩:=HJ.out.busy H1.out.2.1 hil;have hS:=H1.out.2.2;have HB:=(mkH (Calls _ _ _ _ _) <|Pbegins_calls hP5 (HJ.out.ok H1.out.2.1) ht1 o ky va sps xa xc hop5 (by have:=HSp.out.2; omega) (by unfold Sz at hS; omega));have HT:=(mkH (D.P.ts[f + p]? = some t1) <|ht1);have HE5:=(mkH (Ext own0 own5 w2/\FrP own0 z w2 w5) <|⟨hE5,Fr.mono hf25 (fun _ _ h=>h.elim)⟩);clear hf5 hf25 hP5 hE5 hop5 hil ht1 hS;unfold pv opVal at HB;simp only [Int.natCast_add] at HB;go_wp2_with fail;refine Calls.mono HB.out ?_;rintro r w6 ⟨rfl,own6,D6,hP6,hE6,hF6,hB6⟩;have HR:=(mkH (PlGoes own z w pb w6 (fun D1=>J D1/\Sz (b + 400) D1)) <|HFin.out own5 w5 w6 HE5.out.1 HE5.out.2 (b + 1) (by omega) ⟨own6,D6,hP6,hE6,hF6,HJ.out.beginAny H1.out.2.1 H1.out.2.2 HT.out (by omega) hB6⟩);clear hP6 hE6 hF6 hB6;go_wp2;go_ret;exact ⟨rfl,HR.out⟩
 ·have h1' : (kd == 1) = false:=by simpa using h1
  by_cases h2 : kd = 2
  ·subst h2;obtain ⟨how,q0,q3,hcall⟩:=Psteps_any HJ.out H2.out H1.out.2.1 H1.out.2.2 (by omega) (HI.out _ _ _ H2.out H1.out.2.1) (show f<=f + p by omega);have HC:=(mkH (Calls _ _ _ _ _) <|hcall);clear hcall h1;unfold pv at HC;simp only [Int.natCast_add] at HC;go_wp2_with fail;refine Calls.mono HC.out ?_;rintro r w6 ⟨rfl,hg⟩;have HR:=(mkH (PlGoes own z w pb w6 (fun D1=>J D1/\Sz (b + 400) D1)) <|HFin.out own0 w2 w6 (Ext.refl _ _) (Fr.refl _ _) (b + 1) (by omega) hg);clear hg;go_wp2;go_ret;exact ⟨rfl,HR.out⟩
  ·have h2' : (kd == 2) = false:=by simpa using h2
   by_cases h3 : kd = 3
   ·subst h3;clear h1 h2;have hp4:=pickN_in (c:=m) (n:=40) (by omega);obtain ⟨q,hqq⟩ : ∃ q : Nat,Hid (pickN m 40 = q):=⟨(pickN m 40).toNat,by show _ = _; omega⟩;have hq40 : q < 40:=by have:=hqq.out; omega
    have HPk:=(mkH (∀ w,Calls Tryz.prog 23 #[.int .i64 m,.int .i64 40] w fun r w'=>r = .returned (.int .i64 q)/\w' = w) <|by
     rw [<- hqq.out];exact lpick_calls m 40 HM.out ⟨by omega,by omega⟩)
    have HC:=(mkH (Calls _ _ _ _ _) <|Pruns_calls HJ.out H2.out H1.out.2.1 H1.out.2.2 (by omega) (i:=f + p) (by simp only [Int.natCast_add]; exact hpT) (by omega) (1 + q) (by omega));unfold pv at HC;simp only [Int.natCast_add] at HC;clear hp4;go_wp2_with fail;refine Calls.mono (HPk.out w2) ?_;rintro r w3 ⟨rfl,rfl⟩;go_wp2_with fail;refine Calls.mono HC.out ?_;rintro r w6 ⟨rfl,hg⟩;have HR:=(mkH (PlGoes own z w pb w6 (fun D1=>J D1/\Sz (b + 400) D1)) <|HFin.out own0 _ w6 (Ext.refl _ _) (Fr.refl _ _) (b + 40) (by omega) hg);clear hg;go_wp2;go_ret;exact ⟨rfl,HR.out⟩
   ·have h3' : (kd == 3) = false:=by simpa using h3
    by_cases h4 : kd = 4
    ·subst h4;clear h1 h2 h3;have hp4:=pickN_in (c:=m) (n:=40) (by omega);obtain ⟨q,hqq⟩ : ∃ q : Nat,Hid (pickN m 40 = q):=⟨(pickN m 40).toNat,by show _ = _; omega⟩;have hq40 : q < 40:=by have:=hqq.out; omega
     have HPk:=(mkH (∀ w,Calls Tryz.prog 23 #[.int .i64 m,.int .i64 40] w fun r w'=>r = .returned (.int .i64 q)/\w' = w) <|by
      rw [<- hqq.out];exact lpick_calls m 40 HM.out ⟨by omega,by omega⟩)
     have HFt:=(mkH ((f : Int) < T) <|hf);clear hp4 hf;go_wp2;clear hac
     go_loopw [11] (fun v wr=>∃ j : Nat,j<=q + 1/\v = .int .i64 j/\Hid (PlGoes own0 z w2 pb wr (fun D1=>J D1/\Sz (b + 8 * j) D1))) (fun v _=>q + 2 - (intOf v).toNat)
     case atStart=>exact ⟨0,by omega,rfl,own0,D,H2.out,Ext.refl _ _,Fr.refl _ _,H1.out.2.1,H1.out.2.2⟩
     case round =>
      obtain ⟨j,hjq,rfl,HG⟩:=hrel;obtain ⟨own3,D3,hP3,hE3,hF3,hj3,hS3⟩:=HG.out;have hac:=(hF3.at HA2.out (by rw [HX.out.2.2]; simp)).cell;have HP3:=(mkH (PlAt own3 z wr pb D3/\J D3/\Sz (b + 8 * j) D3) <|⟨hP3,hj3,hS3⟩);have HX3:=(mkH (Ext own0 own3 w2/\FrP own0 z w2 wr) <|⟨hE3,hF3⟩);clear hP3 hE3 hF3 hj3 hS3;go_wp2_with fail;refine Calls.mono (HPk.out wr) ?_;rintro r w3 ⟨rfl,rfl⟩;by_cases hlt : j<=q
      ·have HB:=(mkH (b + 8 * j<=2 ^ 37) <|by show b + 8 * j<=2 ^ 37; omega);go_wp2_with fail;refine (Pturn_calls HJ.out HP3.out.1 HP3.out.2.1 HP3.out.2.2 HB.out HFt.out).mono ?_;rintro r w4 ⟨mm,ss,rfl,hm8,own4,D4,hP4,hE4,hF4,hj4,hS4,hTu⟩;have HG2:=(mkH (PlGoes own0 z w2 pb w4 (fun D1=>J D1/\Sz (b + 8 * (j + 1)) D1)) <|PlGoes.trans HX3.out.1 HX3.out.2 ⟨own4,D4,hP4,hE4,hF4,hj4,hS4.mono (by omega)⟩);clear hP4 hE4 hF4 hj4 hS4 hTu hm8 HG hac;go_wp2
       go_roundw
       case rel=>exact ⟨j + 1,by omega,by go_num,HG2⟩
       case measure=>simp [intOf]; omega
      ·have HR:=(mkH (PlGoes own z w pb _ (fun D1=>J D1/\Sz (b + 400) D1)) <|HFin.out own3 _ _ HX3.out.1 HX3.out.2 (b + 8 * j) (by omega) ⟨own3,D3,HP3.out.1,Ext.refl _ _,Fr.refl _ _,HP3.out.2.1,HP3.out.2.2⟩);clear HG hac;go_wp2;go_ret;exact ⟨rfl,HR.out⟩
    ·have h4' : (kd == 4) = false:=by simpa using h4
     by_cases h6 : kd = 6
     ·subst h6;clear h1 h2 h3 h4;have hp4:=pickN_in (c:=m) (n:=12) (by omega);obtain ⟨q,hqq⟩ : ∃ q : Nat,Hid (pickN m 12 = q):=⟨(pickN m 12).toNat,by show _ = _; omega⟩;have hq40 : q < 12:=by have:=hqq.out; omega
      have HPk:=(mkH (∀ w,Calls Tryz.prog 23 #[.int .i64 m,.int .i64 12] w fun r w'=>r = .returned (.int .i64 q)/\w' = w) <|by
       rw [<- hqq.out];exact lpick_calls m 12 HM.out ⟨by omega,by omega⟩)
      clear hp4;go_wp2;clear hac
      go_loopw [15] (fun v wr=>∃ j : Nat,j<=q + 1/\v = .int .i64 j/\Hid (PlGoes own0 z w2 pb wr (fun D1=>J D1/\Sz b D1))) (fun v _=>q + 2 - (intOf v).toNat)
      case atStart=>exact ⟨0,by omega,rfl,own0,D,H2.out,Ext.refl _ _,Fr.refl _ _,H1.out.2.1,H1.out.2.2⟩
      case round =>
       obtain ⟨j,hjq,rfl,HG⟩:=hrel;obtain ⟨own3,D3,hP3,hE3,hF3,hj3,hS3⟩:=HG.out;have hac:=(hF3.at HA2.out (by rw [HX.out.2.2]; simp)).cell;have ha:=hP3.at_.cell;simp only [PlD.cells,pv] at ha;have HP3:=(mkH (PlAt own3 z wr pb D3/\J D3/\Sz b D3) <|⟨hP3,hj3,hS3⟩);have HX3:=(mkH (Ext own0 own3 w2/\FrP own0 z w2 wr) <|⟨hE3,hF3⟩);obtain ⟨how,q1,q3,hcall⟩:=Psweep_any HJ.out hP3 hj3 hS3;have HC:=(mkH (Calls _ _ _ _ _) <|hcall);unfold pv at HC;clear hP3 hE3 hF3 hj3 hS3 hcall;go_wp2_with fail;refine Calls.mono (HPk.out wr) ?_;rintro r w3 ⟨rfl,rfl⟩;by_cases hlt : j<=q
       ·go_wp2_with fail;refine Calls.mono HC.out ?_;rintro r w4 ⟨rfl,hg⟩;have HG2:=(mkH (PlGoes own0 z w2 pb w4 (fun D1=>J D1/\Sz b D1)) <|PlGoes.trans HX3.out.1 HX3.out.2 hg);clear hg HG hac ha HC;go_wp2
        go_roundw
        case rel=>exact ⟨j + 1,by omega,by go_num,HG2⟩
        case measure=>simp [intOf]; omega
       ·have HR:=(mkH (PlGoes own z w pb _ (fun D1=>J D1/\Sz (b + 400) D1)) <|HFin.out own3 _ _ HX3.out.1 HX3.out.2 b (by omega) ⟨own3,D3,HP3.out.1,Ext.refl _ _,Fr.refl _ _,HP3.out.2.1,HP3.out.2.2⟩);clear HG hac ha HC;go_wp2;go_ret;exact ⟨rfl,HR.out⟩
     ·have h6' : (kd == 6) = false:=by simpa using h6
      clear h1 h2 h3 h4 h6;have HR:=(mkH (PlGoes own z w pb w2 (fun D1=>J D1/\Sz (b + 400) D1)) <|HFin.out own0 w2 w2 (Ext.refl _ _) (Fr.refl _ _) b (by omega) ⟨own0,D,H2.out,Ext.refl _ _,Fr.refl _ _,H1.out.2.1,H1.out.2.2⟩);go_wp2;go_ret;exact ⟨rfl,HR.out⟩
end
end
section
theorem fresh_nodes (nn : Nat) (es : List PEntry) (x : Int) : (⟨freshNodes nn,es⟩ : PMem).node x = if x = 0 then anchorNode else if x = 1 then endNode else PNode.zero:=by
 unfold PMem.node;have hl : (⟨freshNodes nn,es⟩ : PMem).hasNode x = true ↔ 0<=x/\x < nn + 2:=by
  unfold PMem.hasNode; rw [isIn_iff]; simp [freshNodes]; omega
 by_cases h : (⟨freshNodes nn,es⟩ : PMem).hasNode x = true
 ·rw [if_pos h];rw [hl] at h;by_cases h0 : x = 0
  ·subst h0; rfl
  ·rw [if_neg h0];by_cases h1 : x = 1
   ·subst h1; rfl
   ·rw [if_neg h1];obtain ⟨k,hk⟩ : ∃ k : Nat,x = k + 2:=⟨(x - 2).toNat,by omega⟩;have : x.toNat = k + 2:=by omega
    rw [this];show ((anchorNode :: endNode :: List.replicate nn PNode.zero)[k + 2]?).getD PNode.zero = _;simp only [List.getElem?_cons_succ];rw [List.getElem?_replicate];split <;> rfl
 ·rw [if_neg h];rw [hl] at h;rw [if_neg (by omega),if_neg (by omega)]
theorem count_flip {α : Type} (p : α->Bool) : ∀ {l : List α} {k : Nat} {x : α} (y : α),l[k]? = some x->count p l + (if p y then 1 else 0) = count p (l.set k y) + (if p x then 1 else 0)
 | [],k,x,y,h=>by simp at h
 | z :: r,0,x,y,h=>by
  simp at h; subst h;unfold count;rw [List.set_cons_zero,List.filter_cons,List.filter_cons];by_cases h1 : p z = true <;> by_cases h2 : p y = true <;> simp [h1,h2] <;> omega
 | z :: r,k + 1,x,y,h=>by
  have ih:=count_flip p (l:=r) (k:=k) (x:=x) y (by simpa using h);unfold count at *;rw [List.set_cons_succ,List.filter_cons,List.filter_cons];by_cases h1 : p z = true
  ·simp only [h1,if_true,List.length_cons]; omega
  ·simp only [h1,if_false,Bool.false_eq_true]; exact ih
theorem greatest_le (B : Int) : ∀ (l : List (Int × Int)) (m : Int),m<=B->(∀ p ∈ l,p.2<=B)->l.foldl (fun m p=>if p.2 > m then p.2 else m) m<=B
 | [],m,hm,_=>hm
 | p :: l,m,hm,h=>by
  rw [List.foldl_cons];refine greatest_le B l _ ?_ (fun q hq=>h q (by simp [hq]))
  have:=h p (by simp)
  split <;> omega
theorem spansOkX_hi : ∀ (l : List (Int × Int)),spansOkX l = true->∀ p ∈ l,p.2<=1099511627776
 | [],_,p,hp=>by cases hp
 | q :: l,h,p,hp=>by
  unfold spansOkX at h;simp only [Bool.and_eq_true,isIn_iff,decide_eq_true_eq] at h;rcases List.mem_cons.1 hp with rfl | hp
  ·have:=h.2.1.2; omega
  ·exact spansOkX_hi l h.2.2.2 p hp
theorem newWork_ok {kd ky va : Int} {sp : List (Int × Int)} (h : properB kd ky sp = true) : (newWork kd ky va sp).next = 1/\(newWork kd ky va sp).kind = kd/\(kd = 1\/kd = 2\/kd = 3\/kd = 4)/\(newWork kd ky va sp).locks = 0/\(newWork kd ky va sp).made = []/\(kd≠4->0<=(newWork kd ky va sp).key/\(newWork kd ky va sp).key<=1099511627776/\(newWork kd ky va sp).key = ky)/\(kd = 4->greatestHi (newWork kd ky va sp).spans<=1099511627776/\(newWork kd ky va sp).links = [(0,false)]/\(newWork kd ky va sp).spans = sp)/\(kd≠4->(newWork kd ky va sp).links = [])/\(kd = 1->(newWork kd ky va sp).value = va):=by
 have h0 : checkOp kd ky sp = 0:=of_decide_eq_true h;unfold checkOp at h0;by_cases h1 : kd = 1\/kd = 2\/kd = 3
 ·rw [if_pos h1] at h0;have hk : isIn ky 0 (2 ^ 40) = true:=by
   cases hh : isIn ky 0 (2 ^ 40)
   ·rw [hh] at h0; exact absurd h0 (by decide)
   ·rfl
  rw [isIn_iff] at hk;rcases h1 with e | e | e <;> subst e <;> simp [newWork,PWork.zero] <;> omega
 ·rw [if_neg h1] at h0;by_cases h4 : kd = 4
  ·subst h4;rw [if_pos rfl] at h0;have hk : (isIn sp.length 1 16 && spansOkX sp) = true:=by
    cases hh : (isIn sp.length 1 16 && spansOkX sp)
    ·rw [hh] at h0; exact absurd h0 (by decide)
    ·rfl
   rw [Bool.and_eq_true] at hk;refine ⟨rfl,rfl,.inr (.inr (.inr rfl)),rfl,rfl,fun e=>absurd rfl e,fun _=>⟨?_,rfl,rfl⟩,fun e=>absurd rfl e,fun e=>by cases e⟩;show greatestHi sp<=_;exact greatest_le _ sp 0 (by decide) (spansOkX_hi sp hk.2)
  ·rw [if_neg h4] at h0; exact absurd h0 (by decide)
section
variable {K : Kin} {κ : Int} {D D' : PlD} {i : Nat} {t : PThread} {o : OpV} {T N E L : Int}
theorem ok_begin (hok : D.ok) (hB : Begun D i t o D') : D'.ok:=by
 have hok' : D.bs = D.P.ts.map (·.busy):=hok;show D'.bs = D'.P.ts.map (·.busy);by_cases hh : t.busy = true\/properB o.kind o.key o.spans = false
 ·obtain ⟨q1,q2,_⟩:=hB.no hh;rw [q1,q2]; exact hok'
 ·simp only [not_or,Bool.not_eq_true,Bool.not_eq_false] at hh;obtain ⟨q1,q2,_⟩:=hB.yes hh.1 hh.2;rw [q1,q2,hok'];unfold PSt.setT;rw [List.map_set]
theorem cfg_trans {a b : PlD} (h : b.k = a.k/\b.t = a.t/\b.n = a.n/\b.e = a.e/\b.l = a.l) (g : a.k = κ/\a.t = T/\a.n = N/\a.e = E/\a.l = L) : b.k = κ/\b.t = T/\b.n = N/\b.e = E/\b.l = L:=by
 obtain ⟨a1,a2,a3,a4,a5⟩:=h;obtain ⟨b1,b2,b3,b4,b5⟩:=g;exact ⟨a1.trans b1,a2.trans b2,a3.trans b3,a4.trans b4,a5.trans b5⟩
theorem sweep_tsEq (P : PSt) : P.doSweep.1.ts = P.ts:=by
 unfold PSt.doSweep;simp only;split
 ·rfl
 ·split
  ·split <;> rfl
  ·split <;> rfl
end
end
section
open Go.ChangeShapes Go.WideShapes Go.ChangeAt Go.RowKit Go.Joins Go.Deep
theorem Tryz.own : ownKnob Tryz.prog.godebug = none:=by kernel_rfl
theorem Tryz.laidOut : laidOutB Tryz.prog = true:=by kernel_rfl
theorem Tryz.cellsConfig : Tryz.prog.cellsOf 23 = 5:=by kernel_rfl
theorem Tryz.cellsAct : Tryz.prog.cellsOf 29 = 7:=by kernel_rfl
theorem Tryz.cellsSpan : Tryz.prog.cellsOf 81 = 2:=by kernel_rfl
theorem Tryz.cellsSpans : Tryz.prog.cellsOf 27 = 1:=by kernel_rfl
theorem Tryz.cellsInt : Tryz.prog.cellsOf 3 = 1:=by kernel_rfl
theorem list5 {α : Type} {l : List α} (h : l.length = 5) : ∃ a b c d e,l = [a,b,c,d,e]:=by
 match l,h with
 | [a,b,c,d,e],_=>exact ⟨a,b,c,d,e,rfl⟩
theorem array5 {α : Type} {l : Array α} (h : l.size = 5) : ∃ a b c d e,l = #[a,b,c,d,e]:=by
 obtain ⟨l⟩:=l;obtain ⟨a,b,c,d,e,rfl⟩:=list5 (l:=l) h;exact ⟨a,b,c,d,e,rfl⟩
section
variable {H : Type} {enc : TypeId × Value->H} {P : Program} {w : World} {base : Nat} {spare : Nat->Bool} {held : Bool}
theorem trod_struct5 {t : TypeId} {f0 f1 f2 f3 f4 : Field} {fuel : Nat} {cs : List Value} {x : DataW H × List MemPlace} (ht : P.underlying t = some (.struct #[f0,f1,f2,f3,f4])) (h : DataW.trod enc P w base spare held fuel t cs = some x) :
  ∃ y0 y1 y2 y3 y4 n,DataW.trod enc P w base spare held n f0.type ((cs.drop f0.offset).take (P.cellsOf f0.type)) = some y0 /\
   DataW.trod enc P w base spare held n f1.type ((cs.drop f1.offset).take (P.cellsOf f1.type)) = some y1/\DataW.trod enc P w base spare held n f2.type ((cs.drop f2.offset).take (P.cellsOf f2.type)) = some y2 /\
   DataW.trod enc P w base spare held n f3.type ((cs.drop f3.offset).take (P.cellsOf f3.type)) = some y3/\DataW.trod enc P w base spare held n f4.type ((cs.drop f4.offset).take (P.cellsOf f4.type)) = some y4:=by
 obtain ⟨xs,n,_,rfl,hl,hlen,hf⟩:=DataW.trod_struct ht h;obtain ⟨y0,y1,y2,y3,y4,rfl⟩:=list5 (l:=xs) hlen;exact ⟨y0,y1,y2,y3,y4,n,by simpa using hf 0 f0 rfl,by simpa using hf 1 f1 rfl,by simpa using hf 2 f2 rfl,by simpa using hf 3 f3 rfl,by simpa using hf 4 f4 rfl⟩
def rawI (c : Int) : Prop:=-9223372036854775808<=c/\c<=9223372036854775807
theorem ints5 {r : Reach} {b0 : Nat} {t ti : TypeId} {f0 f1 f2 f3 f4 : Field} {v : Value} {d : DataW H} {p : List MemPlace} (hs : P.underlying t = some (.struct #[f0,f1,f2,f3,f4])) (hone : oneCellFields P #[f0,f1,f2,f3,f4] = true) (hC : P.cellsOf t = 5)
  (hi : P.underlying ti = some (.int .i64)) (h0 : f0.type = ti) (h1 : f1.type = ti) (h2 : f2.type = ti) (h3 : f3.type = ti) (h4 : f4.type = ti)
  (hv : Value.okWide P w r b0 t v) (h : DataW.Trod enc P w base spare held t v d p) : ∃ k t n e l : Int,v = cfg k t n e l/\rawI t/\rawI n/\rawI e/\rawI l:=by
 obtain ⟨cs,rfl,hsz⟩:=okWide_struct hs hv;obtain ⟨c0,c1,c2,c3,c4,rfl⟩:=array5 (hsz.trans hC);obtain ⟨fuel,hf⟩:=h;obtain ⟨y0,y1,y2,y3,y4,n,g0,g1,g2,g3,g4⟩:=trod_struct5 hs hf;obtain ⟨o0,k0⟩:=hone_of hone 0 f0 rfl;obtain ⟨o1,_⟩:=hone_of hone 1 f1 rfl;obtain ⟨o2,_⟩:=hone_of hone 2 f2 rfl;obtain ⟨o3,_⟩:=hone_of hone 3 f3 rfl;obtain ⟨o4,_⟩:=hone_of hone 4 f4 rfl;rw [h0] at k0;simp only [o0,o1,o2,o3,o4,h0,h1,h2,h3,h4,k0] at g0 g1 g2 g3 g4;obtain ⟨a0,e0,_,_⟩:=DataW.trod_int hi g0;obtain ⟨a1,e1,_,wf1⟩:=DataW.trod_int hi g1;obtain ⟨a2,e2,_,wf2⟩:=DataW.trod_int hi g2;obtain ⟨a3,e3,_,wf3⟩:=DataW.trod_int hi g3;obtain ⟨a4,e4,_,wf4⟩:=DataW.trod_int hi g4;have b1:=Go.bounds_i64 wf1;have b2:=Go.bounds_i64 wf2;have b3:=Go.bounds_i64 wf3;have b4:=Go.bounds_i64 wf4;simp [Value.cells] at e0 e1 e2 e3 e4;subst e0 e1 e2 e3 e4;exact ⟨a0,a1,a2,a3,a4,rfl,b1,b2,b3,b4⟩
end
theorem cfg_open {H : Type} {enc : TypeId × Value->H} {W : World} {r : Reach} {b0 base : Nat} {spare : Nat->Bool} {held : Bool} {v : Value} {d : DataW H} {p : List MemPlace}
  (hv : Value.okWide Tryz.prog W r b0 23 v) (h : DataW.Trod enc Tryz.prog W base spare held 23 v d p) : ∃ k t n e l : Int,v = cfg k t n e l/\rawI t/\rawI n/\rawI e/\rawI l :=
 ints5 Tryz.underlying23 (by kernel_rfl) Tryz.cellsConfig Tryz.underlying3 rfl rfl rfl rfl rfl hv h
theorem bulk_one {H : Type} (d : DataW H) : 1<=Rows.uptoBulk d:=by
 cases d with
 | lit l=>cases l <;> simp [Rows.uptoBulk]
 | nil=>simp [Rows.uptoBulk]
 | ptr d=>simp [Rows.uptoBulk]
 | slice elems spare=>simp [Rows.uptoBulk]
 | agg parts=>simp [Rows.uptoBulk]
 | iface t d=>simp [Rows.uptoBulk]
 | map entries=>simp [Rows.uptoBulk]
 | held h=>simp [Rows.uptoBulk]
theorem bulk_part {H : Type} {d : DataW H} : ∀ {l : List (DataW H)},d ∈ l->Rows.uptoBulk d<=Rows.uptoBulkAll l
 | [],h=>by cases h
 | x :: r,h=>by
  simp only [Rows.uptoBulkAll];rcases List.mem_cons.1 h with rfl | e
  ·omega
  ·have:=bulk_part e; omega
theorem bulk_len {H : Type} : ∀ (l : List (DataW H)),l.length<=Rows.uptoBulkAll l
 | []=>by simp
 | x :: r=>by have h1:=bulk_one x; have h2:=bulk_len r; simp only [Rows.uptoBulkAll,List.length_cons]; omega
theorem acts_open {H : Type} {enc : TypeId × Value->H} {W : World} {r : Reach} {b0 base : Nat} {spare : Nat->Bool} {held : Bool} {v : Value} {d : DataW H} {p : List MemPlace}
  (hv : Value.okWide Tryz.prog W r b0 24 v) (h : DataW.Trod enc Tryz.prog W base spare held 24 v d p) :
  ∃ sa n c,∃ acts : List ActD,v = .slice sa n c/\n<=Rows.uptoBulk d/\acts.length = n/\∀ i a,acts[i]? = some a->ActIn W sa i a/\a.sn<=Rows.uptoBulk d:=by
 obtain ⟨fuel,hf⟩:=h;obtain ⟨sa0,n0,c0,rfl⟩:=okWide_slice Tryz.underlying24 hv;obtain ⟨sa,n,c,acts,e,h1,h2,h3⟩:=script_open (B:=Rows.uptoBulk) Tryz.underlying24 Tryz.underlying29 Tryz.cellsAct rfl rfl rfl rfl rfl rfl rfl rfl rfl rfl rfl rfl rfl rfl Tryz.cellsInt Tryz.underlying3 Tryz.cellsSpans
  Tryz.underlying27 Tryz.underlying81 Tryz.cellsSpan rfl rfl rfl rfl
  (fun elems sp=>by have:=bulk_len elems; simp only [Rows.uptoBulk]; omega) (fun elems sp d hd=>by have:=bulk_part hd; simp only [Rows.uptoBulk]; omega) (fun parts d hd=>by have:=bulk_part hd; simp only [Rows.uptoBulk]; omega) hf
 simp [Value.cells] at e;obtain ⟨rfl,rfl,rfl⟩:=e;exact ⟨_,_,_,acts,rfl,h1,h2,h3⟩
end
end Go.Proofs.YtfccelbmacjifabGreat
