import Derived.Test.YtfccelbmacjifabGreatP0
import Derived.Test.YtfccelbmacjifabGreatP34
import Derived.Test.YtfccelbmacjifabGreatP30
import Derived.Test.YtfccelbmacjifabGreatP29
set_option linter.unusedSimpArgs false
set_option maxRecDepth 100000
set_option maxHeartbeats 4000000
namespace Go.Proofs.YtfccelbmacjifabGreat
section
open Go.RowKit
section
variable {κ : Int} {own : Own} {z : Nat} {w w1 w2 : World} {pb sb ub : Nat} {D D1 D2 : PlD} {ps : List (Int × Int)} {n e cl : Int} {i : Nat} {t : PThread}
structure Lone1 (own : Own) (z : Nat) (w w2 : World) (pb sb ub : Nat) (D : PlD) (ps : List (Int × Int)) (n e cl : Int) (i m : Nat) (P1 : PSt) (o : OpV) (A : BAns) (own2 : Own) (D2 : PlD) : Prop where
 at_ : AlAt own2 z w2 pb sb ub D2 ps n e cl
 ext : Ext own own2 w
 fr : FrA own z w w2
 done : Loned D i m P1 D2
 op : OpOk own2 (z + 1) w2 o
 last : ∃ l o' av f,D2.deeds = l ++ [⟨o',A,av,f⟩]
def LoneTo (κ : Int) (own : Own) (z : Nat) (w w' : World) (pb sb ub : Nat) (D : PlD) (ps : List (Int × Int)) (n e cl : Int) (i m : Nat) (P1 : PSt) (kd ky va : Int) (d : Bool) : Prop :=
 ∃ own' D',AlAt own' z w' pb sb ub D' (if d then shNew ps kd ky va else ps) (if d then n - spendN κ kd else n) (if d then e - spendE κ kd else e) (if d then cl + 1 else cl)/\Ext own own' w/\FrA own z w w'/\Loned D i m P1 D'
theorem Lone1.end_ {m : Nat} {P1 : PSt} {o : OpV} {A : BAns} {own2 : Own} {w' : World} (h : Lone1 own z w w2 pb sb ub D ps n e cl i m P1 o A own2 D2) (kd ky va : Int) (d : Bool) (hF : Fr (fun k=>k = sb\/k = ub) w2 w') {a : Option Addr} {c : Nat}
  (hS : ShAt w' sb a c (if d then shNew ps kd ky va else ps)) (hU : PuAt w' ub (if d then n - spendN κ kd else n) (if d then e - spendE κ kd else e) (if d then cl + 1 else cl)) (hg : ∀ g,a = some ⟨g,0,none⟩->(w2.heap.size<=g/\g < w'.heap.size)\/(g < w2.heap.size/\own2 g = ⟨z + 2,.lists⟩)) : LoneTo κ own z w w' pb sb ub D ps n e cl i m P1 kd ky va d:=by
 obtain ⟨own',h1,h2,h3⟩:=h.at_.after hF hS hU hg;exact ⟨own',D2,h1,Ext.trans h.ext h2 h.fr.size,FrA.trans h.fr h.ext h3,h.done⟩
theorem lone_on (h : AlAt own z w pb sb ub D ps n e cl) (hok : D.ok) (ht : D.P.ts[i]? = some t) (htb : t.busy = false) (kd ky va : Int) (sp : List (Int × Int)) (sa : Option Addr) (sc : Nat) (ho : OpOk own (z + 1) w ⟨kd,ky,va,sp,.slice sa sp.length sc⟩) (hsl : sp.length<=2 ^ 40) (hc : D.puts<=2 ^ 40/\0<=D.puts/\D.takes<=2 ^ 40/\0<=D.takes) (hp : properB kd ky sp = true)
  (hκ : κ = 0\/κ = 1) (hk : D.k = κ) (hcf : 0<=D.n/\D.n<=64) (hps : ps.length<=2 ^ 20) (hn : 0<=n/\n<=64) (he : 0<=e/\e<=256) (hcl : 0<=cl/\cl<=2 ^ 41) (hN : D.N<=2 ^ 38) (hdl : D.deeds.length<=2 ^ 38) (m : Nat) (hm : (m : Int) < D.n + 16) (P1 : PSt) (hP1 : P1 = D.begun i t ⟨kd,ky,va,sp,.slice sa sp.length sc⟩)
  (hmv : ∀ j,j < m->P1.how i j = 1) (hend : P1.how i m = 3) (hans : ((P1.iter i m).th i).work.ans = wantOf κ D.l n e cl ps kd ky sp) :
  Calls Tryz.prog 22 #[pv pb,pv sb,pv ub,.int .i64 i,opVal kd ky va (.slice sa sp.length sc)] w fun r w'=>r = .returned (.bool true)/\LoneTo κ own z w w' pb sb ub D ps n e cl i m P1 kd ky va (doneOf κ D.l n e cl ps kd ky):=by
 have hi:=(List.getElem?_eq_some_iff.1 ht).1;have hfew:=h.pl.fit.thr;obtain ⟨w0,hw0⟩ : ∃ w0,w0 = w.alloc (.cells #[.int .i64 kd,.int .i64 ky,.int .i64 va,.slice sa sp.length sc] 53):=⟨_,rfl⟩;have hX0 : At w0 w.heap.size [.int .i64 kd,.int .i64 ky,.int .i64 va,.slice sa sp.length sc] 53:=by rw [hw0]; exact At.new _ _ _
 have hf0 : Fr (fun _=>False) w w0:=by rw [hw0]; exact (Fr.refl _ _).alloc _
 have hE0 : Ext own (own.put w.heap.size (z + 7) .store) w:=Ext.put (Nat.le_refl _) _ _;have ht0 : (own.put w.heap.size (z + 7) .store) w.heap.size = ⟨z + 7,.store⟩:=Own.put_same _ _ _ _;generalize own.put w.heap.size (z + 7) .store = own0 at hE0 ht0;have hfp : FrP own z w w0:=Fr.mono hf0 (fun _ _ h=>h.elim);have hA0 : AlAt own0 z w0 pb sb ub D ps n e cl:=h.player (h.pl.fr hf0 hE0 (fun _ _ h=>h)) hE0 hfp;have hb : D.bs[i]? = some false:=by rw [hok,List.getElem?_map,ht]; simp [htb]
 have HB:=(mkH (Calls _ _ _ _ _) <|Pbegins_calls hA0.pl hok ht kd ky va sp sa sc (ho.fr hf0 hE0 (fun _ _ h=>h)) hsl hc);have H1 : Hid (∀ (own1 : Own) (w1 : World) (D1 : PlD),PlAt own1 z w1 pb D1->Ext own0 own1 w0->FrP own0 z w0 w1->Begun D i t ⟨kd,ky,va,sp,.slice sa sp.length sc⟩ D1->D1.bs[i]? = some true/\D1.P.ts.length = D.P.ts.length /\
   Calls Tryz.prog 30 #[pv pb,.int .i64 i] w1 fun r w2=>r = .returned (.bool true)/\At w2 w.heap.size [.int .i64 kd,.int .i64 ky,.int .i64 va,.slice sa sp.length sc] 53/\∃ own2 D2,Lone1 own z w w2 pb sb ub D ps n e cl i m P1 ⟨kd,ky,va,sp,.slice sa sp.length sc⟩ (wantOf κ D.l n e cl ps kd ky sp) own2 D2/\own2 w.heap.size = ⟨z + 7,.store⟩):=by
  intro own1 w1 D1 hP hE hF hG;obtain ⟨y1,y2,y3,y4,y5,y6⟩:=hG.yes htb hp;have hPP : D1.P = P1:=by rw [hP1]; exact y1
  have hbs : D1.bs[i]? = some true:=by
   rw [y2,List.getElem?_set_self (by rw [h.pl.bl]; exact hi)]
  have hlen : D1.P.ts.length = D.P.ts.length:=by rw [y1]; simp [PSt.setT]
  have hts : D1.P.ts[i]? = some { t with busy:=true,work:=newWork kd ky va sp }:=by
   rw [y1]; simp [PSt.setT,hi]
  refine ⟨hbs,hlen,?_⟩;have hcfg:=hG.cfg;refine (Psolo_calls hP (by rw [hcfg.2.2.1]; exact hcf) hbs hts rfl (by rw [hG.N]; exact hN) (by rw [hG.deeds]; exact hdl) m (by rw [hcfg.2.2.1]; exact hm) (by rw [hPP]; exact hmv) (by rw [hPP]; exact hend)).mono ?_;rintro r w2 ⟨rfl,own2,D2,hP2,hE2,hF2,hS⟩;have hE02:=Ext.trans hE hE2 hF.size;have hF02:=FrP.trans hF hE hF2;have hL:=Loned.of hG htb hp hb hS;have htb2 : own2 w.heap.size = ⟨z + 7,.store⟩:=by rw [hE02 _ hX0.lt]; exact ht0
  refine ⟨rfl,hF02.at hX0 (by rw [ht0]; simp),own2,D2,⟨hA0.player hP2 hE02 hF02,Ext.trans hE0 hE02 hf0.size,FrA.trans hfp.fra hE0 hF02.fra,by rw [hP1]; exact hL,?_,?_⟩,htb2⟩
  ·refine hP2.opk _ ?_;rw [hS.same.1,y3];exact List.mem_set (by rw [h.pl.ol]; exact hi) _
  ·obtain ⟨av,o',f,_,_,q3⟩:=hS.deeds;rw [hPP,hans] at q3;exact ⟨_,_,_,_,q3⟩
 have HP:=(mkH (properB kd ky sp = true) <|hp);have HSB : Hid (sb < w.heap.size/\ub < w.heap.size/\sb≠ub):=by
  obtain ⟨a,c,hs,_⟩:=h.sh;refine ⟨hs.1.lt,At.lt h.pu,?_⟩;rintro rfl;have h1:=h.ts;rw [h.tu] at h1;simp at h1
 have HDL:=(mkH (D.deeds.length<=2 ^ 38) <|hdl);have HK:=(mkH (D.k = κ) <|hk);have HKk:=(mkH (κ = 0\/κ = 1) <|hκ);have E0:=(mkH (w0 = _) <|hw0);clear h hok ht htb ho hp hk hN hdl hm hP1 hmv hend hans hX0 hf0 hE0 ht0 hfp hA0 hb hw0;unfold opVal;unfold opVal pv at HB;unfold pv at H1;unfold pv
 go_enter Tryz.func22,Tryz.ntmps22
 go_wp2_with fail;rw [<- E0.out];refine Calls.mono HB.out ?_;rintro r w1 ⟨rfl,own1,D1,hP,hE,hF,hG⟩;obtain ⟨hbs,hlen,hsolo⟩:=H1.out own1 w1 D1 hP hE hF hG;obtain ⟨g,c,hv,hbc,hz,hg,hgl⟩:=hP.busyRow hbs;rw [hlen] at hv;have ha:=hP.at_.cell;simp only [PlD.cells,hv,pv] at ha;have HS:=(mkH (Calls _ _ _ _ _) <|hsolo);clear hP hE hF hG hz hg hv HB H1 hlen hsolo hbs E0;go_wp2_with fail;refine Calls.mono HS.out ?_;rintro r w2 ⟨rfl,hX,own2,D2,hL,htX⟩;clear HS ha hbc;obtain ⟨l,o',av,f,hd⟩:=hL.last;obtain ⟨gd,cd,hdv,hdc⟩:=hL.at_.pl.lastDeed hd;have hdm:=hL.at_.pl.dok ⟨o',wantOf κ D.l n e cl ps kd ky sp,av,f⟩ (by rw [hd]; simp);obtain ⟨xa,xc,rfl⟩ : ∃ xa xc,av = .slice xa (wantOf κ D.l n e cl ps kd ky sp).spans.length xc:=by
  obtain ⟨ins,h1,h2,h3⟩:=hdm.2.1.top;exact ownsShape h2.row
 have hdl : l.length<=2 ^ 38:=by
  have h1:=hL.done.deeds;have h2:=HDL.out;rw [hd] at h1;simp at h1;omega
 have ha:=hL.at_.pl.at_.cell;simp only [PlD.cells,hdv,pv] at ha;obtain ⟨A,hA⟩ : ∃ A,Hid (A = wantOf κ D.l n e cl ps kd ky sp):=⟨_,rfl⟩;rw [<- hA.out] at hdc hdm;have hpl:=hL.at_.pl.at_.lt;have hpn : pb≠w2.heap.size:=by omega
 have hgl:=cellLt (hdc 4 _ rfl);simp only at hgl;have hgn : gd≠w2.heap.size:=by omega
 have hdi : (l.length : Int)<=2 ^ 38:=by omega
 have d4:=hdc 4 _ rfl;have d5:=hdc 5 _ rfl;have d6:=hdc 6 _ rfl;have d7:=hdc 7 _ rfl;have d8:=hdc 8 _ rfl;have HL:=(mkH (Lone1 _ _ _ _ _ _ _ _ _ _ _ _ _ _ _ _ _ _ _) <|hL);have HDM:=(mkH (DeedOk _ _ _ _) <|hdm);have HX:=(mkH (At w2 w.heap.size _ 53) <|hX);clear hL hd hdm hX hdc hdv;go_wp2_with fail;go_region;generalize hw3 : World.drew _ = w3;have HA3:=(mkH (At w3 w2.heap.size [.int .i64 A.err,.bool A.did,.int .i64 A.value,.int .i64 A.stamp,.slice xa A.spans.length xc] 69) <|by rw [<- hw3]; exact (At.new w2 _ _).drew);have hf3 : Fr (fun _=>False) w2 w3:=by rw [<- hw3]; exact ((Fr.refl _ _).alloc _).drew
 clear hw3 ha d4 d5 d6 d7 d8 hpl hpn hgl hgn;obtain ⟨a,c,hs,htl⟩:=HL.out.at_.sh;have hs3:=hs.calm hf3;have hsc:=hs3.1.cell;have hx3:=hf3.at HX.out (fun h=>h);have hxc:=hx3.cell;have HPs:=(mkH (PairsAt w3 sa sp) <|(PairsAt.ofRow HL.out.op).calm hf3);have HS3:=(mkH (ShAt w3 sb a c ps) <|hs3);have HX3:=(mkH (At w3 w.heap.size _ 53) <|hx3);have HU3:=(mkH (PuAt w3 ub n e cl) <|hf3.at HL.out.at_.pu (fun h=>h));have HTl:=(mkH (∀ g,a = some ⟨g,0,none⟩->g < w2.heap.size/\own2 g = ⟨z + 2,.lists⟩) <|htl);have HF3:=(mkH (Fr (fun _=>False) w2 w3) <|hf3);have h2l : Hid (w.heap.size < w2.heap.size):=HX.out.lt;clear hs hs3 hx3 hf3 htl HX hdl hdi;go_wp2_with fail;refine Calls.mono (does_calls HS3.out kd ky va sa sc sp HPs.out hps HP.out) ?_;rintro r w4 ⟨va',vn,vc,rfl,hD⟩;have HF4 : Hid (Fr (fun k=>k = sb) w3 w4):=by
  cases hu : shUpd ps kd ky
  ·exact Fr.mono (hD.no hu).fr (fun _ _ h=>h.elim)
  ·exact (hD.yes hu).2.1
 have HX4:=(mkH (At w4 w.heap.size _ 53) <|HF4.out.at HX3.out (by have:=HSB.out.1; omega));have HA4:=(mkH (At w4 w2.heap.size _ 69) <|HF4.out.at HA3.out (by have:=HSB.out.1; have:=h2l.out; omega));have HU4:=(mkH (PuAt w4 ub n e cl) <|HF4.out.at HU3.out (fun h=>HSB.out.2.2 h.symm));have HD:=(mkH (DoesTo w3 w4 sb ps kd ky va sp (.slice va' vn vc)) <|hD);obtain ⟨SA,hSA⟩ : ∃ SA,Hid (SA = shAns ps kd ky sp):=⟨_,rfl⟩;rw [<- hSA.out];have hxc:=HX4.out.cell;have hxl:=HX4.out.lt;have hxn : w.heap.size≠w4.heap.size:=by omega
 clear hD hsc;simp only [ansV];go_wp2_with fail;generalize hw5 : World.alloc _ _ = w5;have HW5:=(mkH (At w5 w4.heap.size [.int .i64 SA.err,.bool SA.did,.int .i64 SA.value,.int .i64 SA.stamp,.slice va' vn vc] 69) <|by rw [<- hw5]; exact At.new w4 _ _);have hf5 : Fr (fun _=>False) w4 w5:=by rw [<- hw5]; exact (Fr.refl _ _).alloc _
 clear hw5;refine Calls.mono (isUpdate_calls kd ky va (.slice sa sp.length sc) w5) ?_;rintro r w6 ⟨rfl,hf6⟩;have HF6:=(mkH (Fr (fun _=>False) w4 w6) <|hf5.trans hf6);have HW6:=(mkH (At w6 w4.heap.size _ _) <|hf6.at HW5.out (fun h=>h));have HX6:=(mkH (At w6 w.heap.size _ _) <|HF6.out.at HX4.out (fun h=>h));have HA6:=(mkH (At w6 w2.heap.size _ _) <|HF6.out.at HA4.out (fun h=>h));have HU6:=(mkH (PuAt w6 ub n e cl) <|HF6.out.at HU4.out (fun h=>h));have HF26:=(mkH (Fr (fun k=>k = sb\/k = ub) w2 w6) <|((Fr.mono HF3.out (fun _ _ h=>h.elim)).trans (Fr.mono HF4.out (fun _ _ h=>.inl h))).trans (Fr.mono HF6.out (fun _ _ h=>h.elim)));have h24 : w2.heap.size < w4.heap.size:=HA4.out.lt;have h4n : w4.heap.size≠w2.heap.size:=by omega
 have h4n' : w2.heap.size≠w4.heap.size:=by omega
 clear hf5 hf6 HW5 HX4 HA4 HU4 hxl hxn hxc;have HSame : Hid (∀ (w7 : World) (ya : Option Addr) (yn yc : Nat) (B : BAns),A = B->Fr (fun k=>k = sb\/k = ub) w2 w7->(B.spans = []->Value.slice ya yn yc = .slice none 0 0)->(yn = B.spans.length/\ReadLists w7 ya B.spans) ->
   Calls Tryz.prog 38 #[.agg #[.int .i64 A.err,.bool A.did,.int .i64 A.value,.int .i64 A.stamp,.slice xa A.spans.length xc],.agg #[.int .i64 B.err,.bool B.did,.int .i64 B.value,.int .i64 B.stamp,.slice ya yn yc]] w7 fun e w'=>e = .returned (.bool true)/\Fr (fun _=>False) w7 w'):=by
  intro w7 ya yn yc B hAB hF hy h2;subst hAB;refine sameAnswers_eq A w7 xa ya _ yn xc yc HDM.out.2.2 HDM.out.2.1.nil hy ((HDM.out.2.1.fr hF (Ext.refl _ _) ?_).read) h2;rintro k hk (rfl | rfl)
  ·rw [HL.out.at_.ts] at hk; simp at hk
  ·rw [HL.out.at_.tu] at hk; simp at hk
 have hnub : ub≠w4.heap.size:=by have:=HSB.out.2.1; have:=h2l.out; omega
 have hnub' : w4.heap.size≠ub:=fun h=>hnub h.symm
 have HEnd : Hid (∀ (w8 : World) (d : Bool) (a' : Option Addr) (c' : Nat),Fr (fun k=>k = sb\/k = ub) w2 w8->doneOf κ D.l n e cl ps kd ky = d->ShAt w8 sb a' c' (if d then shNew ps kd ky va else ps)->PuAt w8 ub (if d then n - spendN κ kd else n) (if d then e - spendE κ kd else e) (if d then cl + 1 else cl)->(∀ g,a' = some ⟨g,0,none⟩->(w2.heap.size<=g/\g < w8.heap.size)\/(g < w2.heap.size/\own2 g = ⟨z + 2,.lists⟩)) ->
   LoneTo κ own z w w8 pb sb ub D ps n e cl i m P1 kd ky va (doneOf κ D.l n e cl ps kd ky)):=by
  intro w8 d a' c' hF hd hS hU hg;rw [hd];exact HL.out.end_ kd ky va d hF hS hU hg
 cases hu : shUpd ps kd ky
 ·have HOL:=(mkH (OwnLists w3 w6 (.slice va' vn vc) SA.spans) <|by rw [hSA.out]; exact (HD.out.no hu).calm HF6.out);have hwc:=HW6.out.cell;have hwz:=HW6.out.frozen;have hac:=HA6.out.cell;have huc:=HU6.out.cell;have HDn : Hid (doneOf κ D.l n e cl ps kd ky = false):=by show _ = _; simp [doneOf,hu]
  have HAw : Hid (A = if SA.err = 0 then { SA with stamp:=cl } else SA):=by show _ = _; rw [hA.out,wantOf,hu,hSA.out]; rfl
  have HBD : Hid ((kd == 1 || kd == 2) = true->SA = {}):=by
   intro hb;rw [hSA.out];have h12 : kd = 1\/kd = 2:=by simpa using hb
   unfold shAns;rw [if_neg (by omega),if_neg (by omega),hu]
   rfl
  have HFin : Hid (∀ w8 : World,Fr (fun k=>w4.heap.size<=k) w6 w8->LoneTo κ own z w w8 pb sb ub D ps n e cl i m P1 kd ky va (doneOf κ D.l n e cl ps kd ky)):=by
   intro w8 hF;have hF28 : Fr (fun k=>k = sb\/k = ub) w2 w8:=Fr.transNew HF26.out hF (fun k hk=>.inr (Nat.le_trans (Nat.le_of_lt h24) hk));have hs6:=HS3.out.calm HOL.out.fr;refine HEnd.out w8 false a c hF28 HDn.out (hs6.keepS hF ?_ ?_) (hF.at HU6.out ?_) ?_
   ·have:=HSB.out.1; have:=h2l.out; omega
   ·intro g hg; have:=(HTl.out g hg).1; omega
   ·have:=HSB.out.2.1; have:=h2l.out; omega
   ·intro g hg; exact .inr (HTl.out g hg)
  have HRd : Hid ((∀ v,vn = SA.spans.length/\ReadLists (w6.setCell ⟨w4.heap.size,3,none⟩ v) va' SA.spans)/\vn = SA.spans.length/\ReadLists w6 va' SA.spans):=by
   refine ⟨fun v=>?_,?_⟩
   ·obtain ⟨_,_,hL⟩:=(HOL.out.setOther HW6.out (by decide) (by decide) HF4.out.size 3 v).lists own2 0;exact hL.read
   ·obtain ⟨_,_,hL⟩:=HOL.out.lists own2 0;exact hL.read
  generalize (kd == 1 || kd == 2) = b at HBD ⊢;have HFS : Hid (∀ v,Fr (fun k=>k = sb\/k = ub) w2 (w6.setCell ⟨w4.heap.size,3,none⟩ v)):=fun v=>Fr.setNew (Nat.le_of_lt h24) HF26.out _ _
  cases b
  ·by_cases he0 : SA.err = 0
   ·have he0' : (SA.err == 0) = true:=by simpa using he0
    have HC:=(mkH (Calls _ _ _ _ _) <|HSame.out (w6.setCell ⟨w4.heap.size,3,none⟩ (.int .i64 cl)) va' vn vc { SA with stamp:=cl } (by rw [HAw.out,if_pos he0]) (HFS.out _) HOL.out.nil (HRd.out.1 _));clear he0;go_wp2_with fail;refine Calls.mono HC.out ?_;rintro r w8 ⟨rfl,hf8⟩;have HG:=(mkH (LoneTo _ _ _ _ _ _ _ _ _ _ _ _ _ _ _ _ _ _ _ _) <|HFin.out w8 (((Fr.refl _ _).setIn (Nat.le_refl _) _ _).trans (Fr.mono hf8 (fun _ _ h=>h.elim))));clear hf8;go_wp2;go_ret;exact ⟨rfl,HG.out⟩
   ·have he0' : (SA.err == 0) = false:=by simpa using he0
    have HC:=(mkH (Calls _ _ _ _ _) <|HSame.out w6 va' vn vc SA (by rw [HAw.out,if_neg he0]) HF26.out HOL.out.nil HRd.out.2);clear he0;go_wp2_with fail;refine Calls.mono HC.out ?_;rintro r w8 ⟨rfl,hf8⟩;have HG:=(mkH (LoneTo _ _ _ _ _ _ _ _ _ _ _ _ _ _ _ _ _ _ _ _) <|HFin.out w8 (Fr.mono hf8 (fun _ _ h=>h.elim)));clear hf8;go_wp2;go_ret;exact ⟨rfl,HG.out⟩
  ·have hz:=HBD.out rfl;have HC:=(mkH (Calls _ _ _ _ _) <|HSame.out (w6.setCell ⟨w4.heap.size,3,none⟩ (.int .i64 cl)) va' vn vc { SA with stamp:=cl } (by rw [HAw.out,if_pos (by rw [hz])]) (HFS.out _) HOL.out.nil (HRd.out.1 _));have hz1 : SA.did = false:=by rw [hz]
   have hz2 : (SA.err == 0) = true:=by rw [hz]; rfl
   have hz3 : SA.err = 0:=by rw [hz]
   clear hz;go_wp2_with fail;simp only [hz1,hz3] at HC;refine Calls.mono HC.out ?_;rintro r w8 ⟨rfl,hf8⟩;have HG:=(mkH (LoneTo _ _ _ _ _ _ _ _ _ _ _ _ _ _ _ _ _ _ _ _) <|HFin.out w8 (((Fr.refl _ _).setIn (Nat.le_refl _) _ _).trans (Fr.mono hf8 (fun _ _ h=>h.elim))));clear hf8;go_wp2;go_ret;exact ⟨rfl,HG.out⟩
 ·obtain ⟨hv0,_,a',c',hS4,hg4⟩:=HD.out.yes hu;obtain ⟨rfl,rfl,rfl⟩ : va' = none/\vn = 0/\vc = 0:=by simpa using hv0
  have h12 : kd = 1\/kd = 2:=by
   have:=hu
   simp only [shUpd,Bool.or_eq_true,Bool.and_eq_true,beq_iff_eq] at this;omega
  have hb12 : (kd == 1 || kd == 2) = true:=by simpa using h12
  rw [hb12];have hSAe : SA.err = 0/\SA.did = true/\SA.stamp = 0/\SA.spans = []:=by
   rw [hSA.out];unfold shAns;rw [if_neg (by omega),if_neg (by omega),if_pos hu];exact ⟨rfl,rfl,rfl,rfl⟩
  obtain ⟨er,hEr⟩ : ∃ er,Hid (er = spendErr κ D.l kd n e cl):=⟨_,rfl⟩;have HAw : Hid (A = if er = 0 then { SA with stamp:=cl + 1 } else { err:=er }):=by show _ = _; rw [hA.out,wantOf,hu,hSA.out,hEr.out]; rfl
  have HDn : Hid (doneOf κ D.l n e cl ps kd ky = decide (er = 0)):=by show _ = _; simp [doneOf,hu,hEr.out]
  have HSAe:=(mkH (SA.err = 0/\SA.did = true/\SA.stamp = 0/\SA.spans = []) <|hSAe);have hnp : pb≠sb/\pb≠ub:=by
   refine ⟨?_,?_⟩
   ·rintro rfl
    have:=HL.out.at_.pl.tg
    rw [HL.out.at_.ts] at this;simp at this
   ·rintro rfl
    have:=HL.out.at_.pl.tg
    rw [HL.out.at_.tu] at this;simp at this
  have HP6 : Hid (At w6 pb D2.cells 42):=HF26.out.at HL.out.at_.pl.at_ (by rintro (h | h); exact hnp.1 h; exact hnp.2 h);have hcfg:=HL.out.done.cfg;have HCf:=(mkH (D2.k = κ/\D2.l = D.l) <|⟨hcfg.1.trans HK.out,hcfg.2.2.2.2⟩);have hpc:=HP6.out.cell;simp only [PlD.cells,HCf.out.1,HCf.out.2,pv] at hpc;have hwc:=HW6.out.cell;rw [hSAe.1,hSAe.2.1] at hwc;have hxc:=HX6.out.cell;have HS6:=(mkH (ShAt w6 sb a' c' (shNew ps kd ky va)) <|hS4.calm HF6.out);have HG4:=(mkH (∀ g,a' = some ⟨g,0,none⟩->w3.heap.size<=g/\g < w4.heap.size) <|hg4);clear hS4 hg4 hv0 hb12 hcfg hSAe h12;go_wp2_with fail;refine wp_region_end 6 (fun w'=>Fr (fun k=>k = ub) w6 w'/\Spent κ D.l kd n e cl ub w') (by kernel_rfl) (by kernel_rfl) (by kernel_rfl) (by kernel_rfl) (by decide) ?_;intro U W hU hW;have hFu : ∀ u,Fr (fun k=>k = ub) w6 (W u):=by
   intro u;rcases hW u with h1 | h1
   ·exact Fr.mono h1 (fun _ _ h=>h.elim)
   ·exact h1.1
  have hpu : ∀ u o,(W u).cell? ⟨pb,o,none⟩ = [Value.pointer (some ⟨D2.L.s,0,none⟩),.int .i64 κ,.int .i64 D2.t,.int .i64 D2.n,.int .i64 D2.e,.int .i64 D.l,D2.bv,D2.ov,D2.fv,D2.dv,.int .i64 D2.puts,.int .i64 D2.takes][o]?:=by
   intro u o
   have:=((hFu u).at HP6.out hnp.2).cell o
   simpa only [PlD.cells,HCf.out.1,HCf.out.2,pv] using this
  have hxu : ∀ u o,(W u).cell? ⟨w.heap.size,o,none⟩ = [Value.int .i64 kd,.int .i64 ky,.int .i64 va,.slice sa sp.length sc][o]?:=fun u=>((hFu u).at HX6.out (by have:=HSB.out.2.1; omega)).cell
  clear hW hFu hpc hxc hwc
  repeat (refine mix_read rfl rfl ?_; go_big_quiet_step (fail); refine wpQuiet_nil ?_)
  refine mix_effC (.int .i64 er) rfl rfl rfl ?_ ?_
  ·intro w' hw';have hw0:=hw'.1 rfl;go_simp;refine Calls.mono (spend_calls (hw0.at HU6.out (fun h=>h)) hn he hcl κ D2.t D2.n D2.e D.l kd ky va (.slice sa sp.length sc) HKk.out) ?_;rintro r w'' ⟨rfl,hF,hS⟩;exact ⟨by rw [<- hEr.out],(Fr.mono hw0 (fun _ _ h=>h.elim)).trans hF,hS⟩
  go_simp
  repeat (refine mix_read rfl rfl ?_; go_big_quiet_step (fail); refine wpQuiet_nil ?_)
  refine mix_nil ?_;intro w7 hF7 hS7;clear hpu hxu;have HF27:=(mkH (Fr (fun k=>k = sb\/k = ub) w2 w7) <|HF26.out.trans (Fr.mono hF7 (fun _ _ h=>.inr h)));have HF37:=(mkH (Fr (fun k=>k = sb\/k = ub) w3 w7) <|((Fr.mono HF4.out (fun _ _ h=>.inl h)).trans (Fr.mono HF6.out (fun _ _ h=>h.elim))).trans (Fr.mono hF7 (fun _ _ h=>.inr h)));have HW7:=(mkH (At w7 w4.heap.size _ 69) <|hF7.at HW6.out hnub');have HA7:=(mkH (At w7 w2.heap.size _ 69) <|hF7.at HA6.out (by have:=HSB.out.2.1; have:=h2l.out; omega));have hub : ub < w.heap.size:=HSB.out.2.1;have hsb : sb < w.heap.size:=HSB.out.1;have hsu : sb≠ub:=HSB.out.2.2;have h22 : w.heap.size < w2.heap.size:=h2l.out;have h33 : w2.heap.size<=w3.heap.size:=HF3.out.size;have h34 : w3.heap.size<=w4.heap.size:=HF4.out.size;have HS7:=(mkH (ShAt w7 sb a' c' (shNew ps kd ky va)) <|HS6.out.keepS hF7 hsu (by intro g hg h; have:=(HG4.out g hg).1; omega));have h47 : w4.heap.size < w7.heap.size:=HW7.out.lt;have HSp:=(mkH (Spent κ D.l kd n e cl ub w7) <|hS7);have hwc:=HW7.out.cell;have hwz:=HW7.out.frozen;rw [HSAe.out.1,HSAe.out.2.1] at hwc;have hac:=HA7.out.cell;clear hF7 hS7 HW6 HA6 HU6 HP6 HX6 HS6;by_cases h0 : er = 0
  ·have HPu:=(mkH (PuAt w7 ub (n - spendN κ kd) (e - spendE κ kd) (cl + 1)) <|by
    have:=HSp.out
    unfold Spent at this;rw [if_pos (by rw [<- hEr.out]; exact h0)] at this;exact this)
   have huc:=HPu.out.cell;have HC:=(mkH (Calls _ _ _ _ _) <|HSame.out (w7.setCell ⟨w4.heap.size,3,none⟩ (.int .i64 (cl + 1))) none 0 0 { err:=0,did:=true,value:=SA.value,stamp:=cl + 1,spans:=[] } (by
    rw [HAw.out,if_pos h0];obtain ⟨q1,q2,q3,q4⟩:=HSAe.out;rw [q1,q2,q4]) (Fr.setNew (by omega) HF27.out _ _) (fun _=>rfl) ⟨rfl,by intro i l hl; simp at hl⟩)
   have HDt : Hid (doneOf κ D.l n e cl ps kd ky = true):=by show _ = _; rw [HDn.out]; simpa using h0
   subst h0;go_wp2_with fail;refine Calls.mono HC.out ?_;rintro r w8 ⟨rfl,hf8⟩;have hF28 : Fr (fun k=>k = w4.heap.size) w7 w8:=((Fr.refl _ _).set1 _ _).trans (Fr.mono hf8 (fun _ _ h=>h.elim));have HG:=(mkH (LoneTo _ _ _ _ _ _ _ _ _ _ _ _ _ _ _ _ _ _ _ _) <|HEnd.out w8 true a' c' (Fr.transNew HF27.out hF28 (fun k hk=>.inr (by omega))) HDt.out (HS7.out.keepS hF28 (by omega) (by intro g hg h; have:=(HG4.out g hg).2; omega)) (hF28.at HPu.out (by omega)) (by
    intro g hg
    have:=HG4.out g hg
    have:=hF28.size
    exact .inl ⟨by omega,by omega⟩))
   clear hf8 hF28;go_wp2;go_ret;exact ⟨rfl,HG.out⟩
  ·have h0' : (er == 0) = false:=by simpa using h0
   have h0'' : (er != 0) = true:=by simpa using h0
   have HPu:=(mkH (PuAt w7 ub n e cl) <|by
    have:=HSp.out
    unfold Spent at this;rw [if_neg (by rw [<- hEr.out]; exact h0)] at this;exact this)
   have hsc:=HS7.out.1.cell;have hsz:=HS7.out.1.frozen;obtain ⟨w9,hw9⟩ : ∃ w9,w9 = (((((w7.setCell ⟨w4.heap.size,0,none⟩ (.int .i64 er)).setCell ⟨w4.heap.size,1,none⟩ (.bool false)).setCell ⟨w4.heap.size,2,none⟩ (.int .i64 0)).setCell ⟨w4.heap.size,3,none⟩ (.int .i64 0)).setCell ⟨w4.heap.size,4,none⟩ (.slice none 0 0)).setCell ⟨sb,0,none⟩ (.slice a ps.length c):=⟨_,rfl⟩;have HF79 : Hid (Fr (fun k=>k = w4.heap.size\/k = sb) w7 w9):=by
    show Fr _ _ _;rw [hw9];exact ((((((Fr.refl (fun k=>k = w4.heap.size\/k = sb) w7).setIn (.inl rfl) 0 (.int .i64 er)).setIn (.inl rfl) 1 (.bool false)).setIn (.inl rfl) 2 (.int .i64 0)).setIn (.inl rfl) 3 (.int .i64 0)).setIn (.inl rfl) 4 (.slice none 0 0)).setIn (.inr rfl) 0 (.slice a ps.length c)
   have HF29 : Hid (Fr (fun k=>k = sb\/k = ub) w2 w9):=Fr.transNew HF27.out HF79.out (fun k hk=>by rcases hk with h | h; exact .inr (by omega); exact .inl (.inl h));have HS9 : Hid (ShAt w9 sb a c ps):=by
    refine ⟨?_,PairsAt.keepS HS3.out.2 (Fr.transNew HF37.out HF79.out (fun k hk=>by rcases hk with h | h; exact .inr (by omega); exact .inl (.inl h))) ?_⟩
    ·rw [hw9];exact At.set (At.setOther (At.setOther (At.setOther (At.setOther (At.setOther HS7.out.1 _ (show sb≠w4.heap.size by omega) _) _ (show sb≠w4.heap.size by omega) _) _ (show sb≠w4.heap.size by omega) _) _ (show sb≠w4.heap.size by omega) _) _ (show sb≠w4.heap.size by omega) _) 0 _
    ·rintro g hg (rfl | rfl)
     ·have:=(HTl.out _ hg).2
      rw [HL.out.at_.ts] at this;simp at this
     ·have:=(HTl.out _ hg).2
      rw [HL.out.at_.tu] at this;simp at this
   have HW9 : Hid (At w9 w4.heap.size [.int .i64 er,.bool false,.int .i64 0,.int .i64 0,.slice none 0 0] 69):=by
    show At _ _ _ _;rw [hw9];exact At.setOther (copy5 HW7.out _ _ _ _ _) _ (show w4.heap.size≠sb by omega) _
   have HA9 : Hid (At w9 w2.heap.size _ 69):=HF79.out.at HA7.out (by rintro (h | h) <;> omega);have HU9 : Hid (PuAt w9 ub n e cl):=HF79.out.at HPu.out (by rintro (h | h) <;> omega);have HC:=(mkH (Calls _ _ _ _ _) <|HSame.out w9 none 0 0 { err:=er } (by rw [HAw.out,if_neg h0]) HF29.out (fun _=>rfl) ⟨rfl,by intro i l hl; simp at hl⟩);have HDf : Hid (doneOf κ D.l n e cl ps kd ky = false):=by show _ = _; rw [HDn.out]; simpa using h0
   have W9:=(mkH (w9 = _) <|hw9);have n1 : sb≠w4.heap.size:=by omega
   have n2 : w4.heap.size≠sb:=by omega
   have n3 : w2.heap.size≠sb:=by omega
   clear hw9 h0;go_wp2_with fail;rw [<- W9.out];refine Calls.mono HC.out ?_;rintro r w8 ⟨rfl,hf8⟩;have HG:=(mkH (LoneTo _ _ _ _ _ _ _ _ _ _ _ _ _ _ _ _ _ _ _ _) <|HEnd.out w8 false a c (HF29.out.trans (Fr.mono hf8 (fun _ _ h=>h.elim))) HDf.out (HS9.out.calm hf8) (hf8.at HU9.out (fun h=>h)) (fun g hg=>.inr (HTl.out g hg)));clear hf8;go_wp2;go_ret;exact ⟨rfl,HG.out⟩
end
end
section
open Go.RowKit
structure AlSt (κ : Int) (W : World) (w : World) (pb sb ub : Nat) (T N E L : Int) (Q : PSt->List (Int × Int)->Int->Int->Int->Prop) (j : Nat) (own : Own) (D : PlD) (ps : List (Int × Int)) (n e c : Int) : Prop where
 at_ : AlAt own 1 w pb sb ub D ps n e c
 ext : Ext own00 own W
 fr : Fr (fun _=>False) W w
 q : Q D.P ps n e c
 ok : D.ok
 cfg : D.k = κ/\D.t = T/\D.n = N/\D.e = E/\D.l = L
 N : D.N<=100 * j
 deeds : D.deeds.length<=j
 cnt : 0<=D.puts/\D.puts<=j/\0<=D.takes/\D.takes<=j
def AlOn (κ : Int) (W : World) (w : World) (pb sb ub : Nat) (T N E L : Int) (Q : PSt->List (Int × Int)->Int->Int->Int->Prop) (j : Nat) : Prop:=∃ own D ps n e c,AlSt κ W w pb sb ub T N E L Q j own D ps n e c
section
variable {κ : Int} {W w w1 w2 : World} {pb sb ub : Nat} {T N E L : Int} {Q : PSt->List (Int × Int)->Int->Int->Int->Prop} {j i : Nat} {own own1 : Own} {D D1 : PlD} {ps : List (Int × Int)} {n e c : Int} {z : Nat}
theorem AlAt.calm (h : AlAt own z w pb sb ub D ps n e c) (hf : Fr (fun _=>False) w w1) (he : Ext own own1 w) : AlAt own1 z w1 pb sb ub D ps n e c :=
 h.player (h.pl.fr hf he (fun _ _ h=>h)) he (Fr.mono hf (fun _ _ h=>h.elim))
theorem ok_of (hi : ∀ t ∈ D.P.ts,t.busy = false) (hb : ∀ b ∈ D.bs,b = false) (hl : D.bs.length = D.P.ts.length) : D.ok:=by
 show D.bs = D.P.ts.map (·.busy);apply List.ext_getElem (by simpa using hl);intro k h1 h2;rw [hb _ (List.getElem_mem h1),List.getElem_map,hi _ (List.getElem_mem _)]
theorem ok_all (hi : ∀ t ∈ D.P.ts,t.busy = false) (hk : D.ok) : ∀ b ∈ D.bs,b = false:=by
 intro b hb;rw [hk] at hb;obtain ⟨t,h1,rfl⟩:=List.mem_map.1 hb;exact hi t h1
theorem AlSt.calm (h : AlSt κ W w pb sb ub T N E L Q j own D ps n e c) (hf : Fr (fun _=>False) w w1) : AlSt κ W w1 pb sb ub T N E L Q j own D ps n e c :=
 ⟨h.at_.calm hf (Ext.refl _ _),h.ext,h.fr.trans hf,h.q,h.ok,h.cfg,h.N,h.deeds,h.cnt⟩
theorem AlSt.more (h : AlSt κ W w pb sb ub T N E L Q j own D ps n e c) : AlSt κ W w pb sb ub T N E L Q (j + 1) own D ps n e c :=
 ⟨h.at_,h.ext,h.fr,h.q,h.ok,h.cfg,by have:=h.N; omega,by have:=h.deeds; omega,by have:=h.cnt; omega⟩
theorem AlSt.old (h : AlSt κ W w pb sb ub T N E L Q j own D ps n e c) {S : Nat->Prop} (hS : ∀ k,S k->1<=(own k).z) (hf : Fr S w w1) : Fr (fun _=>False) W w1:=by
 refine Fr.transNew h.fr hf ?_;intro k hk;right;rcases Nat.lt_or_ge k W.heap.size with hlt | hge
 ·have:=hS k hk
  rw [h.ext k hlt] at this;simp [own00] at this
 ·exact hge
theorem AlSt.loned (hQ : Quiets κ T N E L Q) (h : AlSt κ W w pb sb ub T N E L Q j own D ps n e c) (he : Ext own own1 w) (hfa : FrA own 1 w w1) {m : Nat} {P1 : PSt} (hm : (m : Int) < N + 16) (hn : N<=64) (hl : Loned D i m P1 D1) {ps' : List (Int × Int)} {n' e' c' : Int} (hA : AlAt own1 1 w1 pb sb ub D1 ps' n' e' c') (hq : Q (P1.iter i (m + 1)) ps' n' e' c') : AlSt κ W w1 pb sb ub T N E L Q (j + 1) own1 D1 ps' n' e' c':=by
 have hq' : Q D1.P ps' n' e' c':=by rw [hl.P]; exact hq
 refine ⟨hA,Ext.trans h.ext he h.fr.size,h.old (fun k hk=>hk.1) hfa,hq',?_,?_,by rw [hl.N]; have:=h.N; omega,by rw [hl.deeds]; have:=h.deeds; omega,by have:=h.cnt; have:=hl.cnt; omega⟩
 ·refine ok_of (hQ.idle hq') ?_ hA.pl.bl;rw [hl.bs];exact ok_all (hQ.idle h.q) h.ok
 ·obtain ⟨a1,a2,a3,a4,a5⟩:=hl.cfg;obtain ⟨b1,b2,b3,b4,b5⟩:=h.cfg;exact ⟨a1.trans b1,a2.trans b2,a3.trans b3,a4.trans b4,a5.trans b5⟩
end
end
section
open Go.RowKit
section
variable {κ : Int} {W w w1 w2 : World} {pb sb ub : Nat} {T N E L : Int} {Q : PSt->List (Int × Int)->Int->Int->Int->Prop} {j i : Nat} {own own1 : Own} {D D1 : PlD} {ps : List (Int × Int)} {n e c : Int}
theorem lone_act (hκ : κ = 0\/κ = 1) (hQ : Quiets κ T N E L Q) (h : AlSt κ W w pb sb ub T N E L Q j own D ps n e c) (hN : 0<=N/\N<=64) (hj : j<=2 ^ 20) (hi : (i : Int) < T) (kd ky va : Int) (sp : List (Int × Int)) (sa : Option Addr) (sc : Nat) (ho : OpOk own 2 w ⟨kd,ky,va,sp,.slice sa sp.length sc⟩) (hsl : sp.length<=2 ^ 40) :
  Calls Tryz.prog 22 #[pv pb,pv sb,pv ub,.int .i64 i,opVal kd ky va (.slice sa sp.length sc)] w fun r w'=>r = .returned (.bool true)/\AlOn κ W w' pb sb ub T N E L Q (j + 1)/\FrA own 1 w w':=by
 have hil : i < D.P.ts.length:=by have:=h.at_.pl.thr; have:=h.cfg.2.1; omega
 have ht : D.P.ts[i]? = some D.P.ts[i]:=List.getElem?_eq_getElem hil;have htb : D.P.ts[i].busy = false:=hQ.idle h.q _ (List.getElem_mem hil);generalize D.P.ts[i] = t at ht htb;have hc : D.puts<=2 ^ 40/\0<=D.puts/\D.takes<=2 ^ 40/\0<=D.takes:=by have:=h.cnt; omega
 cases hp : properB kd ky sp
 ·refine (lone_off (sb:=sb) (ub:=ub) h.at_.pl h.ok ht htb kd ky va sp sa sc ho hsl hc hp).mono ?_;rintro r w1 ⟨rfl,own1,D1,hP,hE,hF,hB⟩;obtain ⟨y1,y2,y3,y4,y5,y6⟩:=hB.no (.inr hp);have hfa:=hF.fra;refine ⟨rfl,⟨own1,D1,ps,n,e,c,⟨h.at_.player hP hE hF,Ext.trans h.ext hE h.fr.size,h.old (fun k hk=>hk.1) hfa,by rw [y1]; exact h.q,?_,?_,by rw [hB.N]; have:=h.N; omega,by rw [hB.deeds]; have:=h.deeds; omega,by have:=h.cnt; rw [y5,y6]; omega⟩⟩,hfa⟩
  ·show D1.bs = D1.P.ts.map (·.busy);rw [y1,y2]; exact h.ok
  ·obtain ⟨a1,a2,a3,a4,a5⟩:=hB.cfg;obtain ⟨b1,b2,b3,b4,b5⟩:=h.cfg;exact ⟨a1.trans b1,a2.trans b2,a3.trans b3,a4.trans b4,a5.trans b5⟩
 ·obtain ⟨m,hm,hmv,hend,hans,hq⟩:=hQ.op kd ky va sp h.q ht hp;obtain ⟨_,_,_,r1,r2,r3,r4⟩:=hQ.room h.q;have hl:=h.cfg.2.2.2.2;refine (lone_on h.at_ h.ok ht htb kd ky va sp sa sc ho hsl hc hp hκ h.cfg.1 (by rw [h.cfg.2.2.1]; exact hN) (by omega) r1 r2 r3 (by have:=h.N; omega) (by have:=h.deeds; omega) m (by rw [h.cfg.2.2.1]; exact hm) _ rfl hmv hend (by rw [hl]; exact hans)).mono ?_;rintro r w1 ⟨rfl,own1,D1,hA,hE,hF,hL⟩;rw [hl] at hA;exact ⟨rfl,⟨own1,D1,_,_,_,_,h.loned hQ hE hF hm hN.2 hL hA hq⟩,hF⟩
end
end
section
open Go.RowKit
section
variable {W w w1 w2 : World} {pb sb ub : Nat} {T N E L : Int} {Q : PSt->List (Int × Int)->Int->Int->Int->Prop} {j i : Nat} {own own1 : Own} {D D1 : PlD} {ps : List (Int × Int)} {n e c : Int}
theorem AlSt.boxes (h : AlSt 1 W w pb sb ub T N E L Q j own D ps n e c) (hf : Fr (fun _=>False) w w1) {v : Value} {sp : List (Int × Int)} {w0 : World} (hO : OwnSpans w0 w1 v sp) (hw : w.heap.size<=w0.heap.size) (o : OpV) (h1 : o.sv = v) (h2 : o.spans = sp) :
  ∃ own1,AlSt 1 W w1 pb sb ub T N E L Q j own1 D ps n e c/\OpOk own1 2 w1 o/\∀ k,w.heap.size<=k->v.ownBlock≠some k->own1 k = ⟨0,.store⟩:=by
 obtain ⟨own1,ho⟩ : ∃ own1 : Own,own1 = fun k=>if k < w.heap.size then own k else if v.ownBlock = some k then ⟨2,.oth 5⟩ else ⟨0,.store⟩:=⟨_,rfl⟩
 have hE : Ext own own1 w:=fun k hk=>by rw [ho]; simp [hk]
 refine ⟨own1,⟨h.at_.calm hf hE,Ext.trans h.ext hE h.fr.size,h.fr.trans hf,h.q,h.ok,h.cfg,h.N,h.deeds,h.cnt⟩,⟨?_,?_⟩,?_⟩
 ·rw [h1,h2]; exact hO.row
 ·rw [h1];intro k hk
  have:=hO.new k hk
  rw [ho]; simp [show ¬ k < w.heap.size by omega,hk]
 ·intro k hk hv;rw [ho]; simp [show ¬ k < w.heap.size by omega,hv]
theorem AlSt.start (hQ : Quiets 1 T N E L Q) (hP : PlAt own 1 w pb D) (hE : Ext own00 own W) (hF : Fr (fun _=>False) W w) (hD : FreshPl 1 T N E L D) (hw : w.heap.size = sb) (hf : Fr (fun _=>False) w w1) (hS : At w1 sb [.slice none 0 0] 49) (hf2 : Fr (fun _=>False) w1 w2) (hU : PuAt w2 ub N (E - 1) 0) (hu : w1.heap.size<=ub) : AlOn 1 W w2 pb sb ub T N E L Q 0:=by
 have hsl:=hS.lt;obtain ⟨own1,ho⟩ : ∃ own1 : Own,own1 = fun k=>if k < w.heap.size then own k else if k = sb then ⟨3,.store⟩ else ⟨4,.store⟩:=⟨_,rfl⟩
 have hE1 : Ext own own1 w:=fun k hk=>by rw [ho]; simp [hk]
 have hs : own1 sb = ⟨3,.store⟩:=by rw [ho]; simp [hw]
 have hub : own1 ub = ⟨4,.store⟩:=by rw [ho]; simp [show ¬ ub < w.heap.size by omega,show ub≠sb by omega]
 have hF2:=hf.trans hf2;refine ⟨own1,D,[],N,E - 1,0,⟨⟨hP.fr hF2 hE1 (fun _ _ h=>h),⟨none,0,⟨hf2.at hS (fun h=>h),by intro i p hp; simp at hp⟩,by intro g hg; cases hg⟩,hU,hs,hub⟩,Ext.trans hE hE1 hF.size,hF.trans hF2,by rw [hD.P]; exact hQ.fresh,hD.ok,hD.cfg,by rw [hD.N]; omega,by rw [hD.deeds]; simp,by rw [hD.cnt.1,hD.cnt.2]; simp⟩⟩
end
end
end Go.Proofs.YtfccelbmacjifabGreat
