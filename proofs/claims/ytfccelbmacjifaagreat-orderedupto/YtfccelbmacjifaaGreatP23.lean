import Derived.Test.YtfccelbmacjifaaGreatP0
import Derived.Test.YtfccelbmacjifaaGreatP22
import Derived.Test.YtfccelbmacjifaaGreatP8
set_option linter.unusedSimpArgs false
set_option maxRecDepth 100000
set_option maxHeartbeats 4000000
namespace Go.Proofs.YtfccelbmacjifaaGreat
section
open Go.RowKit
def PSt.iter (P : PSt) (i : Nat) : Nat->PSt
 | 0=>P
 | j + 1=>((P.iter i j).step i ((P.iter i j).th i)).1
def PSt.how (P : PSt) (i j : Nat) : Int:=((P.iter i j).step i ((P.iter i j).th i)).2
structure Iter (D : PlD) (i j : Nat) (D' : PlD) : Prop where
 P : D'.P = D.P.iter i j
 N : D'.N = D.N + j
 cfg : D'.k = D.k/\D'.t = D.t/\D'.n = D.n/\D'.e = D.e/\D'.l = D.l
 same : D'.ops = D.ops/\D'.frm = D.frm/\D'.puts = D.puts/\D'.takes = D.takes/\D'.bs = D.bs/\D'.deeds = D.deeds
 busy : ∃ t,D'.P.ts[i]? = some t/\t.busy = true
structure Soloed (D : PlD) (i m : Nat) (D' : PlD) : Prop where
 P : D'.P = D.P.iter i (m + 1)
 N : D'.N = D.N + m + 1
 cfg : D'.k = D.k/\D'.t = D.t/\D'.n = D.n/\D'.e = D.e/\D'.l = D.l
 same : D'.ops = D.ops/\D'.frm = D.frm/\D'.puts = D.puts/\D'.takes = D.takes
 bs : D'.bs = D.bs.set i false
 deeds : ∃ av o f,D.ops[i]? = some o/\D.frm[i]? = some f/\D'.deeds = D.deeds ++ [⟨o,((D.P.iter i m).th i).work.ans,av,f⟩]
section
variable {own : Own} {z : Nat} {w w' : World} {pb : Nat} {D D1 : PlD} {i j : Nat} {t : PThread}
theorem th_of {P : PSt} (h : P.ts[i]? = some t) : P.th i = t:=by simp [PSt.th,h]
theorem Iter.next (h : Iter D i j D1) (hf : Fit D1.N D1.P) {D2 : PlD} (hs : Stepped D1 i (D1.P.th i) D2) (h1 : D.P.how i j = 1) : Iter D i (j + 1) D2:=by
 obtain ⟨t,ht,hb⟩:=h.busy;have hth:=th_of ht;have hP : D2.P = D.P.iter i (j + 1):=by rw [hs.P,PSt.iter,h.P]
 have h2 : (D1.P.step i (D1.P.th i)).2 = 1:=by rw [h.P]; exact h1
 refine ⟨hP,by rw [hs.N,h.N]; omega,?_,⟨hs.ops.trans h.same.1,hs.frm.trans h.same.2.1,hs.cnt.1.trans h.same.2.2.1,hs.cnt.2.trans h.same.2.2.2.1,?_,?_⟩,?_⟩
 ·obtain ⟨a1,a2,a3,a4,a5⟩:=hs.cfg;obtain ⟨b1,b2,b3,b4,b5⟩:=h.cfg;exact ⟨a1.trans b1,a2.trans b2,a3.trans b3,a4.trans b4,a5.trans b5⟩
 ·rw [hs.bs,if_neg (by omega)]; exact h.same.2.2.2.2.1
 ·rw [hs.deeds.1 (by omega)]; exact h.same.2.2.2.2.2
 ·rw [hth] at h2 hs;obtain ⟨M,c,t',e,_,_,_,hb',_⟩:=(hf.turn ht hb).to;refine ⟨t',?_,?_⟩
  ·rw [hs.P,e]
   have:=(List.getElem?_eq_some_iff.1 ht).1
   simp [this]
  ·rw [hb',if_neg (by omega)]
theorem Psolo_calls (h : PlAt own z w pb D) (hn : 0<=D.n/\D.n<=64) (hb : D.bs[i]? = some true) (ht : D.P.ts[i]? = some t) (htb : t.busy = true) (hN : D.N<=2 ^ 38) (hdl : D.deeds.length<=2 ^ 38) (m : Nat) (hm : (m : Int) < D.n + 16) (hmv : ∀ j,j < m->D.P.how i j = 1) (hend : D.P.how i m = 3) :
  Calls Tryz.prog 51 #[pv pb,.int .i64 i] w fun r w'=>r = .returned (.bool true)/\PlGoes own z w pb w' (Soloed D i m):=by
 obtain ⟨hn1,hn2⟩:=hn;have H:=(mkH (PlAt own z w pb D) <|h);have HI:=(mkH (Iter D i 0 D) <|⟨rfl,rfl,⟨rfl,rfl,rfl,rfl,rfl⟩,⟨rfl,rfl,rfl,rfl,rfl,rfl⟩,t,ht,htb⟩);have HB:=(mkH (D.bs[i]? = some true) <|hb);have HM:=(mkH (∀ j,j < m->D.P.how i j = 1) <|hmv);have HE:=(mkH (D.P.how i m = 3) <|hend);clear h ht htb hb hmv hend;unfold pv
 go_enter Tryz.func51,Tryz.ntmps51
 go_wp2
 go_loopw [5] (fun v wr=>∃ j : Nat,j<=m/\v = .int .i64 j/\Hid (PlGoes own z w pb wr (Iter D i j))) (fun v _=>m + 1 - (intOf v).toNat)
 case atStart=>exact ⟨0,by omega,rfl,own,D,H.out,Ext.refl _ _,Fr.refl _ _,HI.out⟩
 case round =>
  clear H;obtain ⟨j,hj,rfl,HG⟩:=hrel;obtain ⟨own1,D1,hP,hE,hF,hI⟩:=HG.out;have HP:=(mkH (PlAt own1 z wr pb D1) <|hP);have HX:=(mkH (Ext own own1 w/\FrP own z w wr) <|⟨hE,hF⟩);have HIt:=(mkH (Iter D i j D1) <|hI);have ha:=hP.at_.cell;simp only [PlD.cells,hI.cfg.2.2.1,pv] at ha;clear hP hE hF hI HG;obtain ⟨t1,ht1,hb1⟩:=HIt.out.busy;have HT:=(mkH (D1.P.ts[i]? = some t1/\t1.busy = true/\D1.P.th i = t1) <|⟨ht1,hb1,th_of ht1⟩);have HBs:=(mkH (D1.bs[i]? = some true) <|by show _ = _; rw [HIt.out.same.2.2.2.2.1]; exact HB.out);have HD:=(mkH (D1.N < 2 ^ 39/\D1.deeds.length<=2 ^ 38) <|⟨by rw [HIt.out.N]; omega,by rw [HIt.out.same.2.2.2.2.2]; exact hdl⟩);clear ht1 hb1;by_cases hlt : j < m
  ·have h1:=HM.out j hlt;have HH:=(mkH ((D1.P.step i t1).2 = 1) <|by show _ = _; rw [<- HT.out.2.2,HIt.out.P]; exact h1);go_wp2_with fail;refine (Psteps_on HP.out HBs.out HT.out.1 HT.out.2.1 HD.out.1 (by rw [HH.out]; decide)).mono ?_;rw [HH.out];rintro r w2 ⟨rfl,own2,D2,hP2,hE2,hF2,hS2⟩;have HG2:=(mkH (PlGoes own z w pb w2 (Iter D i (j + 1))) <|PlGoes.trans HX.out.1 HX.out.2 ⟨own2,D2,hP2,hE2,hF2,HIt.out.next HP.out.fit (by rw [HT.out.2.2]; exact hS2) h1⟩);clear hP2 hE2 hF2 hS2 h1;go_wp2
   go_roundw
   case rel=>exact ⟨j + 1,by omega,by go_num,HG2⟩
   case measure=>simp [intOf]; omega
  ·have hjm : Hid (j = m):=by show j = m; omega
   have HH:=(mkH ((D1.P.step i t1).2 = 3) <|by show _ = _; rw [<- HT.out.2.2,HIt.out.P,hjm.out]; exact HE.out);go_wp2_with fail;refine (Psteps_end HP.out HBs.out HT.out.1 HT.out.2.1 HD.out.1 HD.out.2 HH.out).mono ?_;rintro r w2 ⟨rfl,own2,D2,hP2,hE2,hF2,hS2⟩;have HG2:=(mkH (PlGoes own z w pb w2 (Soloed D i m)) <|PlGoes.trans HX.out.1 HX.out.2 ⟨own2,D2,hP2,hE2,hF2,by
    have hI:=HIt.out;rw [hjm.out] at hI;obtain ⟨av,o,f,q1,q2,q3⟩:=hS2.deeds.2 HH.out;refine ⟨?_,by rw [hS2.N,hI.N],?_,⟨hS2.ops.trans hI.same.1,hS2.frm.trans hI.same.2.1,hS2.cnt.1.trans hI.same.2.2.1,hS2.cnt.2.trans hI.same.2.2.2.1⟩,?_,?_⟩
    ·rw [hS2.P,PSt.iter,<- hI.P,HT.out.2.2]
    ·obtain ⟨a1,a2,a3,a4,a5⟩:=hS2.cfg;obtain ⟨b1,b2,b3,b4,b5⟩:=hI.cfg;exact ⟨a1.trans b1,a2.trans b2,a3.trans b3,a4.trans b4,a5.trans b5⟩
    ·rw [hS2.bs,if_pos HH.out,hI.same.2.2.2.2.1]
    ·refine ⟨av,o,f,by rw [<- hI.same.1]; exact q1,by rw [<- hI.same.2.1]; exact q2,?_⟩;rw [q3,hI.same.2.2.2.2.2,<- hI.P,HT.out.2.2]⟩)
   clear hP2 hE2 hF2 hS2;go_wp2;go_ret;exact ⟨rfl,HG2.out⟩
end
end
section
open Go.RowKit
section
variable {own : Own} {z : Nat} {w w' : World} {pb : Nat} {D D1 : PlD} {i j : Nat}
theorem sweep_ts (P : PSt) : P.doSweep.1.ts = P.ts:=by
 unfold PSt.doSweep;simp only;split
 ·rfl
 ·split
  ·split <;> rfl
  ·split <;> rfl
end
end
section
def shVal (ps : List (Int × Int)) (key : Int) : Int × Bool:=match ps.find? (fun p=>p.1 == key) with
 | some p=>(p.2,true)
 | none=>(0,false)
def shSide (key : Int) (below : Bool) (p : Int × Int) : Bool:=if below then decide (p.1 < key) else decide (key < p.1)
theorem shVal_hit {ps : List (Int × Int)} {key : Int} {j : Nat} {x : Int × Int} (h : ∀ p ∈ ps.take j,p.1≠key) (hx : ps[j]? = some x) (hk : x.1 = key) : shVal ps key = (x.2,true):=by
 have hj:=(List.getElem?_eq_some_iff.1 hx).1;have he : ps = ps.take j ++ x :: ps.drop (j + 1):=by
  rw [<- (List.getElem?_eq_some_iff.1 hx).2,List.getElem_cons_drop,List.take_append_drop]
 unfold shVal;rw [he,List.find?_append,List.find?_eq_none.2 (fun p hp=>by simpa using h p hp)];simp [hk]
theorem shVal_miss {ps : List (Int × Int)} {key : Int} (h : ∀ p ∈ ps,p.1≠key) : shVal ps key = (0,false):=by
 unfold shVal;rw [List.find?_eq_none.2 (fun p hp=>by simpa using h p hp)]
def shLo (ps : List (Int × Int)) (key : Int) : List (Int × Int):=ps.filter (shSide key true)
def shHi (ps : List (Int × Int)) (key : Int) : List (Int × Int):=ps.filter (shSide key false)
def shPut (ps : List (Int × Int)) (key value : Int) : List (Int × Int):=shLo ps key ++ [(key,value)] ++ shHi ps key
def shDel (ps : List (Int × Int)) (key : Int) : List (Int × Int):=shLo ps key ++ shHi ps key
def shUpd (ps : List (Int × Int)) (kind key : Int) : Bool:=(kind == 1 && !(shVal ps key).2) || (kind == 2 && (shVal ps key).2)
def shAns (ps : List (Int × Int)) (kind key : Int) (spans : List (Int × Int)) : BAns :=
 if kind = 4 then answerOf spans ps 0
 else if kind = 3 then { did:=(shVal ps key).2,value:=(shVal ps key).1 }
 else if shUpd ps kind key then { did:=true,value:=if kind = 2 then (shVal ps key).1 else 0 }
 else {}
def shNew (ps : List (Int × Int)) (kind key value : Int) : List (Int × Int) :=
 if shUpd ps kind key then (if kind = 1 then shPut ps key value else shDel ps key) else ps
def own00 : Own:=fun _=>⟨0,.store⟩
end
section
def Srt (R : List (Int × Int)) : Prop:=R.Pairwise (fun p q=>p.1 < q.1)
theorem mem_shPut {R : List (Int × Int)} {k v : Int} {p : Int × Int} : p ∈ shPut R k v ↔ (p ∈ R/\p.1≠k)\/p = (k,v):=by
 unfold shPut shLo shHi shSide;simp only [List.mem_append,List.mem_filter,List.mem_singleton,if_true,decide_eq_true_eq,Bool.false_eq_true,if_false];constructor
 ·rintro ((⟨h1,h2⟩ | h1) | ⟨h1,h2⟩)
  ·exact .inl ⟨h1,by omega⟩
  ·exact .inr h1
  ·exact .inl ⟨h1,by omega⟩
 ·rintro (⟨h1,h2⟩ | h1)
  ·rcases (show p.1 < k\/k < p.1 by omega) with q | q
   ·exact .inl (.inl ⟨h1,q⟩)
   ·exact .inr ⟨h1,q⟩
  ·exact .inl (.inr h1)
theorem mem_shDel {R : List (Int × Int)} {k : Int} {p : Int × Int} : p ∈ shDel R k ↔ p ∈ R/\p.1≠k:=by
 unfold shDel shLo shHi shSide;simp only [List.mem_append,List.mem_filter,if_true,decide_eq_true_eq,Bool.false_eq_true,if_false];constructor
 ·rintro (⟨h1,h2⟩ | ⟨h1,h2⟩)
  ·exact ⟨h1,by omega⟩
  ·exact ⟨h1,by omega⟩
 ·rintro ⟨h1,h2⟩;rcases (show p.1 < k\/k < p.1 by omega) with q | q
  ·exact .inl ⟨h1,q⟩
  ·exact .inr ⟨h1,q⟩
theorem Srt.put {R : List (Int × Int)} (h : Srt R) (k v : Int) : Srt (shPut R k v):=by
 unfold Srt shPut;rw [List.append_assoc,List.pairwise_append];have hlo : ∀ p ∈ shLo R k,p.1 < k:=by intro p hp; unfold shLo shSide at hp; simp at hp; exact hp.2
 have hhi : ∀ p ∈ shHi R k,k < p.1:=by intro p hp; unfold shHi shSide at hp; simp at hp; exact hp.2
 refine ⟨h.filter _,List.pairwise_append.2 ⟨List.pairwise_singleton _ _,h.filter _,?_⟩,?_⟩
 ·intro p hp q hq;simp at hp; subst hp;exact hhi q hq
 ·intro p hp q hq;have h1:=hlo p hp;rcases List.mem_append.1 hq with hq | hq
  ·simp at hq; subst hq; exact h1
  ·have:=hhi q hq; omega
theorem Srt.del {R : List (Int × Int)} (h : Srt R) (k : Int) : Srt (shDel R k):=by
 unfold Srt shDel;rw [List.pairwise_append];have hlo : ∀ p ∈ shLo R k,p.1 < k:=by intro p hp; unfold shLo shSide at hp; simp at hp; exact hp.2
 have hhi : ∀ p ∈ shHi R k,k < p.1:=by intro p hp; unfold shHi shSide at hp; simp at hp; exact hp.2
 refine ⟨h.filter _,h.filter _,?_⟩;intro p hp q hq;have h1:=hlo p hp;have h2:=hhi q hq;omega
theorem shVal_in {R : List (Int × Int)} (h : Srt R) {k v : Int} (hp : (k,v) ∈ R) : shVal R k = (v,true):=by
 obtain ⟨j,hj⟩:=List.mem_iff_getElem?.1 hp;refine shVal_hit ?_ hj rfl;intro p hp2 e;obtain ⟨i,hi⟩:=List.mem_iff_getElem?.1 hp2;have hlt : i < j:=by
  have:=(List.getElem?_eq_some_iff.1 hi).1
  rw [List.length_take] at this; omega
 rw [List.getElem?_take] at hi;rw [if_pos hlt] at hi;obtain ⟨hi1,hi2⟩:=List.getElem?_eq_some_iff.1 hi;obtain ⟨hj1,hj2⟩:=List.getElem?_eq_some_iff.1 hj
 have:=List.pairwise_iff_getElem.1 h i j hi1 hj1 hlt
 rw [hi2,hj2] at this;simp only at this;omega
theorem shVal_out {R : List (Int × Int)} {k : Int} (h : ∀ p ∈ R,p.1≠k) : shVal R k = (0,false):=shVal_miss h
def Removing (x : Int) (t : PThread) : Prop:=t.busy = true/\t.work.kind = 2/\(t.work.next = 9\/t.work.next = 10)/\t.work.ahead = x
def Rdr (t : PThread) : Prop:=t.busy = true/\(t.work.kind = 3\/t.work.kind = 4)/\3<=t.work.next/\t.work.next<=4
structure InvV (C : Int->Prop) (Rt : Int->List (Int × Int)) (Vt : Int->Int->Prop) (P : PSt) : Prop where
 now : Ver P.mem P.ts (Rt P.clock) (Vt P.clock) P.clock
 set : ∀ x,Vt P.clock x ↔ (C x/\x≠0/\¬ Ex P.ts (Removing x))\/Ex P.ts (Fresh10 x)
 fv : ∀ (i : Nat) t,P.ts[i]? = some t->∀ x,Fresh x t->(P.mem.node x).value = t.work.value
 rd : ∀ (i : Nat) t,P.ts[i]? = some t->Rdr t->Ver P.mem P.ts (Rt t.work.time) (Vt t.work.time) t.work.time
section
variable {C : Int->Prop} {Rt : Int->List (Int × Int)} {Vt : Int->Int->Prop} {i j : Nat} {t t' : PThread} {P : PSt} {x s d : Int}
theorem Inv.ve_le (h : Inv C P) (hv : VE P.mem P.ts x s d) : 0<=s/\s<=P.clock:=by
 rcases hv with hv | ⟨⟨j,u,hj,v1,v2,v3,v4,v5,v6⟩,_⟩
 ·have:=h.e.ms x s d hv; exact ⟨this.2.2.1,this.2.2.2.1⟩
 ·have:=(h.th j u hj).s9 v1 v3 v4
  rw [v6] at this;exact this.2.2.1
theorem Inv.top (h : Inv C P) (ht : P.ts[i]? = some t) (hh : Ho P.mem x = i) (hn : ∀ s,¬ Vs x s t) {y : Int} (hv : VE P.mem P.ts x s y) (hg : ∀ s' d',VE P.mem P.ts x s' d'->s'<=P.clock->s' < s\/(s' = s/\d' = y)) : y = Ld P.mem x:=by
 have nov : ∀ s,¬ Ex P.ts (Vs x s):=by
  rintro s ⟨j,u,hj,hv⟩;have hst:=(h.th j u hj).hStand hv.1 (by have:=hv.2.2.1; omega) (by have:=hv.2.2.2.1; omega);rw [hv.2.2.2.2.1,hh] at hst;have : i = j:=by have:=hst.2; omega
  subst this;rw [ht] at hj; injection hj with hj; subst hj
  exact hn s hv
 rcases hv with hv | ⟨hv,_⟩
 ·rcases h.e.nw x s y hv with q | ⟨s',q1,q2⟩
  ·exact q
  ·exfalso;rcases q2 with ⟨d',q2⟩ | q2
   ·have hle:=(h.e.ms x s' d' q2).2.2.2.1;rcases hg s' d' (.inl q2) hle with z | z <;> omega
   ·exact nov s' q2
 ·exact absurd hv (nov s)
theorem InvV.succ (hV : InvV C Rt Vt P) (h : Inv C P) (ht : P.ts[i]? = some t) (hh : Ho P.mem x = i) (hC : C x) (hn : t.work.next<=8) : (x = 0\/Vt P.clock x)/\(Ld P.mem x = 1\/Vt P.clock (Ld P.mem x))/\∀ p ∈ Rt P.clock,(x = 0\/Ky P.mem x < p.1)->Ld P.mem x≠1/\Ky P.mem (Ld P.mem x)<=p.1:=by
 have hx : x = 0\/Vt P.clock x:=by
  by_cases h0 : x = 0
  ·exact .inl h0
  ·right;rw [hV.set];left;refine ⟨hC,h0,?_⟩;rintro ⟨j,u,hj,r1,r2,r3,r4⟩;have hU:=h.th j u hj;have hA:=hU.hAhead r1 (by omega) (by omega) r2 ((hU.c7 r1 (by omega) (by omega)).2.2.2 r2);rw [r4,hh] at hA;have : i = j:=by have:=hA.2; omega
   subst this;rw [ht] at hj; injection hj with hj; subst hj
   omega
 obtain ⟨s,y,g1,g2,g3,g4,g5,g6⟩:=hV.now.g x hx;have hy:=h.top ht hh (fun s q=>by have:=q.2.2.1; omega) g1 g3;rw [<- hy];exact ⟨hx,g4,g6⟩
theorem InvV.found (hV : InvV C Rt Vt P) (h : Inv C P) (ht : P.ts[i]? = some t) (hb : t.busy = true) (h6 : 6<=t.work.next) (h8 : t.work.next<=8) (hC : C t.work.stand) (hl : Ld P.mem t.work.stand = t.work.ahead) :
  (Ky P.mem t.work.ahead = t.work.key->Vt P.clock t.work.ahead/\(t.work.key,(P.mem.node t.work.ahead).value) ∈ Rt P.clock/\shVal (Rt P.clock) t.work.key = ((P.mem.node t.work.ahead).value,true))/\(Ky P.mem t.work.ahead≠t.work.key->(∀ p ∈ Rt P.clock,p.1≠t.work.key)/\shVal (Rt P.clock) t.work.key = (0,false)):=by
 have hT:=h.th i t ht;have hkd:=hT.kd hb;have hrd:=hT.rd hb;have hst:=hT.hStand hb (by omega) (by omega);obtain ⟨s1,s2,s3⟩:=hV.succ h ht hst.2 hC h8;rw [hl] at s2 s3;have hxs:=(hT.xs hb (by omega) (by omega) (by omega)).2.2;have hcs:=hT.cs hb (by omega) (by omega);have hky:=hT.ky hb (by omega);constructor
 ·intro e;have h1 : t.work.ahead≠1:=by
   intro e1;rw [e1,h.n.a1.2.2.2.2.2] at e; omega
  have hv:=s2.resolve_left h1;have hm : (t.work.key,(P.mem.node t.work.ahead).value) ∈ Rt P.clock:=(hV.now.a _).2 ⟨_,hv,by rw [e]⟩;exact ⟨hv,hm,shVal_in hV.now.srt hm⟩
 ·intro e;have : ∀ p ∈ Rt P.clock,p.1≠t.work.key:=by
   intro p hp e2
   have:=s3 p hp (by rcases hxs with q | q; exact .inl q; right; omega)
   omega
  exact ⟨this,shVal_out this⟩
end
end
section
section
variable {C : Int->Prop} {Rt : Int->List (Int × Int)} {Vt : Int->Int->Prop} {i j : Nat} {t t' : PThread} {P : PSt} {x s d : Int}
structure To (P : PSt) (i : Nat) (t t' : PThread) : Prop where
 ts : (P.step i t).1.ts = P.ts.set i t'
 kd : t'.busy = true->t'.work.kind = t.work.kind
 n9 : t.work.next = 9->t' = { t with work:={ t.work with next:=10 } }
 n10 : t.work.next = 10->t' = { t with work:={ t.work with next:=11 } }
 n8 : t.work.next = 8->if P.limit<=P.clock then t' = { t with work:=t.work.settle { err:=8 } } else if t.work.kind = 2 then t' = { t with work:={ t.work with ans:={ did:=true,stamp:=P.clock + 1,value:=(P.mem.node t.work.ahead).value },next:=9 } } else t' = { t with work:={ t.work with ans:={ did:=true,stamp:=P.clock + 1 },next:=10 } }
 nx : t.work.next≠8->t.work.next≠9->t'.busy = true->t'.work.next≠9/\t'.work.next≠10
 n7 : t'.busy = true->t'.work.next = 8->(t.work.kind = 1\/t.work.kind = 2)->(t' = t\/t.work.next = 7)
 rd : Rdr t'->(t.work.next = 2/\t'.work.time = P.clock)\/(Rdr t/\t'.work.time = t.work.time)
 ck : (P.step i t).1.clock = if t.work.next = 8/\¬ P.limit<=P.clock/\(t.work.kind = 1\/t.work.kind = 2) then P.clock + 1 else P.clock
theorem Inv.goTo (h : Inv C P) (ht : P.ts[i]? = some t) (hb : t.busy = true) : ∃ t',To P i t t':=by
 have hT:=h.th i t ht;have hnx:=hT.nx hb;have hkd:=hT.kd hb;have hrd:=hT.rd hb;have same : P.ts.set i t = P.ts:=by
  apply List.ext_getElem?;intro j;rw [List.getElem?_set];split
  ·next e=>subst e; split <;> simp_all
  ·rfl
 have stay : ∀ n : Int,t.work.next = 4\/t.work.next = 5->(P.step i t) = (P,n)->∃ t',To P i t t':=by
  intro n hn hs;refine ⟨t,by rw [hs]; exact same.symm,fun _=>rfl,fun e=>by omega,fun e=>by omega,fun e=>by omega,fun _ _ _=>by omega,fun _ e=>by omega,fun q=>.inr ⟨q,rfl⟩,?_⟩;rw [hs,if_neg (fun q=>by omega)]
 -- a work that is set
 have fin : ∀ {Q : PSt} {k : PWork} {n : Int},(P.step i t) = (Q.setW i k,n)->Q.ts = P.ts->k.kind = t.work.kind->Q.clock = P.clock->4<=t.work.next->t.work.next≠8->t.work.next≠9->t.work.next≠10->k.next≠9->k.next≠10->(k.next = 8->t.work.next = 7)->(Rdr { t with work:=k }->Rdr t/\k.time = t.work.time)->∃ t',To P i t t':=by
  intro Q k n hs hQ h1 h2 h3 h4 h5 h6 h7 h8 h9 h10;refine ⟨{ t with work:=k },?_,fun _=>h1,fun e=>absurd e h5,fun e=>absurd e h6,fun e=>absurd e h4,fun _ _ _=>⟨h7,h8⟩,fun _ e _=>.inr (h9 e),fun q=>.inr (h10 q),?_⟩
  ·rw [hs];show (Q.setW i k).ts = _;rw [setW_to Q (t:=t) (by rw [hQ]; exact ht) k,hQ]
  ·rw [hs,if_neg (fun q=>h4 q.1)];exact h2
 rcases (show t.work.next = 1\/t.work.next = 2\/t.work.next = 3\/t.work.next = 13\/(4<=t.work.next/\t.work.next<=12) by omega) with hn | hn | hn | hn | hn
 ·have hs : P.step i t = (P.setT i { t with slot:=1,work:={ t.work with next:=2 } },1):=by unfold PSt.step; simp only [hn]
  refine ⟨{ t with slot:=1,work:={ t.work with next:=2 } },by rw [hs]; rfl,fun _=>rfl,fun e=>by omega,fun e=>by omega,fun e=>by omega,fun _ _ _=>⟨by show (2 : Nat)≠9; omega,by show (2 : Nat)≠10; omega⟩,fun _ e=>absurd (show (2 : Nat) = 8 from e) (by omega),?_,by rw [hs,if_neg (fun q=>by omega)]; rfl⟩;rintro ⟨_,_,q,_⟩;have : 3<=(2 : Nat):=q;omega
 ·have hs : P.step i t = (P.setT i { t with work:={ t.work with time:=P.clock,next:=3 } },1):=by unfold PSt.step; simp only [hn]
  refine ⟨{ t with work:={ t.work with time:=P.clock,next:=3 } },by rw [hs]; rfl,fun _=>rfl,fun e=>by omega,fun e=>by omega,fun e=>by omega,fun _ _ _=>⟨by show (3 : Nat)≠9; omega,by show (3 : Nat)≠10; omega⟩,fun _ e=>absurd (show (3 : Nat) = 8 from e) (by omega),fun _=>.inl ⟨hn,rfl⟩,by rw [hs,if_neg (fun q=>by omega)]; rfl⟩
 ·have hs : P.step i t = (P.setT i { t with slot:=2,work:=t.work.home },1):=by unfold PSt.step; simp only [hn]
  refine ⟨{ t with slot:=2,work:=t.work.home },by rw [hs]; rfl,fun _=>rfl,fun e=>by omega,fun e=>by omega,fun e=>by omega,fun _ _ _=>⟨by show (4 : Nat)≠9; omega,by show (4 : Nat)≠10; omega⟩,fun _ e=>absurd (show (4 : Nat) = 8 from e) (by omega),?_,by rw [hs,if_neg (fun q=>by omega)]; rfl⟩;rintro ⟨q1,q2,_,_⟩;exact .inr ⟨⟨hb,q2,by omega,by omega⟩,rfl⟩
 ·have hs : P.step i t = (P.setT i t.leave,3):=by unfold PSt.step; simp only [hn]
  exact ⟨t.leave,by rw [hs]; rfl,(fun b=>nomatch b),fun e=>by omega,fun e=>by omega,fun e=>by omega,(fun _ _ b=>nomatch b),(fun b=>nomatch b),(fun q=>nomatch q.1),by rw [hs,if_neg (fun q=>by omega)]; rfl⟩
 ·have hsm:=step_mid (i:=i) P hn.1 hn.2;by_cases hk : t.work.kind = 3\/t.work.kind = 4
  ·rw [if_pos hk] at hsm;have hn4 : t.work.next = 4:=by have:=hrd hk; omega
   unfold PSt.read at hsm;simp only at hsm;split at hsm
   ·exact stay 2 (.inl hn4) hsm
   ·have hkk : ∀ k,k = (if t.work.kind = 3 then P.lookUp t.work (P.mem.ledTo (P.linkNext t.work).1 (P.linkNext t.work).2 t.work.time) else P.scan t.work (P.mem.ledTo (P.linkNext t.work).1 (P.linkNext t.work).2 t.work.time))->k.kind = t.work.kind/\(k.next = 4\/k.next = 13)/\k.time = t.work.time:=by
     rintro k rfl;split
     ·unfold PSt.lookUp; split
      ·exact ⟨rfl,.inl hn4,rfl⟩
      ·exact ⟨rfl,.inr rfl,rfl⟩
     ·unfold PSt.scan; simp only; split
      ·exact ⟨rfl,.inr rfl,rfl⟩
      ·exact ⟨rfl,.inl hn4,rfl⟩
    obtain ⟨k1,k2,k3⟩:=hkk _ rfl;exact fin hsm rfl k1 rfl (by omega) (by omega) (by omega) (by omega) (by omega) (by omega) (fun e=>by omega) (fun _=>⟨⟨hb,hk,by omega,by omega⟩,k3⟩)
  ·rw [if_neg hk] at hsm;have hk : t.work.kind = 1\/t.work.kind = 2:=by omega
   have nr : ∀ k : PWork,k.kind = t.work.kind->Rdr { t with work:=k }->Rdr t/\k.time = t.work.time:=by
    rintro k e ⟨_,q,_⟩;have q' : k.kind = 3\/k.kind = 4:=q;omega
   unfold PSt.update at hsm;rcases (show t.work.next = 4\/t.work.next = 5\/t.work.next = 6\/t.work.next = 7\/t.work.next = 8\/t.work.next = 9\/t.work.next = 10\/t.work.next = 11\/t.work.next = 12 by omega) with hn | hn | hn | hn | hn | hn | hn | hn | hn
   ·simp only [hn] at hsm;have hw : (P.walk t.work).kind = t.work.kind/\((P.walk t.work).next = 4\/(P.walk t.work).next = 5):=by
     unfold PSt.walk; split
     ·exact ⟨rfl,.inl hn⟩
     ·exact ⟨rfl,.inr rfl⟩
    exact fin hsm rfl hw.1 rfl (by omega) (by omega) (by omega) (by omega) (by omega) (by omega) (fun e=>by omega) (nr _ hw.1)
   ·simp only [hn] at hsm;rcases h.lock ht hb hn with ⟨_,q,_⟩ | ⟨_,q⟩
    ·have hq:=hsm.trans q;have hnn : ∀ nn,nn = (if wl P.mem t.work<=t.work.locks + 1 then 6 else 5)->nn = 6\/nn = 5:=by rintro nn rfl; split <;> omega
     have:=hnn _ rfl
     exact fin hq rfl rfl rfl (by omega) (by omega) (by omega) (by omega) (by simp only; omega) (by simp only; omega) (fun e=>by simp only at e; omega) (nr _ rfl)
    ·exact stay 2 (.inr hn) (hsm.trans q)
   ·simp only [hn] at hsm;unfold PSt.check at hsm;split at hsm
    ·exact fin hsm rfl rfl rfl (by omega) (by omega) (by omega) (by omega) (by show (4 : Nat)≠9; omega) (by show (4 : Nat)≠10; omega) (fun e=>absurd (show (4 : Nat) = 8 from e) (by omega)) (nr _ rfl)
    ·split at hsm
     ·exact fin hsm rfl rfl rfl (by omega) (by omega) (by omega) (by omega) (by show (12 : Nat)≠9; omega) (by show (12 : Nat)≠10; omega) (fun e=>absurd (show (12 : Nat) = 8 from e) (by omega)) (nr _ rfl)
     ·exact fin hsm rfl rfl rfl (by omega) (by omega) (by omega) (by omega) (by show (7 : Nat)≠9; omega) (by show (7 : Nat)≠10; omega) (fun e=>absurd (show (7 : Nat) = 8 from e) (by omega)) (nr _ rfl)
   ·simp only [hn] at hsm;unfold PSt.prepare at hsm;split at hsm
    ·exact fin hsm rfl rfl rfl (by omega) (by omega) (by omega) (by omega) (by show (12 : Nat)≠9; omega) (by show (12 : Nat)≠10; omega) (fun e=>absurd (show (12 : Nat) = 8 from e) (by omega)) (nr _ rfl)
    ·have hkd2 : (if t.work.kind = 1 then P.prepareInsert t.work else P.prepareRemove t.work).2.kind = t.work.kind:=by
      split
      ·unfold PSt.prepareInsert; simp only; split <;> rfl
      ·unfold PSt.prepareRemove; simp only; split <;> rfl
     exact fin hsm rfl hkd2 rfl (by omega) (by omega) (by omega) (by omega) (by show (8 : Nat)≠9; omega) (by show (8 : Nat)≠10; omega) (fun _=>hn) (nr _ hkd2)
   ·simp only [hn] at hsm;unfold PSt.take at hsm;by_cases hl : P.limit<=P.clock
    ·rw [if_pos hl] at hsm;refine ⟨{ t with work:=t.work.settle { err:=8 } },by rw [hsm,setMW_to P ht],fun _=>rfl,fun e=>by omega,fun e=>by omega,fun _=>by rw [if_pos hl],fun e=>absurd hn e,fun _ e=>absurd (show (12 : Nat) = 8 from e) (by omega),fun q=>.inr (nr _ rfl q),by rw [hsm,if_neg (fun q=>q.2.1 hl)]; rfl⟩
    ·rw [if_neg hl] at hsm;simp only at hsm;by_cases hk2 : t.work.kind = 2
     ·rw [if_pos hk2] at hsm;refine ⟨{ t with work:={ t.work with ans:={ did:=true,stamp:=P.clock + 1,value:=(P.mem.node t.work.ahead).value },next:=9 } },by rw [hsm,setW_to { P with clock:=P.clock + 1 } ht],fun _=>rfl,fun e=>by omega,fun e=>by omega,fun _=>by rw [if_neg hl,if_pos hk2],fun e=>absurd hn e,fun _ e=>absurd (show (9 : Nat) = 8 from e) (by omega),fun q=>.inr (nr _ rfl q),by rw [hsm,if_pos ⟨hn,hl,hk⟩]; rfl⟩
     ·rw [if_neg hk2] at hsm;refine ⟨{ t with work:={ t.work with ans:={ did:=true,stamp:=P.clock + 1 },next:=10 } },by rw [hsm,setMW_to { P with clock:=P.clock + 1 } ht],fun _=>rfl,fun e=>by omega,fun e=>by omega,fun _=>by rw [if_neg hl,if_neg hk2],fun e=>absurd hn e,fun _ e=>absurd (show (10 : Nat) = 8 from e) (by omega),fun q=>.inr (nr _ rfl q),by rw [hsm,if_pos ⟨hn,hl,hk⟩]; rfl⟩
   ·simp only [hn] at hsm;exact ⟨{ t with work:={ t.work with next:=10 } },by rw [hsm,setMW_to P ht],fun _=>rfl,fun _=>rfl,fun e=>by omega,fun e=>by omega,fun _ e=>absurd hn e,fun _ e=>absurd (show (10 : Nat) = 8 from e) (by omega),fun q=>.inr (nr _ rfl q),by rw [hsm,if_neg (fun q=>by omega)]; rfl⟩
   ·simp only [hn] at hsm;exact ⟨{ t with work:={ t.work with next:=11 } },by rw [hsm,setMW_to P ht],fun _=>rfl,fun e=>by omega,fun _=>rfl,fun e=>by omega,fun _ _ _=>⟨by show (11 : Nat)≠9; omega,by show (11 : Nat)≠10; omega⟩,fun _ e=>absurd (show (11 : Nat) = 8 from e) (by omega),fun q=>.inr (nr _ rfl q),by rw [hsm,if_neg (fun q=>by omega)]; rfl⟩
   ·simp only [hn] at hsm;exact fin hsm rfl rfl rfl (by omega) (by omega) (by omega) (by omega) (by show (12 : Nat)≠9; omega) (by show (12 : Nat)≠10; omega) (fun e=>absurd (show (12 : Nat) = 8 from e) (by omega)) (nr _ rfl)
   ·simp only [hn] at hsm;unfold PSt.unlock at hsm;exact fin hsm rfl rfl rfl (by omega) (by omega) (by omega) (by omega) (by show (13 : Nat)≠9; omega) (by show (13 : Nat)≠10; omega) (fun e=>absurd (show (13 : Nat) = 8 from e) (by omega)) (nr _ rfl)
theorem Inv.ve8 (h : Inv C P) (hj : P.ts[j]? = some t) (hv : VE P.mem P.ts x s d) : ¬ Fresh8 x t:=by
 rintro ⟨f1,f2,f3,f4⟩;obtain ⟨n,g1,_,_,_,g5,_,_,_,_,_,g11⟩:=(h.th j t hj).f8 f1 f2 (.inl f3);have e:=mem_one g1 f4;subst e;rcases hv with hv | ⟨⟨k,u,hk,v1,v2,v3,v4,v5,_⟩,_⟩
 ·exact (g11 f3).2 s d hv
 ·have:=((h.th k u hk).c7 v1 (by omega) (by omega)).1
  rw [v5] at this; exact g5 this
theorem InvV.verStep (hV : InvV C Rt Vt P) (h : Inv C P) (ht : P.ts[i]? = some t) (hb : t.busy = true) {R : List (Int × Int)} {V : Int->Prop} {T : Int} (hR : Ver P.mem P.ts R V T) (hT : T < P.clock\/(T = P.clock/\V = Vt P.clock)) : Ver (P.step i t).1.mem (P.step i t).1.ts R V T:=by
 have hve:=h.veStep ht hb;have hn8 : ∀ x,(x = 0\/V x)->¬ Fresh8 x t:=by
  intro x hx;obtain ⟨s,y,g1,_⟩:=hR.g x hx;exact h.ve8 ht g1
 have hus : ∀ x,(x = 0\/x = 1\/V x)->Us P.mem x:=by
  rintro x (rfl | rfl | hx)
  ·exact h.gdUs (.inr (.inl h.n.a0.1))
  ·exact h.n.a1.2.1
  ·exact (hR.d x hx).1
 have h81 : ¬ Fresh8 1 t:=by
  rintro ⟨f1,f2,f3,f4⟩;obtain ⟨n,g1,_,g3,_⟩:=(h.th i t ht).f8 f1 f2 (.inl f3);exact g3 (mem_one g1 f4).symm
 have hk : ∀ x,(x = 0\/x = 1\/V x)->Nr P.clock P.mem (P.step i t).1.mem x:=by
  intro x hx;refine h.keepsR ht hb x (hus x hx) ?_;rcases hx with hx | rfl | hx
  ·exact hn8 x (.inl hx)
  ·exact h81
  ·exact hn8 x (.inr hx)
 refine hR.mono (fun x hx=>(hk x hx).1) ?_ (fun x s d _ hv _ _=>hve.to x s d hv) ?_
 ·intro x hx;obtain ⟨k1,k2,k3,k4⟩:=hk x (.inr (.inr hx));obtain ⟨d1,_,_,d4⟩:=hR.d x hx;refine ⟨k2,k3 d1,?_⟩;intro hr;rcases k4 hr with ⟨q1,q2⟩ | ⟨q1,q2⟩
  ·rw [q2]; exact d4 q1
  ·rw [q1];rcases hT with hT | ⟨hT,hVe⟩
   ·exact hT
   ·exfalso;rw [hVe,hV.set] at hx;rcases hx with ⟨z1,_,z3⟩ | ⟨j,u,hj,f1,f2,f3,f4⟩
    ·obtain ⟨j,u,hj,w1,w2,w3,w4⟩:=h.o.ki x q2 z1;exact z3 ⟨j,u,hj,w1,w2,.inr w3,w4⟩
    ·obtain ⟨n,g1,_,_,_,_,g6,_⟩:=(h.th j u hj).f8 f1 f2 (.inr f3);rw [mem_one g1 f4] at q2;simp only [De] at q2; rw [g6] at q2; cases q2
 ·intro x s d _ hv hs;rcases hve.fr x s d hv with q | q
  ·exact q
  ·have : T<=P.clock:=by rcases hT with hT | hT <;> omega
   omega
end
end
section
section
variable {C : Int->Prop} {Rt : Int->List (Int × Int)} {Vt : Int->Int->Prop} {i j : Nat} {t t' : PThread} {P : PSt} {x s d : Int} {ts : List PThread}
theorem ex_iff {p : PThread->Prop} (ht : ts[i]? = some t) (h : p t' ↔ p t) : Ex (ts.set i t') p ↔ Ex ts p:=by
 have hi:=(List.getElem?_eq_some_iff.1 ht).1;constructor
 ·rintro ⟨j,u,hj,hu⟩;rw [List.getElem?_set] at hj;by_cases e : i = j
  ·subst e; simp [hi] at hj; subst hj; exact ⟨i,t,ht,h.1 hu⟩
  ·rw [if_neg e] at hj; exact ⟨j,u,hj,hu⟩
 ·intro hx; exact hx.set ht h.2
theorem ex_off {p : PThread->Prop} (ht : ts[i]? = some t) (h : ¬ p t') : Ex (ts.set i t') p ↔ ∃ j u,j≠i/\ts[j]? = some u/\p u:=by
 have hi:=(List.getElem?_eq_some_iff.1 ht).1;constructor
 ·rintro ⟨j,u,hj,hu⟩;rw [List.getElem?_set] at hj;by_cases e : i = j
  ·subst e; simp [hi] at hj; subst hj; exact absurd hu h
  ·rw [if_neg e] at hj; exact ⟨j,u,fun q=>e q.symm,hj,hu⟩
 ·rintro ⟨j,u,hji,hj,hu⟩; exact Ex.other hj hu hji
theorem InvV.freshVal (hV : InvV C Rt Vt P) (h : Inv C P) (ht : P.ts[i]? = some t) (hb : t.busy = true) : ∀ (j : Nat) u,(P.step i t).1.ts[j]? = some u->∀ x,Fresh x u->((P.step i t).1.mem.node x).value = u.work.value:=by
 obtain ⟨t',hto⟩:=h.goTo ht hb;have hT:=h.th i t ht;have hkd:=hT.kd hb;have hrd:=hT.rd hb;have hi:=(List.getElem?_eq_some_iff.1 ht).1;intro j u hj x hf;rw [hto.ts,List.getElem?_set] at hj;by_cases e : i = j
 ·subst e;simp [hi] at hj; subst hj;obtain ⟨f1,f2,f3,f4⟩:=hf;have hk1 : t.work.kind = 1:=by rw [<- hto.kd f1]; exact f2
  rcases f3 with f3 | f3
  ·rcases hto.n7 f1 f3 (.inl hk1) with q | h7
   ·-- it has not moved: there is no such step
    exfalso;have h8 : t.work.next = 8:=by rw [<- q]; exact f3
    have:=hto.n8 h8
    split at this
    ·rw [this] at f3; exact absurd (show (12 : Nat) = 8 from f3) (by omega)
    ·rw [if_neg (by omega)] at this;rw [this] at f3; exact absurd (show (10 : Nat) = 8 from f3) (by omega)
   ·have hsm:=step_mid (i:=i) (t:=t) P (by omega) (by omega);rw [if_neg (by omega)] at hsm;unfold PSt.update at hsm;simp only [h7] at hsm;unfold PSt.prepare at hsm;split at hsm
    ·exfalso;have : (P.step i t).1.ts[i]? = some { t with work:=t.work.settle { err:=7 } }:=by rw [hsm,setW_to P ht]; simp [hi]
     rw [hto.ts] at this;simp [hi] at this;rw [this] at f3; exact absurd (show (12 : Nat) = 8 from f3) (by omega)
    ·next hroom =>
     have hne : P.needs t.work.kind = (1,2):=by unfold PSt.needs; rw [hk1,if_neg (by decide),if_neg (by rw [h.kind]; decide)]
     rw [hne] at hroom;obtain ⟨n,M1,q1,q2,_,q4,_⟩:=h.grown ht hb h7 (by simp only at hroom; omega) (by simp only at hroom; omega);simp only [if_pos hk1,q2] at hsm;have hts : (P.step i t).1.ts[i]? = some { t with work:={ t.work with made:=[n],tsrc:=t.work.stand,tside:=false,next:=8 } }:=by
      rw [hsm];show ((P.setM M1).setW i { t.work with made:=[n],tsrc:=t.work.stand,tside:=false,next:=8 }).ts[i]? = _;rw [setMW_to P ht]; simp [hi]
     rw [hto.ts] at hts;simp [hi] at hts;rw [hts] at f4 ⊢;have hx : x = n:=by
      have : x ∈ [n]:=f4;simpa using this
     show (PMem.node (P.step i t).1.mem x).value = t.work.value;rw [hsm];show (M1.node x).value = _;rw [q4,if_pos hx]; rfl
  ·by_cases h8 : t.work.next = 8
   ·have hn8:=hto.n8 h8;split at hn8
    ·rw [hn8] at f3; exact absurd (show (12 : Nat) = 10 from f3) (by omega)
    ·rw [if_neg (by omega)] at hn8;have hm : x ∈ t.work.made:=by rw [hn8] at f4; exact f4
     have hold:=hV.fv i t ht x ⟨hb,hk1,.inl h8,hm⟩;have hval : t'.work.value = t.work.value:=by rw [hn8]
     rw [hval,<- hold];have hsm:=step_mid (i:=i) (t:=t) P (by omega) (by omega);rw [if_neg (by omega)] at hsm;unfold PSt.update at hsm;simp only [h8] at hsm;unfold PSt.take at hsm;rw [if_neg (by assumption)] at hsm;simp only at hsm;rw [if_neg (by omega)] at hsm;rw [hsm];show (PMem.node (P.mem.stampsNew (P.clock + 1) t.work.made) x).value = _;rw [node_ns (stampsNew_ns _ _ _)]
   ·by_cases h9 : t.work.next = 9
    ·have:=hT.n9 hb h9; omega
    ·exact absurd f3 (hto.nx h8 h9 f1).2
 ·rw [if_neg e] at hj;rw [<- hV.fv j u hj x hf];obtain ⟨f1,f2,f3,f4⟩:=hf;obtain ⟨n,g1,_,_,g4,_⟩:=(h.th j u hj).f8 f1 f2 f3;have hx:=mem_one g1 f4;refine (h.keepsR ht hb x (by rw [hx]; exact g4) ?_).2.1;rintro ⟨k1,k2,k3,k4⟩;exact e (h.o.pw i j t u x ht hj ⟨k1,k2,.inl k3,k4⟩ ⟨f1,f2,f3,f4⟩)
theorem InvV.readers (hV : InvV C Rt Vt P) (h : Inv C P) (ht : P.ts[i]? = some t) (hb : t.busy = true) : ∀ (j : Nat) u,(P.step i t).1.ts[j]? = some u->Rdr u->Ver (P.step i t).1.mem (P.step i t).1.ts (Rt u.work.time) (Vt u.work.time) u.work.time/\u.work.time<=P.clock:=by
 obtain ⟨t',hto⟩:=h.goTo ht hb;have hi:=(List.getElem?_eq_some_iff.1 ht).1;have one : ∀ (j : Nat) u,P.ts[j]? = some u->Rdr u->Ver (P.step i t).1.mem (P.step i t).1.ts (Rt u.work.time) (Vt u.work.time) u.work.time/\u.work.time<=P.clock:=by
  intro j u hj hr;have hle:=((h.th j u hj).tm hr.1 hr.2.2.1).1;refine ⟨hV.verStep h ht hb (hV.rd j u hj hr) ?_,hle⟩;rcases (show u.work.time < P.clock\/u.work.time = P.clock by omega) with q | q
  ·exact .inl q
  ·exact .inr ⟨q,by rw [q]⟩
 intro j u hj hr;have hj':=hj;rw [hto.ts,List.getElem?_set] at hj';by_cases e : i = j
 ·subst e;simp [hi] at hj'; subst hj';rcases hto.rd hr with ⟨q1,q2⟩ | ⟨q1,q2⟩
  ·rw [q2];exact ⟨hV.verStep h ht hb hV.now (.inr ⟨rfl,rfl⟩),Int.le_refl _⟩
  ·rw [q2]; exact one i t ht q1
 ·rw [if_neg e] at hj';exact one j u hj' hr
theorem InvV.still (hV : InvV C Rt Vt P) (h : Inv C P) (ht : P.ts[i]? = some t) (hb : t.busy = true) (hck : (P.step i t).1.clock = P.clock) : InvV (nextC C t) Rt Vt (P.step i t).1:=by
 obtain ⟨t',hto⟩:=h.goTo ht hb;have hT:=h.th i t ht;have hkd:=hT.kd hb;have hrd:=hT.rd hb;have hi:=(List.getElem?_eq_some_iff.1 ht).1;refine ⟨by rw [hck]; exact hV.verStep h ht hb hV.now (.inr ⟨rfl,rfl⟩),?_,hV.freshVal h ht hb,fun j u hj hr=>(hV.readers h ht hb j u hj hr).1⟩;rw [hck];intro x;rw [hV.set,hto.ts];by_cases h10 : t.work.next = 10
 ·have hk : t.work.kind = 1\/t.work.kind = 2:=by omega
  have ht':=hto.n10 h10;have nr : ∀ x,¬ Removing x t':=by
   rintro x ⟨_,_,q,_⟩;rw [ht'] at q;have : (11 : Nat) = 9\/(11 : Nat) = 10:=q;omega
  have nf : ∀ x,¬ Fresh10 x t':=by
   rintro x ⟨_,_,q,_⟩;rw [ht'] at q;have : (11 : Nat) = 10:=q;omega
  rw [ex_off ht (nr x),ex_off ht (nf x)];unfold nextC;rcases hk with hk | hk
  ·rw [if_neg (by omega),if_pos ⟨h10,hk⟩];obtain ⟨n,f1,f2,f3,f4,f5,f6,_⟩:=hT.f8 hb hk (.inr h10);have hmn : ∀ x,x ∈ t.work.made ↔ x = n:=fun x=>by rw [f1]; simp
   have rem : Ex P.ts (Removing x) ↔ ∃ j u,j≠i/\P.ts[j]? = some u/\Removing x u:=by
    constructor
    ·rintro ⟨j,u,hj,hu⟩;refine ⟨j,u,?_,hj,hu⟩;rintro rfl;rw [ht] at hj; injection hj with hj; subst hj
     have:=hu.2.1; omega
    ·rintro ⟨j,u,_,hj,hu⟩; exact ⟨j,u,hj,hu⟩
   rw [rem];constructor
   ·rintro (⟨q1,q2,q3⟩ | ⟨j,u,hj,hu⟩)
    ·exact .inl ⟨.inl q1,q2,q3⟩
    ·by_cases e : j = i
     ·subst e;rw [ht] at hj; injection hj with hj; subst hj
      have hx:=(hmn x).1 hu.2.2.2;refine .inl ⟨.inr hu.2.2.2,by rw [hx]; exact f2,?_⟩;rintro ⟨k,v,_,hk2,r1,r2,r3,r4⟩;have hc7:=(h.th k v hk2).c7 r1 (by omega) (by omega);have hc10:=(h.th k v hk2).c10 r1 (by omega) (by omega);have hcl:=(h.n.mc _ hc7.1).2.2.2.1;rw [hc10,r4,hx] at hcl;rcases hcl with z | z
      ·exact f3 z
      ·exact f5 z
     ·exact .inr ⟨j,u,e,hj,hu⟩
   ·rintro (⟨q1,q2,q3⟩ | ⟨j,u,_,hj,hu⟩)
    ·rcases q1 with q1 | q1
     ·exact .inl ⟨q1,q2,q3⟩
     ·exact .inr ⟨i,t,ht,hb,hk,h10,q1⟩
    ·exact .inr ⟨j,u,hj,hu⟩
  ·rw [if_pos ⟨h10,hk⟩];have fr : Ex P.ts (Fresh10 x) ↔ ∃ j u,j≠i/\P.ts[j]? = some u/\Fresh10 x u:=by
    constructor
    ·rintro ⟨j,u,hj,hu⟩;refine ⟨j,u,?_,hj,hu⟩;rintro rfl;rw [ht] at hj; injection hj with hj; subst hj
     have:=hu.2.1; omega
    ·rintro ⟨j,u,_,hj,hu⟩; exact ⟨j,u,hj,hu⟩
   rw [fr];refine or_congr ?_ Iff.rfl;constructor
   ·rintro ⟨q1,q2,q3⟩;refine ⟨⟨q1,?_⟩,q2,?_⟩
    ·rintro rfl; exact q3 ⟨i,t,ht,hb,hk,.inr h10,rfl⟩
    ·rintro ⟨j,u,_,hj,hu⟩; exact q3 ⟨j,u,hj,hu⟩
   ·rintro ⟨⟨q1,q1'⟩,q2,q3⟩;refine ⟨q1,q2,?_⟩;rintro ⟨j,u,hj,hu⟩;by_cases e : j = i
    ·subst e;rw [ht] at hj; injection hj with hj; subst hj
     exact q1' hu.2.2.2.symm
    ·exact q3 ⟨j,u,e,hj,hu⟩
 ·rw [nextC_ne h10];have hrem : Removing x t' ↔ Removing x t:=by
   by_cases h9 : t.work.next = 9
   ·have ht':=hto.n9 h9;rw [ht'];constructor
    ·rintro ⟨q1,q2,_,q4⟩; exact ⟨q1,q2,.inl h9,q4⟩
    ·rintro ⟨q1,q2,_,q4⟩; exact ⟨q1,q2,.inr rfl,q4⟩
   ·constructor
    ·rintro ⟨q1,q2,q3,q4⟩;exfalso;by_cases h8 : t.work.next = 8
     ·have hlim : P.limit<=P.clock:=by
       by_cases hl : P.limit<=P.clock
       ·exact hl
       ·exfalso
        have:=hto.ck
        rw [if_pos ⟨h8,hl,by omega⟩] at this;omega
      have hn8:=hto.n8 h8;rw [if_pos hlim] at hn8;rw [hn8] at q3;have : (12 : Nat) = 9\/(12 : Nat) = 10:=q3;omega
     ·have:=hto.nx h8 h9 q1; omega
    ·rintro ⟨q1,q2,q3,q4⟩; omega
  have hfr : Fresh10 x t' ↔ Fresh10 x t:=by
   constructor
   ·rintro ⟨q1,q2,q3,q4⟩;exfalso;by_cases h9 : t.work.next = 9
    ·have:=hT.n9 hb h9
     have:=hto.kd q1
     omega
    ·by_cases h8 : t.work.next = 8
     ·have hlim : P.limit<=P.clock:=by
       by_cases hl : P.limit<=P.clock
       ·exact hl
       ·exfalso
        have:=hto.ck
        rw [if_pos ⟨h8,hl,by omega⟩] at this;omega
      have hn8:=hto.n8 h8;rw [if_pos hlim] at hn8;rw [hn8] at q3;have : (12 : Nat) = 10:=q3;omega
     ·exact (hto.nx h8 h9 q1).2 q3
   ·rintro ⟨q1,q2,q3,q4⟩; exact absurd q3 h10
  rw [ex_iff ht hrem,ex_iff ht hfr]
end
end
end Go.Proofs.YtfccelbmacjifaaGreat
