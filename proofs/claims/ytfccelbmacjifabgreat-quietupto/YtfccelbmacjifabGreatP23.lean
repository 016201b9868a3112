import Derived.Test.YtfccelbmacjifabGreatP0
import Derived.Test.YtfccelbmacjifabGreatP22
import Derived.Test.YtfccelbmacjifabGreatP8
import Derived.Test.YtfccelbmacjifabGreatP7
import Derived.Test.YtfccelbmacjifabGreatP6
set_option linter.unusedSimpArgs false
set_option maxRecDepth 100000
set_option maxHeartbeats 4000000
namespace Go.Proofs.YtfccelbmacjifabGreat
section
open Go.RowKit
def PSt.iter (P : PSt) (i : Nat) : Nat->PSt
 | 0=>P
 | j + 1=>((P.iter i j).step i ((P.iter i j).th i)).1
def PSt.how (P : PSt) (i j : Nat) : Int:=((P.iter i j).step i ((P.iter i j).th i)).2
structure Iter (D : PlD) (i j : Nat) (D' : PlD) : Prop where
 P : D'.P = D.P.iter i j
 N : D'.N = D.N + j
 cfg : D'.k = D.k/\D'.t = D.t/\D'.n = D.n/\D'.e = D.e/\D'.l = D.l
 same : D'.ops = D.ops/\D'.frm = D.frm/\D'.puts = D.puts/\D'.takes = D.takes/\D'.bs = D.bs/\D'.deeds = D.deeds
 busy : ∃ t,D'.P.ts[i]? = some t/\t.busy = true
structure Soloed (D : PlD) (i m : Nat) (D' : PlD) : Prop where
 P : D'.P = D.P.iter i (m + 1)
 N : D'.N = D.N + m + 1
 cfg : D'.k = D.k/\D'.t = D.t/\D'.n = D.n/\D'.e = D.e/\D'.l = D.l
 same : D'.ops = D.ops/\D'.frm = D.frm/\D'.puts = D.puts/\D'.takes = D.takes
 bs : D'.bs = D.bs.set i false
 deeds : ∃ av o f,D.ops[i]? = some o/\D.frm[i]? = some f/\D'.deeds = D.deeds ++ [⟨o,((D.P.iter i m).th i).work.ans,av,f⟩]
section
variable {own : Own} {z : Nat} {w w' : World} {pb : Nat} {D D1 : PlD} {i j : Nat} {t : PThread}
theorem th_of {P : PSt} (h : P.ts[i]? = some t) : P.th i = t:=by simp [PSt.th,h]
theorem Iter.next (h : Iter D i j D1) (hf : Fit D1.N D1.P) {D2 : PlD} (hs : Stepped D1 i (D1.P.th i) D2) (h1 : D.P.how i j = 1) : Iter D i (j + 1) D2:=by
 obtain ⟨t,ht,hb⟩:=h.busy;have hth:=th_of ht;have hP : D2.P = D.P.iter i (j + 1):=by rw [hs.P,PSt.iter,h.P]
 have h2 : (D1.P.step i (D1.P.th i)).2 = 1:=by rw [h.P]; exact h1
 refine ⟨hP,by rw [hs.N,h.N]; omega,?_,⟨hs.ops.trans h.same.1,hs.frm.trans h.same.2.1,hs.cnt.1.trans h.same.2.2.1,hs.cnt.2.trans h.same.2.2.2.1,?_,?_⟩,?_⟩
 ·obtain ⟨a1,a2,a3,a4,a5⟩:=hs.cfg;obtain ⟨b1,b2,b3,b4,b5⟩:=h.cfg;exact ⟨a1.trans b1,a2.trans b2,a3.trans b3,a4.trans b4,a5.trans b5⟩
 ·rw [hs.bs,if_neg (by omega)]; exact h.same.2.2.2.2.1
 ·rw [hs.deeds.1 (by omega)]; exact h.same.2.2.2.2.2
 ·rw [hth] at h2 hs;obtain ⟨M,c,t',e,_,_,_,hb',_⟩:=(hf.turn ht hb).to;refine ⟨t',?_,?_⟩
  ·rw [hs.P,e]
   have:=(List.getElem?_eq_some_iff.1 ht).1
   simp [this]
  ·rw [hb',if_neg (by omega)]
theorem Psolo_calls (h : PlAt own z w pb D) (hn : 0<=D.n/\D.n<=64) (hb : D.bs[i]? = some true) (ht : D.P.ts[i]? = some t) (htb : t.busy = true) (hN : D.N<=2 ^ 38) (hdl : D.deeds.length<=2 ^ 38) (m : Nat) (hm : (m : Int) < D.n + 16) (hmv : ∀ j,j < m->D.P.how i j = 1) (hend : D.P.how i m = 3) :
  Calls Tryz.prog 30 #[pv pb,.int .i64 i] w fun r w'=>r = .returned (.bool true)/\PlGoes own z w pb w' (Soloed D i m):=by
 obtain ⟨hn1,hn2⟩:=hn;have H:=(mkH (PlAt own z w pb D) <|h);have HI:=(mkH (Iter D i 0 D) <|⟨rfl,rfl,⟨rfl,rfl,rfl,rfl,rfl⟩,⟨rfl,rfl,rfl,rfl,rfl,rfl⟩,t,ht,htb⟩);have HB:=(mkH (D.bs[i]? = some true) <|hb);have HM:=(mkH (∀ j,j < m->D.P.how i j = 1) <|hmv);have HE:=(mkH (D.P.how i m = 3) <|hend);clear h ht htb hb hmv hend;unfold pv
 go_enter Tryz.func30,Tryz.ntmps30
 go_wp2
 go_loopw [5] (fun v wr=>∃ j : Nat,j<=m/\v = .int .i64 j/\Hid (PlGoes own z w pb wr (Iter D i j))) (fun v _=>m + 1 - (intOf v).toNat)
 case atStart=>exact ⟨0,by omega,rfl,own,D,H.out,Ext.refl _ _,Fr.refl _ _,HI.out⟩
 case round =>
  clear H;obtain ⟨j,hj,rfl,HG⟩:=hrel;obtain ⟨own1,D1,hP,hE,hF,hI⟩:=HG.out;have HP:=(mkH (PlAt own1 z wr pb D1) <|hP);have HX:=(mkH (Ext own own1 w/\FrP own z w wr) <|⟨hE,hF⟩);have HIt:=(mkH (Iter D i j D1) <|hI);have ha:=hP.at_.cell;simp only [PlD.cells,hI.cfg.2.2.1,pv] at ha;clear hP hE hF hI HG;obtain ⟨t1,ht1,hb1⟩:=HIt.out.busy;have HT:=(mkH (D1.P.ts[i]? = some t1/\t1.busy = true/\D1.P.th i = t1) <|⟨ht1,hb1,th_of ht1⟩);have HBs:=(mkH (D1.bs[i]? = some true) <|by show _ = _; rw [HIt.out.same.2.2.2.2.1]; exact HB.out);have HD:=(mkH (D1.N < 2 ^ 39/\D1.deeds.length<=2 ^ 38) <|⟨by rw [HIt.out.N]; omega,by rw [HIt.out.same.2.2.2.2.2]; exact hdl⟩);clear ht1 hb1;by_cases hlt : j < m
  ·have h1:=HM.out j hlt;have HH:=(mkH ((D1.P.step i t1).2 = 1) <|by show _ = _; rw [<- HT.out.2.2,HIt.out.P]; exact h1);go_wp2_with fail;refine (Psteps_on HP.out HBs.out HT.out.1 HT.out.2.1 HD.out.1 (by rw [HH.out]; decide)).mono ?_;rw [HH.out];rintro r w2 ⟨rfl,own2,D2,hP2,hE2,hF2,hS2⟩;have HG2:=(mkH (PlGoes own z w pb w2 (Iter D i (j + 1))) <|PlGoes.trans HX.out.1 HX.out.2 ⟨own2,D2,hP2,hE2,hF2,HIt.out.next HP.out.fit (by rw [HT.out.2.2]; exact hS2) h1⟩);clear hP2 hE2 hF2 hS2 h1;go_wp2
   go_roundw
   case rel=>exact ⟨j + 1,by omega,by go_num,HG2⟩
   case measure=>simp [intOf]; omega
  ·have hjm : Hid (j = m):=by show j = m; omega
   have HH:=(mkH ((D1.P.step i t1).2 = 3) <|by show _ = _; rw [<- HT.out.2.2,HIt.out.P,hjm.out]; exact HE.out);go_wp2_with fail;refine (Psteps_end HP.out HBs.out HT.out.1 HT.out.2.1 HD.out.1 HD.out.2 HH.out).mono ?_;rintro r w2 ⟨rfl,own2,D2,hP2,hE2,hF2,hS2⟩;have HG2:=(mkH (PlGoes own z w pb w2 (Soloed D i m)) <|PlGoes.trans HX.out.1 HX.out.2 ⟨own2,D2,hP2,hE2,hF2,by
    have hI:=HIt.out;rw [hjm.out] at hI;obtain ⟨av,o,f,q1,q2,q3⟩:=hS2.deeds.2 HH.out;refine ⟨?_,by rw [hS2.N,hI.N],?_,⟨hS2.ops.trans hI.same.1,hS2.frm.trans hI.same.2.1,hS2.cnt.1.trans hI.same.2.2.1,hS2.cnt.2.trans hI.same.2.2.2.1⟩,?_,?_⟩
    ·rw [hS2.P,PSt.iter,<- hI.P,HT.out.2.2]
    ·obtain ⟨a1,a2,a3,a4,a5⟩:=hS2.cfg;obtain ⟨b1,b2,b3,b4,b5⟩:=hI.cfg;exact ⟨a1.trans b1,a2.trans b2,a3.trans b3,a4.trans b4,a5.trans b5⟩
    ·rw [hS2.bs,if_pos HH.out,hI.same.2.2.2.2.1]
    ·refine ⟨av,o,f,by rw [<- hI.same.1]; exact q1,by rw [<- hI.same.2.1]; exact q2,?_⟩;rw [q3,hI.same.2.2.2.2.2,<- hI.P,HT.out.2.2]⟩)
   clear hP2 hE2 hF2 hS2;go_wp2;go_ret;exact ⟨rfl,HG2.out⟩
end
end
section
open Go.RowKit
section
variable {own : Own} {z : Nat} {w w' : World} {pb : Nat} {D D1 : PlD} {i j : Nat}
theorem sweep_ts (P : PSt) : P.doSweep.1.ts = P.ts:=by
 unfold PSt.doSweep;simp only;split
 ·rfl
 ·split
  ·split <;> rfl
  ·split <;> rfl
end
end
section
def SameOp (t t' : PThread) : Prop:=t'.work.kind = t.work.kind/\t'.work.key = t.work.key/\t'.work.value = t.work.value/\t'.work.spans = t.work.spans
section
variable {C C' : Int->Prop} {i j : Nat} {t : PThread} {P : PSt} {L : Nat} {D D' : PlD}
theorem step_work (hk : P.kind = 0) (ht : P.ts[i]? = some t) (hb : t.busy = true) : ∃ t',(P.step i t).1.ts = P.ts.set i t'/\((P.step i t).2 = 3->t'.busy = false)/\((P.step i t).2≠3->t'.busy = true/\SameOp t t'/\t'.hasEnded = t.hasEnded/\t'.last = t.last):=by
 have same : P.ts.set i t = P.ts:=by
  apply List.ext_getElem?;intro j;rw [List.getElem?_set];split
  ·next e=>subst e; split <;> simp_all
  ·rfl
 have fin : ∀ (Q : PSt) (k : PWork),Q.ts = P.ts->k.kind = t.work.kind->k.key = t.work.key->k.value = t.work.value->k.spans = t.work.spans->∀ n : Int,n≠3->∃ t',(Q.setW i k,n).1.ts = P.ts.set i t'/\((Q.setW i k,n).2 = 3->t'.busy = false)/\((Q.setW i k,n).2≠3->t'.busy = true/\SameOp t t'/\t'.hasEnded = t.hasEnded/\t'.last = t.last):=by
  intro Q k hQ h1 h2 h3 h4 n hn;refine ⟨{ t with work:=k },?_,fun e=>absurd e hn,fun _=>⟨hb,⟨h1,h2,h3,h4⟩,rfl,rfl⟩⟩;show (Q.setW i k).ts = _;rw [setW_to Q (t:=t) (by rw [hQ]; exact ht) k,hQ]
 have stay : ∀ n : Int,n≠3->∃ t',(P,n).1.ts = P.ts.set i t'/\((P,n).2 = 3->t'.busy = false)/\((P,n).2≠3->t'.busy = true/\SameOp t t'/\t'.hasEnded = t.hasEnded/\t'.last = t.last) :=
  fun n hn=>⟨t,same.symm,fun e=>absurd e hn,fun _=>⟨hb,⟨rfl,rfl,rfl,rfl⟩,rfl,rfl⟩⟩
 unfold PSt.step;split
 ·exact ⟨_,rfl,fun e=>absurd e (by show ¬ (1 : Int) = 3; decide),fun _=>⟨hb,⟨rfl,rfl,rfl,rfl⟩,rfl,rfl⟩⟩
 ·exact ⟨_,rfl,fun e=>absurd e (by show ¬ (1 : Int) = 3; decide),fun _=>⟨hb,⟨rfl,rfl,rfl,rfl⟩,rfl,rfl⟩⟩
 ·exact ⟨_,rfl,fun e=>absurd e (by show ¬ (1 : Int) = 3; decide),fun _=>⟨hb,⟨rfl,rfl,rfl,rfl⟩,rfl,rfl⟩⟩
 ·exact ⟨_,rfl,fun _=>rfl,fun e=>absurd rfl e⟩
 ·split
  ·unfold PSt.read;simp only;split
   ·exact stay 2 (by decide)
   ·split
    ·refine fin P _ rfl ?_ ?_ ?_ ?_ 1 (by decide) <;> (unfold PSt.lookUp; split <;> rfl)
    ·refine fin P _ rfl ?_ ?_ ?_ ?_ 1 (by decide) <;> (unfold PSt.scan; simp only; split <;> rfl)
  ·unfold PSt.update;split
   ·refine fin P _ rfl ?_ ?_ ?_ ?_ 1 (by decide) <;> (unfold PSt.walk; split <;> rfl)
   ·unfold PSt.lock;split
    ·split
     ·refine fin _ _ ?_ ?_ ?_ ?_ ?_ 1 (by decide) <;> rfl
     ·exact stay 2 (by decide)
    ·refine fin _ _ ?_ ?_ ?_ ?_ ?_ 1 (by decide) <;> rfl
   ·unfold PSt.check;split
    ·refine fin _ _ ?_ ?_ ?_ ?_ ?_ 1 (by decide) <;> rfl
    ·split
     ·refine fin _ _ ?_ ?_ ?_ ?_ ?_ 1 (by decide) <;> rfl
     ·refine fin _ _ ?_ ?_ ?_ ?_ ?_ 1 (by decide) <;> rfl
   ·unfold PSt.prepare;split
    ·refine fin _ _ ?_ ?_ ?_ ?_ ?_ 1 (by decide) <;> rfl
    ·have hpp : ∀ pp : PMem × PWork,pp.2.kind = t.work.kind/\pp.2.key = t.work.key/\pp.2.value = t.work.value/\pp.2.spans = t.work.spans->∃ t',(((P.setM pp.1).setW i { pp.2 with next:=8 },(1 : Int)) : PSt × Int).1.ts = P.ts.set i t'/\(((((P.setM pp.1).setW i { pp.2 with next:=8 },(1 : Int)) : PSt × Int)).2 = 3->t'.busy = false)/\(((((P.setM pp.1).setW i { pp.2 with next:=8 },(1 : Int)) : PSt × Int)).2≠3->t'.busy = true/\SameOp t t'/\t'.hasEnded = t.hasEnded/\t'.last = t.last):=by
      rintro pp ⟨h1,h2,h3,h4⟩;exact fin (P.setM pp.1) { pp.2 with next:=8 } rfl h1 h2 h3 h4 1 (by decide)
     refine hpp (if t.work.kind = 1 then P.prepareInsert t.work else P.prepareRemove t.work) ?_;split
     ·unfold PSt.prepareInsert;simp only [if_pos hk];refine ⟨?_,?_,?_,?_⟩ <;> first | rfl | trivial
     ·unfold PSt.prepareRemove;simp only [if_pos hk];refine ⟨?_,?_,?_,?_⟩ <;> first | rfl | trivial
   ·unfold PSt.take;split
    ·refine fin _ _ ?_ ?_ ?_ ?_ ?_ 1 (by decide) <;> rfl
    ·simp only;split
     ·refine fin _ _ ?_ ?_ ?_ ?_ ?_ 1 (by decide) <;> rfl
     ·refine fin _ _ ?_ ?_ ?_ ?_ ?_ 1 (by decide) <;> rfl
   ·refine fin _ _ ?_ ?_ ?_ ?_ ?_ 1 (by decide) <;> rfl
   ·refine fin _ _ ?_ ?_ ?_ ?_ ?_ 1 (by decide) <;> rfl
   ·refine fin _ _ ?_ ?_ ?_ ?_ ?_ 1 (by decide) <;> rfl
   ·refine fin _ _ ?_ ?_ ?_ ?_ ?_ 1 (by decide) <;> rfl
   ·exact stay 1 (by decide)
theorem ok_step (hk : D.P.kind = 0) (hok : D.ok) (ht : D.P.ts[i]? = some t) (hb : t.busy = true) (hs : Stepped D i t D') : D'.ok:=by
 obtain ⟨t',h1,h2,h3⟩:=step_work hk ht hb;show D'.bs = D'.P.ts.map (·.busy);rw [hs.P,h1,hs.bs,List.map_set];have hok' : D.bs = D.P.ts.map (·.busy):=hok;split
 ·next e=>rw [h2 e,hok']
 ·next e =>
  rw [(h3 e).1,hok'];apply List.ext_getElem?;intro j;rw [List.getElem?_set];split
  ·next e=>subst e; rw [List.getElem?_map,ht]; simp [hb]; exact (List.getElem?_eq_some_iff.1 ht).1
  ·rfl
def Pot (N : Nat) (D : PlD) (n : Nat) : Prop:=∃ C,Inv C D.P/\D.P.mem.ns.length = N + 2/\Phi (N + 2) C D.P<=n
theorem Pot.move {N n : Nat} (h : Pot N D n) (ht : D.P.ts[i]? = some t) (hb : t.busy = true) (hs : Stepped D i t D') (hm : (D.P.step i t).2≠2) : ∃ n',n' + 1<=n/\Pot N D' n':=by
 obtain ⟨C,h1,h2,h3⟩:=h;have hd:=h1.drops h2 ht hb hm;refine ⟨Phi (N + 2) (nextC C t) (D.P.step i t).1,by omega,nextC C t,?_,?_,?_⟩
 ·rw [hs.P]; exact h1.step ht hb
 ·rw [hs.P,step_len h1.kind]; exact h2
 ·rw [hs.P]; exact Nat.le_refl _
theorem Pot.wait {N n : Nat} (h : Pot N D n) (ht : D.P.ts[i]? = some t) (hb : t.busy = true) (hs : Stepped D i t D') (hm : (D.P.step i t).2 = 2) : Pot N D' n/\D'.P = D.P/\D'.bs = D.bs:=by
 obtain ⟨C,h1,h2,h3⟩:=h;have hw:=(h1.waits ht hb hm).1;have hP : D'.P = D.P:=by rw [hs.P,hw]
 refine ⟨⟨C,?_,?_,?_⟩,hP,?_⟩
 ·rw [hP]; exact h1
 ·rw [hP]; exact h2
 ·rw [hP]; exact h3
 ·rw [hs.bs,if_neg (by omega)]
structure Plays (f : Nat) (T N E L : Int) (J : PlD->Prop) : Prop where
 inv : ∀ {D},J D->∃ C,Inv C D.P
 len : ∀ {D},J D->D.P.mem.ns.length = N.toNat + 2
 ok : ∀ {D},J D->D.ok
 cfg : ∀ {D},J D->D.k = 0/\D.t = T/\D.n = N/\D.e = E/\D.l = L
 step : ∀ {D D' : PlD} {i : Nat} {t : PThread},J D->Fit D.N D.P->D.P.ts[i]? = some t->t.busy = true->f<=i->Stepped D i t D'->J D'
 begin : ∀ {D D' : PlD} {i : Nat} {t : PThread} {o : OpV},J D->D.P.ts[i]? = some t->f<=i->Begun D i t o D'->J D'
 sweep : ∀ {D : PlD} (L' : ZLay),J D->J { D with L:=L',P:=D.P.doSweep.1 }
 low : ∀ {D : PlD} {i : Nat} {t : PThread},J D->i < f->D.P.ts[i]? = some t->t.busy = true->t.work.kind = 3\/t.work.kind = 4
def Sz (b : Nat) (D : PlD) : Prop:=D.N<=b/\D.deeds.length<=b/\0<=D.puts/\D.puts<=b/\0<=D.takes/\D.takes<=b
theorem Sz.mono {b b' : Nat} (h : Sz b D) (hb : b<=b') : Sz b' D:=by unfold Sz at *; omega
theorem Sz.step {b : Nat} (h : Sz b D) (hs : Stepped D i t D') : Sz (b + 1) D':=by
 have hd : D'.deeds.length<=D.deeds.length + 1:=by
  by_cases e : (D.P.step i t).2 = 3
  ·obtain ⟨av,o,f,_,_,q⟩:=hs.deeds.2 e;rw [q]; simp
  ·rw [hs.deeds.1 e]; omega
 unfold Sz at *;rw [hs.N,hs.cnt.1,hs.cnt.2]; omega
theorem Sz.begin {b : Nat} {o : OpV} (h : Sz b D) (hs : Begun D i t o D') : Sz (b + 1) D':=by
 have hc : (D'.puts = D.puts\/D'.puts = D.puts + 1)/\(D'.takes = D.takes\/D'.takes = D.takes + 1):=by
  by_cases hh : t.busy = true\/properB o.kind o.key o.spans = false
  ·obtain ⟨_,_,_,_,q1,q2⟩:=hs.no hh; exact ⟨.inl q1,.inl q2⟩
  ·simp only [not_or,Bool.not_eq_true,Bool.not_eq_false] at hh;obtain ⟨_,_,_,_,q1,q2⟩:=hs.yes hh.1 hh.2;rw [q1,q2];exact ⟨by split <;> omega,by split <;> omega⟩
 unfold Sz at *;rw [hs.N,hs.deeds]; omega
end
end
section
open Go.RowKit
structure Turning (f N : Nat) (D : PlD) (k m s : Nat) (D1 : PlD) : Prop where
 pot : ∀ n,Pot N D n->∃ n',n' + m<=n/\Pot N D1 n'
 still : m = 0->D1.P = D.P/\∀ j u,f<=j->j < k->D.P.ts[j]? = some u->u.busy = true->(D.P.step j u).2 = 2
 none_ : s = 0->D1.P = D.P/\m = 0/\∀ j u,f<=j->j < k->D.P.ts[j]? = some u->u.busy = false
 some_ : s≠0->m = 0->∃ j u,f<=j/\D.P.ts[j]? = some u/\u.busy = true
 le : m<=k/\s<=k
section
variable {own : Own} {z : Nat} {w w' : World} {pb : Nat} {D D1 D2 : PlD} {i f k m s N b : Nat} {t : PThread} {J : PlD->Prop} {T Nn E L : Int}
theorem Turning.start : Turning f N D f 0 0 D:=⟨fun n h=>⟨n,by omega,h⟩,fun _=>⟨rfl,fun j u h1 h2=>by omega⟩,fun _=>⟨rfl,rfl,fun j u h1 h2=>by omega⟩,fun h=>absurd rfl h,by omega⟩
theorem Turning.skip (h : Turning f N D k m s D1) (hk : D1.P.ts[k]? = some t) (hb : t.busy = false) : Turning f N D (k + 1) m s D1:=by
 refine ⟨h.pot,?_,?_,h.some_,by have:=h.le; omega⟩
 ·intro hm;obtain ⟨h1,h2⟩:=h.still hm;refine ⟨h1,?_⟩;intro j u hj hjk hu hub;rcases (show j < k\/j = k by omega) with e | e
  ·exact h2 j u hj e hu hub
  ·subst e; rw [<- h1,hk] at hu; injection hu with hu; subst hu; rw [hb] at hub; cases hub
 ·intro hs;obtain ⟨h1,h2,h3⟩:=h.none_ hs;refine ⟨h1,h2,?_⟩;intro j u hj hjk hu;rcases (show j < k\/j = k by omega) with e | e
  ·exact h3 j u hj e hu
  ·subst e; rw [<- h1,hk] at hu; injection hu with hu; subst hu; exact hb
theorem Turning.wait (h : Turning f N D k m s D1) (hf : f<=k) (hp : ∃ C,Inv C D1.P) (hk : D1.P.ts[k]? = some t) (hb : t.busy = true) (hs : Stepped D1 k t D2) (h2 : (D1.P.step k t).2 = 2) : Turning f N D (k + 1) m (s + 1) D2:=by
 obtain ⟨C,hC⟩:=hp;have hP2 : D2.P = D1.P:=by rw [hs.P,(hC.waits hk hb h2).1]
 refine ⟨?_,?_,fun e=>by omega,?_,by have:=h.le; omega⟩
 ·intro n hn;obtain ⟨n',q1,q2⟩:=h.pot n hn;exact ⟨n',q1,(q2.wait hk hb hs h2).1⟩
 ·intro hm;obtain ⟨g1,g2⟩:=h.still hm;refine ⟨hP2.trans g1,?_⟩;intro j u hj hjk hu hub;rcases (show j < k\/j = k by omega) with e | e
  ·exact g2 j u hj e hu hub
  ·subst e; rw [<- g1,hk] at hu; injection hu with hu; subst hu; rw [<- g1]; exact h2
 ·intro _ hm;obtain ⟨g1,_⟩:=h.still hm;exact ⟨k,t,hf,by rw [<- g1]; exact hk,hb⟩
theorem Turning.move (h : Turning f N D k m s D1) (hk : D1.P.ts[k]? = some t) (hb : t.busy = true) (hs : Stepped D1 k t D2) (h2 : (D1.P.step k t).2≠2) : Turning f N D (k + 1) (m + 1) (s + 1) D2:=by
 refine ⟨?_,fun e=>by omega,fun e=>by omega,fun _ e=>by omega,by have:=h.le; omega⟩;intro n hn;obtain ⟨n',q1,q2⟩:=h.pot n hn;obtain ⟨n'',q3,q4⟩:=q2.move hk hb hs h2;exact ⟨n'',by omega,q4⟩
theorem Turning.done (hJ : Plays f T Nn E L J) (hj : J D) (h : Turning f N D D.P.ts.length m s D1) (hm : m = 0) : s = 0:=by
 by_cases hs : s = 0
 ·exact hs
 ·exfalso;obtain ⟨j,u,h1,h2,h3⟩:=h.some_ hs hm;obtain ⟨C,hC⟩:=hJ.inv hj;obtain ⟨j',u',g1,g2,g3,g4⟩:=hC.live h2 h3;have hf : f<=j':=by
   rcases Nat.lt_or_ge j' f with hlt | hge
   ·have hl:=hJ.low hj hlt g1 g2;rcases g4 with e | e
    ·omega
    ·omega
   ·exact hge
  exact g3 ((h.still hm).2 j' u' hf (List.getElem?_eq_some_iff.1 g1).1 g1 g2)
theorem Psteps_busy (h : PlAt own z w pb D) (hb : D.bs[i]? = some true) (ht : D.P.ts[i]? = some t) (htb : t.busy = true) (hN : D.N < 2 ^ 39) (hdl : D.deeds.length<=2 ^ 38) :
  Calls Tryz.prog 35 #[pv pb,.int .i64 i] w fun r w'=>r = .returned (.tuple #[.int .i64 (D.P.step i t).2,.bool true])/\PlGoes own z w pb w' (Stepped D i t):=by
 by_cases h3 : (D.P.step i t).2 = 3
 ·rw [h3]; exact Psteps_end h hb ht htb hN hdl h3
 ·exact Psteps_on h hb ht htb hN h3
end
end
section
open Go.RowKit
section
variable {own : Own} {z : Nat} {w w' : World} {pb : Nat} {D D1 D2 : PlD} {i f k m s N b : Nat} {t : PThread} {J : PlD->Prop} {T Nn E L : Int}
theorem Plays.pot (hJ : Plays f T Nn E L J) (hj : J D) (hT : (D.P.ts.length : Int) = T) (hN : 0<=Nn) : Pot Nn.toNat D (T * (T + 2) * (Nn + 16)).toNat:=by
 obtain ⟨C,hC⟩:=hJ.inv hj;refine ⟨C,hC,hJ.len hj,?_⟩
 have:=hC.bound Nn.toNat
 have e : (T * (T + 2) * (Nn + 16)).toNat = D.P.ts.length * ((D.P.ts.length + 2) * (Nn.toNat + 16)):=by
  rw [<- hT];have : ((D.P.ts.length : Int) * (D.P.ts.length + 2) * (Nn + 16)) = ((D.P.ts.length * ((D.P.ts.length + 2) * (Nn.toNat + 16)) : Nat) : Int):=by
   rw [<- Nat.mul_assoc];simp only [Int.natCast_mul,Int.natCast_add];rw [Int.toNat_of_nonneg hN]; rfl
  rw [this]; rfl
 rw [e]; exact this
def Still (f : Nat) (D : PlD) : Prop:=∀ j u,f<=j->D.P.ts[j]? = some u->u.busy = false
theorem most_le {T Nn : Int} (hT : 1<=T/\T<=8) (hN : 0<=Nn/\Nn<=64) : (0<=T * (T + 2)/\T * (T + 2)<=80)/\0<=T * (T + 2) * (Nn + 16)/\T * (T + 2) * (Nn + 16)<=6400:=by
 have h1 : T * (T + 2)<=8 * 10:=Int.mul_le_mul hT.2 (by omega) (by omega) (by omega);have h2 : 0<=T * (T + 2):=Int.mul_nonneg (by omega) (by omega);have h3 : T * (T + 2) * (Nn + 16)<=80 * 80:=Int.mul_le_mul (by omega) (by omega) (by omega) (by omega);have h4 : 0<=T * (T + 2) * (Nn + 16):=Int.mul_nonneg h2 (by omega);omega
end
end
section
open Go.RowKit
section
variable {own : Own} {z : Nat} {w w' : World} {pb : Nat} {D D1 D2 : PlD} {i f k m s N b : Nat} {t : PThread} {J : PlD->Prop} {T Nn E L : Int}
end
end
section
def shVal (ps : List (Int × Int)) (key : Int) : Int × Bool:=match ps.find? (fun p=>p.1 == key) with
 | some p=>(p.2,true)
 | none=>(0,false)
def shSide (key : Int) (below : Bool) (p : Int × Int) : Bool:=if below then decide (p.1 < key) else decide (key < p.1)
theorem shVal_hit {ps : List (Int × Int)} {key : Int} {j : Nat} {x : Int × Int} (h : ∀ p ∈ ps.take j,p.1≠key) (hx : ps[j]? = some x) (hk : x.1 = key) : shVal ps key = (x.2,true):=by
 have hj:=(List.getElem?_eq_some_iff.1 hx).1;have he : ps = ps.take j ++ x :: ps.drop (j + 1):=by
  rw [<- (List.getElem?_eq_some_iff.1 hx).2,List.getElem_cons_drop,List.take_append_drop]
 unfold shVal;rw [he,List.find?_append,List.find?_eq_none.2 (fun p hp=>by simpa using h p hp)];simp [hk]
theorem shVal_miss {ps : List (Int × Int)} {key : Int} (h : ∀ p ∈ ps,p.1≠key) : shVal ps key = (0,false):=by
 unfold shVal;rw [List.find?_eq_none.2 (fun p hp=>by simpa using h p hp)]
def shLo (ps : List (Int × Int)) (key : Int) : List (Int × Int):=ps.filter (shSide key true)
def shHi (ps : List (Int × Int)) (key : Int) : List (Int × Int):=ps.filter (shSide key false)
def shPut (ps : List (Int × Int)) (key value : Int) : List (Int × Int):=shLo ps key ++ [(key,value)] ++ shHi ps key
def shDel (ps : List (Int × Int)) (key : Int) : List (Int × Int):=shLo ps key ++ shHi ps key
def shUpd (ps : List (Int × Int)) (kind key : Int) : Bool:=(kind == 1 && !(shVal ps key).2) || (kind == 2 && (shVal ps key).2)
def shAns (ps : List (Int × Int)) (kind key : Int) (spans : List (Int × Int)) : BAns :=
 if kind = 4 then answerOf spans ps 0
 else if kind = 3 then { did:=(shVal ps key).2,value:=(shVal ps key).1 }
 else if shUpd ps kind key then { did:=true,value:=if kind = 2 then (shVal ps key).1 else 0 }
 else {}
def shNew (ps : List (Int × Int)) (kind key value : Int) : List (Int × Int) :=
 if shUpd ps kind key then (if kind = 1 then shPut ps key value else shDel ps key) else ps
def own00 : Own:=fun _=>⟨0,.store⟩
end
section
open Go.RowKit
section
variable {w w1 : World} {i : Nat}
theorem ActIn.keep {sa : Option Addr} {a : ActD} (h : ActIn w sa i a) (hf : Fr (fun _=>False) w w1) : ActIn w1 sa i a:=by
 obtain ⟨b,off,e,h1,h2,h3⟩:=h;exact ⟨b,off,e,fun j v hj=>hf.keepCell (h1 j v hj),h2.keep hf,h3⟩
end
end
section
open Go.RowKit
section
variable {own : Own} {z : Nat} {w w1 w' : World} {pb : Nat} {D D1 D2 : PlD} {i f k m s N b : Nat} {t : PThread} {J : PlD->Prop} {T Nn E L : Int}
end
end
section
open Go.RowKit
theorem fresh_nodes (nn : Nat) (es : List PEntry) (x : Int) : (⟨freshNodes nn,es⟩ : PMem).node x = if x = 0 then anchorNode else if x = 1 then endNode else PNode.zero:=by
 unfold PMem.node;have hl : (⟨freshNodes nn,es⟩ : PMem).hasNode x = true ↔ 0<=x/\x < nn + 2:=by
  unfold PMem.hasNode; rw [isIn_iff]; simp [freshNodes]; omega
 by_cases h : (⟨freshNodes nn,es⟩ : PMem).hasNode x = true
 ·rw [if_pos h];rw [hl] at h;by_cases h0 : x = 0
  ·subst h0; rfl
  ·rw [if_neg h0];by_cases h1 : x = 1
   ·subst h1; rfl
   ·rw [if_neg h1];obtain ⟨k,hk⟩ : ∃ k : Nat,x = k + 2:=⟨(x - 2).toNat,by omega⟩;have : x.toNat = k + 2:=by omega
    rw [this];show ((anchorNode :: endNode :: List.replicate nn PNode.zero)[k + 2]?).getD PNode.zero = _;simp only [List.getElem?_cons_succ];rw [List.getElem?_replicate];split <;> rfl
 ·rw [if_neg h];rw [hl] at h;rw [if_neg (by omega),if_neg (by omega)]
theorem fresh_seen (nn en : Nat) (he : 1<=en) : Wm (freshMem nn en)/\(freshMem nn en).ns.length = nn + 2/\(∀ x,(freshMem nn en).node x = if x = 0 then linked false 1 anchorNode else if x = 1 then endNode else PNode.zero)/\(∀ x,Pd (freshMem nn en) x = [])/\(∀ x s d,Sd (freshMem nn en) x s d ↔ x = 0/\s = 0/\d = 1):=by
 have hz : ∀ e ∈ List.replicate en PEntry.zero,e = PEntry.zero:=fun e he=>(List.mem_replicate.1 he).2
 obtain ⟨M0,hM0⟩ : ∃ M0 : PMem,M0 = ⟨freshNodes nn,List.replicate en PEntry.zero⟩:=⟨_,rfl⟩;have hn0 : ∀ x,M0.node x = if x = 0 then anchorNode else if x = 1 then endNode else PNode.zero:=fun x=>by rw [hM0]; exact fresh_nodes nn _ x
 have hw0 : Wm M0:=by
  refine ⟨by rw [hM0]; simp [freshNodes],?_,?_,?_⟩
  ·intro e he _; rw [hM0] at he; exact hz e he
  ·intro e he; rw [hM0] at he; rw [hz e he]; rfl
  ·intro x hx;rw [hn0] at hx ⊢;by_cases h0 : x = 0
   ·rw [if_pos h0] at hx; exact nomatch hx
   ·rw [if_neg h0] at hx ⊢;by_cases h1 : x = 1
    ·rw [if_pos h1] at hx; exact nomatch hx
    ·rw [if_neg h1]
 have hp0 : ∀ x,Pd M0 x = []:=by
  intro x;rw [hM0];unfold Pd;rw [List.filter_eq_nil_iff.2]
  ·rfl
  ·intro e he; rw [hz e he,isPd_z]; decide
 have hs0 : ∀ x s d,¬ Sd M0 x s d:=by
  rintro x s d ⟨e,he,h1,_⟩;rw [hM0] at he;rw [hz e he,isSt_z] at h1; cases h1
 have hr0 : 0 < M0.room.2:=by
  rw [hM0];unfold PMem.room;simp only;have : count (fun x : PEntry=>!x.used) (List.replicate en PEntry.zero) = en:=by
   unfold count;rw [List.filter_eq_self.2]
   ·simp
   ·intro e he; rw [hz e he]; rfl
  rw [this]; omega
 obtain ⟨g1,g2,g3,g4,g5,_⟩:=addLink_e (n:=0) (to:=1) hw0 (by rw [hn0,if_pos rfl]; rfl) (by rw [hn0,if_pos rfl]; rfl) (hp0 0) hr0;have hfm : freshMem nn en = (M0.addLink 0 1).stampNew 0 0:=by rw [hM0]; rfl
 generalize M0.addLink 0 1 = M1 at *;obtain ⟨s1,s2,s3,s4⟩:=stamp_e (n:=0) (d:=1) 0 g2 (by rw [g4,if_pos rfl]);have hfm2 : freshMem nn en = M1.stamp 0 false 0:=by
  rw [hfm];unfold PMem.stampNew;rw [stamp_no s2]
 rw [hfm2];refine ⟨s2,?_,?_,?_,?_⟩
 ·rw [s1,g1,hM0]; simp [freshNodes]
 ·intro x;rw [node_ns s1,g3];split
  ·rw [hn0,if_pos rfl]
  ·next h=>rw [hn0,if_neg h]
 ·intro x;rw [s3];split
  ·rfl
  ·next h=>rw [g4,if_neg h]; exact hp0 x
 ·intro x s d;rw [s4,g5];constructor
  ·rintro (h | h)
   ·exact absurd h (hs0 x s d)
   ·exact h
  ·exact .inr
theorem inv_fresh {T N E L : Int} (hE : 1<=E) : Inv (fun x=>x = 0) (freshP 0 T N E L)/\(freshP 0 T N E L).mem.ns.length = N.toNat + 2:=by
 obtain ⟨hw,hl,hn,hp,hs⟩:=fresh_seen N.toNat E.toNat (by omega);have hm : (freshP 0 T N E L).mem = freshMem N.toNat E.toNat:=rfl;refine ⟨⟨rfl,hw,?_,?_,?_,?_⟩,hl⟩
 all_goals (try rw [hm]); generalize freshMem N.toNat E.toNat = M at *
 ·have n0 : M.node 0 = linked false 1 anchorNode:=by rw [hn,if_pos rfl]
  have n1 : M.node 1 = endNode:=by rw [hn,if_neg (by decide),if_pos rfl]
  have nd : ∀ x,(M.node x).dead = false:=by
   intro x; rw [hn]; split
   ·rfl
   ·split <;> rfl
  have nr : ∀ x,(M.node x).retired = false:=by
   intro x; rw [hn]; split
   ·rfl
   ·split <;> rfl
  refine ⟨⟨rfl,nd 0⟩,⟨by decide,by simp only [Us]; rw [n1]; rfl,by rw [n1]; rfl,nd 1,nr 1,by simp only [Ky]; rw [n1]; rfl⟩,?_,?_,?_,?_,?_,?_⟩
  ·rintro x rfl;refine ⟨by simp only [Us]; rw [n0]; rfl,by rw [n0]; rfl,nr 0,?_,?_,.inl rfl⟩
   ·left; simp only [Ld]; rw [n0]; rfl
   ·simp only [Ld]; rw [n0]; decide
  ·intro x hx h0 h1;simp only [Us] at hx;rw [hn,if_neg h0,if_neg h1] at hx;exact nomatch hx
  ·intro x y hx hy _; exact hx.trans hy.symm
  ·intro x hx; simp only [De] at hx; rw [nd] at hx; cases hx
  ·intro x hx; simp only [Re] at hx; rw [nr] at hx; cases hx
  ·intro x hx; simp only [De] at hx; rw [nd] at hx; cases hx
 ·have n0 : M.node 0 = linked false 1 anchorNode:=by rw [hn,if_pos rfl]
  have nr : ∀ x,(M.node x).retired = false:=by
   intro x; rw [hn]; split
   ·rfl
   ·split <;> rfl
  refine ⟨?_,?_,?_,?_,?_⟩
  ·intro x s d h;obtain ⟨rfl,rfl,rfl⟩:=(hs x s d).1 h;exact ⟨by simp only [Us]; rw [n0]; rfl,by decide,by decide,Int.le_refl _,by decide,.inl rfl,.inl rfl⟩
  ·intro x d h; rw [hp] at h; cases h
  ·intro x s d h;obtain ⟨rfl,rfl,rfl⟩:=(hs x s d).1 h;left; simp only [Ld]; rw [n0]; rfl
  ·intro x s d _ hr; simp only [Re] at hr; rw [nr] at hr; cases hr
  ·intro h;have : (0 : Nat) = _:=h;omega
 ·have nd : ∀ x,(M.node x).dead = false:=by
   intro x; rw [hn]; split
   ·rfl
   ·split <;> rfl
  refine ⟨?_,?_,?_,?_,?_,?_,⟨Int.le_refl _,Int.le_refl _⟩,Nat.zero_le _,fun _=>⟨rfl,rfl⟩⟩
  ·intro x hx;by_cases h0 : x = 0
   ·exact .inr (.inl h0)
   ·by_cases h1 : x = 1
    ·exact .inl h1
    ·simp only [Us] at hx;rw [hn,if_neg h0,if_neg h1] at hx;exact nomatch hx
  ·intro x hx; simp only [De] at hx; rw [nd] at hx; cases hx
  ·intro x hx; simp only [De] at hx; rw [nd] at hx; cases hx
  ·intro x hx;left;simp only [Ho,Us] at hx ⊢;rw [hn] at hx ⊢;by_cases h0 : x = 0
   ·rw [if_pos h0]; rfl
   ·rw [if_neg h0] at hx ⊢;by_cases h1 : x = 1
    ·rw [if_pos h1]; rfl
    ·rw [if_neg h1] at hx; exact nomatch hx
  ·intro i j t u x hi _ hf _;have : t = PThread.zero:=(List.mem_replicate.1 (List.mem_of_getElem? hi)).2;rw [this] at hf; exact nomatch hf.1
  ·rintro x ⟨n,h,_⟩; cases h
 ·intro i t ht;have htz : t = PThread.zero:=(List.mem_replicate.1 (List.mem_of_getElem? ht)).2;subst htz;have nb : ∀ {p : Prop},PThread.zero.busy = true->p:=fun b=>nomatch b
  refine Th.of6 nb nb nb nb rfl nb ?_ nb nb nb nb nb nb nb nb nb nb nb;intro x hx;constructor
  ·intro h;exfalso;simp only [Ho,Us] at h hx;rw [hn] at h hx;by_cases h0 : x = 0
   ·rw [if_pos h0] at h;have : (-1 : Int) = i:=h;omega
   ·rw [if_neg h0] at h hx;by_cases h1 : x = 1
    ·rw [if_pos h1] at h;have : (-1 : Int) = i:=h;omega
    ·rw [if_neg h1] at hx; exact nomatch hx
  ·rintro ⟨h,_⟩; exact nomatch h
theorem count_flip {α : Type} (p : α->Bool) : ∀ {l : List α} {k : Nat} {x : α} (y : α),l[k]? = some x->count p l + (if p y then 1 else 0) = count p (l.set k y) + (if p x then 1 else 0)
 | [],k,x,y,h=>by simp at h
 | z :: r,0,x,y,h=>by
  simp at h; subst h;unfold count;rw [List.set_cons_zero,List.filter_cons,List.filter_cons];by_cases h1 : p z = true <;> by_cases h2 : p y = true <;> simp [h1,h2] <;> omega
 | z :: r,k + 1,x,y,h=>by
  have ih:=count_flip p (l:=r) (k:=k) (x:=x) y (by simpa using h);unfold count at *;rw [List.set_cons_succ,List.filter_cons,List.filter_cons];by_cases h1 : p z = true
  ·simp only [h1,if_true,List.length_cons]; omega
  ·simp only [h1,if_false,Bool.false_eq_true]; exact ih
theorem greatest_le (B : Int) : ∀ (l : List (Int × Int)) (m : Int),m<=B->(∀ p ∈ l,p.2<=B)->l.foldl (fun m p=>if p.2 > m then p.2 else m) m<=B
 | [],m,hm,_=>hm
 | p :: l,m,hm,h=>by
  rw [List.foldl_cons];refine greatest_le B l _ ?_ (fun q hq=>h q (by simp [hq]))
  have:=h p (by simp)
  split <;> omega
theorem spansOkX_hi : ∀ (l : List (Int × Int)),spansOkX l = true->∀ p ∈ l,p.2<=1099511627776
 | [],_,p,hp=>by cases hp
 | q :: l,h,p,hp=>by
  unfold spansOkX at h;simp only [Bool.and_eq_true,isIn_iff,decide_eq_true_eq] at h;rcases List.mem_cons.1 hp with rfl | hp
  ·have:=h.2.1.2; omega
  ·exact spansOkX_hi l h.2.2.2 p hp
theorem newWork_ok {kd ky va : Int} {sp : List (Int × Int)} (h : properB kd ky sp = true) : (newWork kd ky va sp).next = 1/\(newWork kd ky va sp).kind = kd/\(kd = 1\/kd = 2\/kd = 3\/kd = 4)/\(newWork kd ky va sp).locks = 0/\(newWork kd ky va sp).made = []/\(kd≠4->0<=(newWork kd ky va sp).key/\(newWork kd ky va sp).key<=1099511627776/\(newWork kd ky va sp).key = ky)/\(kd = 4->greatestHi (newWork kd ky va sp).spans<=1099511627776/\(newWork kd ky va sp).links = [(0,false)]/\(newWork kd ky va sp).spans = sp)/\(kd≠4->(newWork kd ky va sp).links = [])/\(kd = 1->(newWork kd ky va sp).value = va):=by
 have h0 : checkOp kd ky sp = 0:=of_decide_eq_true h;unfold checkOp at h0;by_cases h1 : kd = 1\/kd = 2\/kd = 3
 ·rw [if_pos h1] at h0;have hk : isIn ky 0 (2 ^ 40) = true:=by
   cases hh : isIn ky 0 (2 ^ 40)
   ·rw [hh] at h0; exact absurd h0 (by decide)
   ·rfl
  rw [isIn_iff] at hk;rcases h1 with e | e | e <;> subst e <;> simp [newWork,PWork.zero] <;> omega
 ·rw [if_neg h1] at h0;by_cases h4 : kd = 4
  ·subst h4;rw [if_pos rfl] at h0;have hk : (isIn sp.length 1 16 && spansOkX sp) = true:=by
    cases hh : (isIn sp.length 1 16 && spansOkX sp)
    ·rw [hh] at h0; exact absurd h0 (by decide)
    ·rfl
   rw [Bool.and_eq_true] at hk;refine ⟨rfl,rfl,.inr (.inr (.inr rfl)),rfl,rfl,fun e=>absurd rfl e,fun _=>⟨?_,rfl,rfl⟩,fun e=>absurd rfl e,fun e=>by cases e⟩;show greatestHi sp<=_;exact greatest_le _ sp 0 (by decide) (spansOkX_hi sp hk.2)
  ·rw [if_neg h4] at h0; exact absurd h0 (by decide)
section
variable {D D' : PlD} {i : Nat} {t : PThread} {o : OpV} {T N E L : Int}
theorem ok_begin (hok : D.ok) (hB : Begun D i t o D') : D'.ok:=by
 have hok' : D.bs = D.P.ts.map (·.busy):=hok;show D'.bs = D'.P.ts.map (·.busy);by_cases hh : t.busy = true\/properB o.kind o.key o.spans = false
 ·obtain ⟨q1,q2,_⟩:=hB.no hh;rw [q1,q2]; exact hok'
 ·simp only [not_or,Bool.not_eq_true,Bool.not_eq_false] at hh;obtain ⟨q1,q2,_⟩:=hB.yes hh.1 hh.2;rw [q1,q2,hok'];unfold PSt.setT;rw [List.map_set]
theorem cfg_trans {a b : PlD} (h : b.k = a.k/\b.t = a.t/\b.n = a.n/\b.e = a.e/\b.l = a.l) (g : a.k = 0/\a.t = T/\a.n = N/\a.e = E/\a.l = L) : b.k = 0/\b.t = T/\b.n = N/\b.e = E/\b.l = L:=by
 obtain ⟨a1,a2,a3,a4,a5⟩:=h;obtain ⟨b1,b2,b3,b4,b5⟩:=g;exact ⟨a1.trans b1,a2.trans b2,a3.trans b3,a4.trans b4,a5.trans b5⟩
theorem inv_begin {C : Int->Prop} (h : Inv C D.P) (ht : D.P.ts[i]? = some t) (hB : Begun D i t o D') : Inv C D'.P/\D'.P.mem = D.P.mem:=by
 by_cases hh : t.busy = true\/properB o.kind o.key o.spans = false
 ·obtain ⟨q1,_⟩:=hB.no hh;rw [q1]; exact ⟨h,rfl⟩
 ·simp only [not_or,Bool.not_eq_true,Bool.not_eq_false] at hh;obtain ⟨q1,_⟩:=hB.yes hh.1 hh.2;rw [q1];obtain ⟨w1,w2,w3,w4,w5,w6,w7,w8,_⟩:=newWork_ok (va:=o.value) hh.2;exact ⟨h.begin ht hh.1 w1 (by rw [w2]; exact w3) w4 w5 (fun e=>by rw [w2] at e; exact ⟨(w6 e).1,(w6 e).2.1⟩) (fun e=>by rw [w2] at e; exact ⟨(w7 e).1,(w7 e).2.1⟩) (fun e=>by rw [w2] at e; exact w8 e),rfl⟩
end
end
section
section
variable {C : Int->Prop} {b b' : Int->Int} {a a' : ASt} {P : PSt} {i : Nat} {t t' : PThread} {M' : PMem} {c' : Int} {k ak ak' : PWork}
theorem Abs.gone (h : Abs b a P) (ht : P.ts[i]? = some t) (hk : ¬ Upd t') : Abs b { a with th:=fun j=>if j = i then none else a.th j } { P with ts:=P.ts.set i t' }:=by
 have hi:=(List.getElem?_eq_some_iff.1 ht).1;refine ⟨h.ck,h.b0,h.b1,h.lt,h.inj,h.nd,?_,?_⟩
 ·intro j u hj hup;have hj' : (P.ts.set i t')[j]? = some u:=hj;rw [List.getElem?_set] at hj';by_cases e : i = j
  ·subst e;simp [hi] at hj'; subst hj';exact absurd hup hk
  ·rw [if_neg e] at hj';show ∃ ak,(if j = i then none else a.th j) = _/\_;rw [if_neg (fun q=>e q.symm)];exact h.up j u hj' hup
 ·intro j u hj hup;have hj' : (P.ts.set i t')[j]? = some u:=hj;rw [List.getElem?_set] at hj';show (if j = i then none else a.th j) = none;by_cases e : j = i
  ·rw [if_pos e]
  ·rw [if_neg (fun q=>e q.symm)] at hj';rw [if_neg e];exact h.no j u hj' hup
theorem Abs.aside (h : Abs b a P) (ht : P.ts[i]? = some t) (h0 : ¬ Upd t) (hk : ¬ Upd t') : Abs b a { P with ts:=P.ts.set i t' }:=by
 have:=h.gone ht hk
 have e : ({ a with th:=fun j=>if j = i then none else a.th j } : ASt) = a:=by
  have : (fun j=>if j = i then none else a.th j) = a.th:=by
   funext j
   split
   ·next e=>rw [e]; exact (h.no i t ht h0).symm
   ·rfl
  rw [this]
 rw [e] at this;exact this
theorem Abs.s13 (h : Abs b a P) (ht : P.ts[i]? = some t) (hw : RW b t.work ak) (hn : t.work.next = 13) : Stp b a ak P i t:=by
 have hnx:=hw.next
 rw [hn] at hnx;refine Stp.of (P':=P.setT i t.leave) (n:=3) (by unfold PSt.step; simp only [hn]) (by unfold astep; simp only [hnx]; rfl) ?_;exact h.gone ht (fun q=>nomatch q.1)
theorem Abs.step (h : Abs b a P) (hI : Inv C P) (ht : P.ts[i]? = some t) (hu : Upd t) (hw : RW b t.work ak) (hr : t.work.next = 7->¬ (P.mem.room.1 < (P.needs t.work.kind).1\/P.mem.room.2 < (P.needs t.work.kind).2)) (hl : t.work.next = 8->¬ P.limit<=P.clock) : ∃ b',Stp b' a ak P i t:=by
 have hnx:=(hI.th i t ht).nx hu.1;rcases (show (1<=t.work.next/\t.work.next<=3)\/t.work.next = 4\/t.work.next = 5\/t.work.next = 6\/t.work.next = 7\/t.work.next = 8\/t.work.next = 9\/t.work.next = 10\/t.work.next = 11\/t.work.next = 12\/t.work.next = 13 by omega) with e | e | e | e | e | e | e | e | e | e | e
 ·exact ⟨b,h.s123 ht hu hw e.1 e.2⟩
 ·exact ⟨b,h.s4 hI ht hu hw e⟩
 ·exact ⟨b,h.s5 hI ht hu hw e⟩
 ·exact ⟨b,h.s6 hI ht hu hw e⟩
 ·exact h.s7 hI ht hu hw e (hr e)
 ·exact ⟨b,h.s8 hI ht hu hw e (hl e)⟩
 ·exact ⟨b,h.s9 hI ht hu hw e⟩
 ·exact ⟨b,h.s10 hI ht hu hw e⟩
 ·exact ⟨b,h.s11 ht hu hw e⟩
 ·exact ⟨b,h.s12 hI ht hu hw e⟩
 ·exact ⟨b,h.s13 ht hw e⟩
theorem Abs.read (h : Abs b a P) (hI : Inv C P) (ht : P.ts[i]? = some t) (hb : t.busy = true) (hk : t.work.kind = 3\/t.work.kind = 4) : Abs b a (P.step i t).1:=by
 have hu : ¬ Upd t:=fun q=>by have:=q.2; omega
 have hnx:=(hI.th i t ht).nx hb;have hrd:=(hI.th i t ht).rd hb hk;have no : ∀ w : PThread,w.work.kind = t.work.kind->¬ Upd w:=fun w e q=>by have:=q.2; rw [e] at this; omega
 rcases (show t.work.next = 1\/t.work.next = 2\/t.work.next = 3\/t.work.next = 13\/t.work.next = 4 by omega) with hn | hn | hn | hn | hn
 ·have hs : P.step i t = (P.setT i { t with slot:=1,work:={ t.work with next:=2 } },1):=by unfold PSt.step; simp only [hn]
  rw [hs]; exact h.aside ht hu (no _ rfl)
 ·have hs : P.step i t = (P.setT i { t with work:={ t.work with time:=P.clock,next:=3 } },1):=by unfold PSt.step; simp only [hn]
  rw [hs]; exact h.aside ht hu (no _ rfl)
 ·have hs : P.step i t = (P.setT i { t with slot:=2,work:=t.work.home },1):=by unfold PSt.step; simp only [hn]
  rw [hs]; exact h.aside ht hu (no _ rfl)
 ·have hs : P.step i t = (P.setT i t.leave,3):=by unfold PSt.step; simp only [hn]
  rw [hs]; exact h.aside ht hu (fun q=>nomatch q.1)
 ·have hsm:=step_mid (i:=i) (t:=t) P (by omega) (by omega);rw [if_pos hk] at hsm;rw [hsm];unfold PSt.read;simp only;split
  ·exact h
  ·rw [setW_to P ht];refine h.aside ht hu (no _ ?_);show (if t.work.kind = 3 then _ else _ : PWork).kind = t.work.kind;split
   ·unfold PSt.lookUp; split <;> rfl
   ·unfold PSt.scan; simp only; split <;> rfl
theorem Abs.beginU (h : Abs b a P) (ht : P.ts[i]? = some t) {k : PWork} (hk : k.kind = 1\/k.kind = 2) (h1 : k.next = 1) : Abs b (a.put i k) { P with ts:=P.ts.set i { t with busy:=true,work:=k } }:=by
 refine h.same ht ⟨rfl,hk⟩ ⟨rfl,rfl,rfl,rfl,rfl,rfl,fun q=>?_,fun q=>?_,fun _ q=>?_⟩
 ·have : 4<=k.next:=q; omega
 ·have : 5<=k.next:=q; omega
 ·have : k.next = 8\/k.next = 10:=q; omega
theorem Abs.beginR (h : Abs b a P) (ht : P.ts[i]? = some t) (hb : t.busy = false) {k : PWork} (hk : k.kind = 3\/k.kind = 4) : Abs b a { P with ts:=P.ts.set i { t with busy:=true,work:=k } } :=
 h.aside ht (fun q=>by have h1:=q.1; rw [hb] at h1; exact nomatch h1) (fun q=>by have : k.kind = 1\/k.kind = 2:=q.2; omega)
theorem Abs.nodes (h : Abs b a P) {P' : PSt} (hc : P'.clock = P.clock) (hts : P'.ts = P.ts) (hn : ∀ x,Us P'.mem x->P'.mem.node x = P.mem.node x) : Abs b a P':=by
 have hu : ∀ x,Us P'.mem x->Us P.mem x:=fun x hx=>by have:=hn x hx; simp only [Us] at *; rw [<- this]; exact hx
 refine ⟨by rw [hc]; exact h.ck,h.b0,h.b1,fun x hx=>h.lt x (hu x hx),fun x y hx hy=>h.inj x y (hu x hx) (hu y hy),fun x hx=>?_,by rw [hts]; exact h.up,by rw [hts]; exact h.no⟩
 have:=h.nd x (hu x hx)
 unfold Seen at *;simp only [Ky,Ho,Ld] at *;rw [hn x hx]; exact this
theorem Abs.sweep (h : Abs b a P) (hI : Inv C P) : Abs b a P.doSweep.1:=by
 unfold PSt.doSweep;simp only;split
 ·exact h.nodes rfl rfl (fun _ _=>rfl)
 ·split
  ·split
   ·exact h
   ·exact h.nodes rfl rfl (fun _ _=>rfl)
  ·split
   ·exact h.nodes rfl rfl (fun x _=>node_ns (drop_ok hI.wm _).1 x)
   ·refine h.nodes rfl rfl (fun x hx=>?_);have hl : ∀ n ∈ P.sweep.retired,P.mem.hasNode (n : Int) = true/\(n : Int)≠0/\(n : Int)≠1:=by
     intro n hn;obtain ⟨r1,r2⟩:=hI.o.sw n ⟨n,hn,rfl⟩;obtain ⟨m1,m2,_⟩:=hI.n.mr _ r1;refine ⟨hasN_used (hI.n.md _ m1).1,fun e=>?_,fun e=>?_⟩
     ·rw [e] at m2; exact m2 hI.n.a0.1
     ·rw [e] at m1; simp only [De] at m1; rw [hI.n.a1.2.2.2.1] at m1; cases m1
    obtain ⟨_,_,hx2⟩:=freesIf_ok P.sweep.hasTime P.sweep.time P.sweep.retired P.mem hI.wm hl;by_cases hg : Gone P.mem P.sweep.hasTime P.sweep.time P.sweep.retired x
    ·have:=((hx2 x).1 hg).1
     have hx' : ((P.mem.freesIf P.sweep.hasTime P.sweep.time P.sweep.retired).node x).used = true:=hx;rw [this] at hx';exact nomatch hx'
    ·exact ((hx2 x).2 hg).1
theorem abs_fresh {T N E L : Int} (hE : 1<=E) : ∃ a,Abs id a (freshP 0 T N E L)/\a.cnt = 2/\a.clock = 0/\∀ (T' : Int),Abs id a (freshP 0 T' N E L):=by
 obtain ⟨hw,hl,hn,hp,hs⟩:=fresh_seen N.toNat E.toNat (by omega);have key : ∀ T' : Int,Abs id ⟨fun x=>⟨Ky (freshMem N.toNat E.toNat) x,((freshMem N.toNat E.toNat).node x).value,((freshMem N.toNat E.toNat).node x).dead,Ld (freshMem N.toNat E.toNat) x,Ho (freshMem N.toNat E.toNat) x⟩,2,0,fun _=>none⟩ (freshP 0 T' N E L):=by
  intro T';have hm : (freshP 0 T' N E L).mem = freshMem N.toNat E.toNat:=rfl;refine ⟨rfl,rfl,rfl,fun x hx=>?_,fun x y _ _ e=>e,fun x hx=>?_,fun j t hj hu=>?_,fun _ _ _ _=>rfl⟩
  ·rw [hm] at hx;have hx' : ((freshMem N.toNat E.toNat).node x).used = true:=hx;rw [hn] at hx';show x < 2;split at hx'
   ·omega
   ·split at hx'
    ·omega
    ·exact nomatch hx'
  ·exact ⟨rfl,rfl,rfl,rfl,fun _=>rfl⟩
  ·have hz : t = PThread.zero:=(List.mem_replicate.1 (List.mem_of_getElem? hj)).2;rw [hz] at hu;exact nomatch hu.1
 exact ⟨_,key T,rfl,rfl,key⟩
end
end
end Go.Proofs.YtfccelbmacjifabGreat
