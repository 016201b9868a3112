import Derived.Test.YtfccelbmacjifabGreatP0
import Derived.Test.YtfccelbmacjifabGreatP26
set_option linter.unusedSimpArgs false
set_option maxRecDepth 100000
set_option maxHeartbeats 4000000
namespace Go.Proofs.YtfccelbmacjifabGreat
section
def SameOp (t t' : PThread) : Prop:=t'.work.kind = t.work.kind/\t'.work.key = t.work.key/\t'.work.value = t.work.value/\t'.work.spans = t.work.spans
theorem setW_at {i : Nat} {t : PThread} (P : PSt) (ht : P.ts[i]? = some t) (k : PWork) : P.setW i k = { P with ts:=P.ts.set i { t with work:=k } }:=by
 unfold PSt.setW
 congr 1
 apply List.ext_getElem?;intro j;rw [List.getElem?_modify,List.getElem?_set];by_cases e : i = j
 ·subst e;obtain ⟨h1,h2⟩:=List.getElem?_eq_some_iff.1 ht;simp [h1,h2]
 ·simp [e]
structure Kin where
 κ : Int
 hκ : κ = 0\/κ = 1
 Pot : Nat->PSt->Nat->Prop
 kind : ∀ {N n : Nat} {P : PSt},Pot N P n->P.kind = κ
 move : ∀ {N n i : Nat} {P : PSt} {t : PThread},Pot N P n->P.ts[i]? = some t->t.busy = true->(P.step i t).2≠2->∃ n',n' + 1<=n/\Pot N (P.step i t).1 n'
 wait : ∀ {N n i : Nat} {P : PSt} {t : PThread},Pot N P n->P.ts[i]? = some t->t.busy = true->(P.step i t).2 = 2->(P.step i t).1 = P
 live : ∀ {N n i : Nat} {P : PSt} {t : PThread},Pot N P n->P.ts[i]? = some t->t.busy = true->∃ (j : Nat) (u : PThread),P.ts[j]? = some u/\u.busy = true/\(P.step j u).2≠2/\(j = i\/u.work.kind = 1\/u.work.kind = 2)
 bound : ∀ {N n : Nat} {P : PSt},Pot N P n->Pot N P (P.ts.length * ((P.ts.length + 2) * (N + 16)))
 beg : ∀ {N n i : Nat} {P : PSt} {t : PThread} {kd ky va : Int} {sp : List (Int × Int)},Pot N P n->P.ts[i]? = some t->t.busy = false->properB kd ky sp = true->∃ n',Pot N (P.setT i { t with busy:=true,work:=newWork kd ky va sp }) n'
 swp : ∀ {N n : Nat} {P : PSt},Pot N P n->∃ n',Pot N P.doSweep.1 n'
 new : ∀ {T N E L : Int},1<=E->∃ n,Pot N.toNat (freshP κ T N E L) n
section
variable {K : Kin} {i j : Nat} {t : PThread} {P : PSt} {L : Nat} {D D' : PlD}
theorem step_work (ht : P.ts[i]? = some t) (hb : t.busy = true) : ∃ t',(P.step i t).1.ts = P.ts.set i t'/\((P.step i t).2 = 3->t'.busy = false)/\((P.step i t).2≠3->t'.busy = true/\SameOp t t'/\t'.hasEnded = t.hasEnded/\t'.last = t.last):=by
 have same : P.ts.set i t = P.ts:=by
  apply List.ext_getElem?;intro j;rw [List.getElem?_set];split
  ·next e=>subst e; split <;> simp_all
  ·rfl
 have fin : ∀ (Q : PSt) (k : PWork),Q.ts = P.ts->k.kind = t.work.kind->k.key = t.work.key->k.value = t.work.value->k.spans = t.work.spans->∀ n : Int,n≠3->∃ t',(Q.setW i k,n).1.ts = P.ts.set i t'/\((Q.setW i k,n).2 = 3->t'.busy = false)/\((Q.setW i k,n).2≠3->t'.busy = true/\SameOp t t'/\t'.hasEnded = t.hasEnded/\t'.last = t.last):=by
  intro Q k hQ h1 h2 h3 h4 n hn;refine ⟨{ t with work:=k },?_,fun e=>absurd e hn,fun _=>⟨hb,⟨h1,h2,h3,h4⟩,rfl,rfl⟩⟩;show (Q.setW i k).ts = _;rw [setW_at Q (t:=t) (by rw [hQ]; exact ht) k,hQ]
 have stay : ∀ n : Int,n≠3->∃ t',(P,n).1.ts = P.ts.set i t'/\((P,n).2 = 3->t'.busy = false)/\((P,n).2≠3->t'.busy = true/\SameOp t t'/\t'.hasEnded = t.hasEnded/\t'.last = t.last) :=
  fun n hn=>⟨t,same.symm,fun e=>absurd e hn,fun _=>⟨hb,⟨rfl,rfl,rfl,rfl⟩,rfl,rfl⟩⟩
 unfold PSt.step;split
 ·exact ⟨_,rfl,fun e=>absurd e (by show ¬ (1 : Int) = 3; decide),fun _=>⟨hb,⟨rfl,rfl,rfl,rfl⟩,rfl,rfl⟩⟩
 ·exact ⟨_,rfl,fun e=>absurd e (by show ¬ (1 : Int) = 3; decide),fun _=>⟨hb,⟨rfl,rfl,rfl,rfl⟩,rfl,rfl⟩⟩
 ·exact ⟨_,rfl,fun e=>absurd e (by show ¬ (1 : Int) = 3; decide),fun _=>⟨hb,⟨rfl,rfl,rfl,rfl⟩,rfl,rfl⟩⟩
 ·exact ⟨_,rfl,fun _=>rfl,fun e=>absurd rfl e⟩
 ·split
  ·unfold PSt.read;simp only;split
   ·exact stay 2 (by decide)
   ·split
    ·refine fin P _ rfl ?_ ?_ ?_ ?_ 1 (by decide) <;> (unfold PSt.lookUp; split <;> rfl)
    ·refine fin P _ rfl ?_ ?_ ?_ ?_ 1 (by decide) <;> (unfold PSt.scan; simp only; split <;> rfl)
  ·unfold PSt.update;split
   ·refine fin P _ rfl ?_ ?_ ?_ ?_ 1 (by decide) <;> (unfold PSt.walk; split <;> rfl)
   ·unfold PSt.lock;split
    ·split
     ·refine fin _ _ ?_ ?_ ?_ ?_ ?_ 1 (by decide) <;> rfl
     ·exact stay 2 (by decide)
    ·refine fin _ _ ?_ ?_ ?_ ?_ ?_ 1 (by decide) <;> rfl
   ·unfold PSt.check;split
    ·refine fin _ _ ?_ ?_ ?_ ?_ ?_ 1 (by decide) <;> rfl
    ·split
     ·refine fin _ _ ?_ ?_ ?_ ?_ ?_ 1 (by decide) <;> rfl
     ·refine fin _ _ ?_ ?_ ?_ ?_ ?_ 1 (by decide) <;> rfl
   ·unfold PSt.prepare;split
    ·refine fin _ _ ?_ ?_ ?_ ?_ ?_ 1 (by decide) <;> rfl
    ·have hpp : ∀ pp : PMem × PWork,pp.2.kind = t.work.kind/\pp.2.key = t.work.key/\pp.2.value = t.work.value/\pp.2.spans = t.work.spans->∃ t',(((P.setM pp.1).setW i { pp.2 with next:=8 },(1 : Int)) : PSt × Int).1.ts = P.ts.set i t'/\(((((P.setM pp.1).setW i { pp.2 with next:=8 },(1 : Int)) : PSt × Int)).2 = 3->t'.busy = false)/\(((((P.setM pp.1).setW i { pp.2 with next:=8 },(1 : Int)) : PSt × Int)).2≠3->t'.busy = true/\SameOp t t'/\t'.hasEnded = t.hasEnded/\t'.last = t.last):=by
      rintro pp ⟨h1,h2,h3,h4⟩;exact fin (P.setM pp.1) { pp.2 with next:=8 } rfl h1 h2 h3 h4 1 (by decide)
     refine hpp (if t.work.kind = 1 then P.prepareInsert t.work else P.prepareRemove t.work) ?_;split
     ·unfold PSt.prepareInsert;simp only;split <;> exact ⟨rfl,rfl,rfl,rfl⟩
     ·unfold PSt.prepareRemove;simp only;split <;> exact ⟨rfl,rfl,rfl,rfl⟩
   ·unfold PSt.take;split
    ·refine fin _ _ ?_ ?_ ?_ ?_ ?_ 1 (by decide) <;> rfl
    ·simp only;split
     ·refine fin _ _ ?_ ?_ ?_ ?_ ?_ 1 (by decide) <;> rfl
     ·refine fin _ _ ?_ ?_ ?_ ?_ ?_ 1 (by decide) <;> rfl
   ·refine fin _ _ ?_ ?_ ?_ ?_ ?_ 1 (by decide) <;> rfl
   ·refine fin _ _ ?_ ?_ ?_ ?_ ?_ 1 (by decide) <;> rfl
   ·refine fin _ _ ?_ ?_ ?_ ?_ ?_ 1 (by decide) <;> rfl
   ·refine fin _ _ ?_ ?_ ?_ ?_ ?_ 1 (by decide) <;> rfl
   ·exact stay 1 (by decide)
theorem ok_step (hok : D.ok) (ht : D.P.ts[i]? = some t) (hb : t.busy = true) (hs : Stepped D i t D') : D'.ok:=by
 obtain ⟨t',h1,h2,h3⟩:=step_work ht hb;show D'.bs = D'.P.ts.map (·.busy);rw [hs.P,h1,hs.bs,List.map_set];have hok' : D.bs = D.P.ts.map (·.busy):=hok;split
 ·next e=>rw [h2 e,hok']
 ·next e =>
  rw [(h3 e).1,hok'];apply List.ext_getElem?;intro j;rw [List.getElem?_set];split
  ·next e=>subst e; rw [List.getElem?_map,ht]; simp [hb]; exact (List.getElem?_eq_some_iff.1 ht).1
  ·rfl
def Pot (K : Kin) (N : Nat) (D : PlD) (n : Nat) : Prop:=K.Pot N D.P n
theorem Pot.move {N n : Nat} (h : Pot K N D n) (ht : D.P.ts[i]? = some t) (hb : t.busy = true) (hs : Stepped D i t D') (hm : (D.P.step i t).2≠2) : ∃ n',n' + 1<=n/\Pot K N D' n':=by
 obtain ⟨n',h1,h2⟩:=K.move h ht hb hm;exact ⟨n',h1,by unfold Pot; rw [hs.P]; exact h2⟩
theorem Pot.wait {N n : Nat} (h : Pot K N D n) (ht : D.P.ts[i]? = some t) (hb : t.busy = true) (hs : Stepped D i t D') (hm : (D.P.step i t).2 = 2) : Pot K N D' n/\D'.P = D.P/\D'.bs = D.bs:=by
 have hP : D'.P = D.P:=by rw [hs.P,K.wait h ht hb hm]
 exact ⟨by unfold Pot; rw [hP]; exact h,hP,by rw [hs.bs,if_neg (by omega)]⟩
structure Plays (K : Kin) (f : Nat) (T N E L : Int) (J : PlD->Prop) : Prop where
 inv : ∀ {D},J D->∃ n,K.Pot N.toNat D.P n
 ok : ∀ {D},J D->D.ok
 cfg : ∀ {D},J D->D.k = K.κ/\D.t = T/\D.n = N/\D.e = E/\D.l = L
 step : ∀ {D D' : PlD} {i : Nat} {t : PThread},J D->Fit D.N D.P->D.P.ts[i]? = some t->t.busy = true->f<=i->Stepped D i t D'->J D'
 begin : ∀ {D D' : PlD} {i : Nat} {t : PThread} {o : OpV},J D->D.P.ts[i]? = some t->f<=i->Begun D i t o D'->J D'
 sweep : ∀ {D : PlD} (L' : ZLay),J D->J { D with L:=L',P:=D.P.doSweep.1 }
 low : ∀ {D : PlD} {i : Nat} {t : PThread},J D->i < f->D.P.ts[i]? = some t->t.busy = true->t.work.kind = 3\/t.work.kind = 4
def Sz (b : Nat) (D : PlD) : Prop:=D.N<=b/\D.deeds.length<=b/\0<=D.puts/\D.puts<=b/\0<=D.takes/\D.takes<=b
theorem Sz.mono {b b' : Nat} (h : Sz b D) (hb : b<=b') : Sz b' D:=by unfold Sz at *; omega
theorem Sz.step {b : Nat} (h : Sz b D) (hs : Stepped D i t D') : Sz (b + 1) D':=by
 have hd : D'.deeds.length<=D.deeds.length + 1:=by
  by_cases e : (D.P.step i t).2 = 3
  ·obtain ⟨av,o,f,_,_,q⟩:=hs.deeds.2 e;rw [q]; simp
  ·rw [hs.deeds.1 e]; omega
 unfold Sz at *;rw [hs.N,hs.cnt.1,hs.cnt.2]; omega
theorem Sz.begin {b : Nat} {o : OpV} (h : Sz b D) (hs : Begun D i t o D') : Sz (b + 1) D':=by
 have hc : (D'.puts = D.puts\/D'.puts = D.puts + 1)/\(D'.takes = D.takes\/D'.takes = D.takes + 1):=by
  by_cases hh : t.busy = true\/properB o.kind o.key o.spans = false
  ·obtain ⟨_,_,_,_,q1,q2⟩:=hs.no hh; exact ⟨.inl q1,.inl q2⟩
  ·simp only [not_or,Bool.not_eq_true,Bool.not_eq_false] at hh;obtain ⟨_,_,_,_,q1,q2⟩:=hs.yes hh.1 hh.2;rw [q1,q2];exact ⟨by split <;> omega,by split <;> omega⟩
 unfold Sz at *;rw [hs.N,hs.deeds]; omega
end
end
section
open Go.RowKit
structure Turning (K : Kin) (f N : Nat) (D : PlD) (k m s : Nat) (D1 : PlD) : Prop where
 pot : ∀ n,Pot K N D n->∃ n',n' + m<=n/\Pot K N D1 n'
 still : m = 0->D1.P = D.P/\∀ j u,f<=j->j < k->D.P.ts[j]? = some u->u.busy = true->(D.P.step j u).2 = 2
 none_ : s = 0->D1.P = D.P/\m = 0/\∀ j u,f<=j->j < k->D.P.ts[j]? = some u->u.busy = false
 some_ : s≠0->m = 0->∃ j u,f<=j/\D.P.ts[j]? = some u/\u.busy = true
 le : m<=k/\s<=k
section
variable {K : Kin} {own : Own} {z : Nat} {w w' : World} {pb : Nat} {D D1 D2 : PlD} {i f k m s N b : Nat} {t : PThread} {J : PlD->Prop} {T Nn E L : Int}
theorem Turning.start : Turning K f N D f 0 0 D:=⟨fun n h=>⟨n,by omega,h⟩,fun _=>⟨rfl,fun j u h1 h2=>by omega⟩,fun _=>⟨rfl,rfl,fun j u h1 h2=>by omega⟩,fun h=>absurd rfl h,by omega⟩
theorem Turning.skip (h : Turning K f N D k m s D1) (hk : D1.P.ts[k]? = some t) (hb : t.busy = false) : Turning K f N D (k + 1) m s D1:=by
 refine ⟨h.pot,?_,?_,h.some_,by have:=h.le; omega⟩
 ·intro hm;obtain ⟨h1,h2⟩:=h.still hm;refine ⟨h1,?_⟩;intro j u hj hjk hu hub;rcases (show j < k\/j = k by omega) with e | e
  ·exact h2 j u hj e hu hub
  ·subst e; rw [<- h1,hk] at hu; injection hu with hu; subst hu; rw [hb] at hub; cases hub
 ·intro hs;obtain ⟨h1,h2,h3⟩:=h.none_ hs;refine ⟨h1,h2,?_⟩;intro j u hj hjk hu;rcases (show j < k\/j = k by omega) with e | e
  ·exact h3 j u hj e hu
  ·subst e; rw [<- h1,hk] at hu; injection hu with hu; subst hu; exact hb
theorem Turning.wait (h : Turning K f N D k m s D1) (hf : f<=k) (hp : ∃ n,K.Pot N D1.P n) (hk : D1.P.ts[k]? = some t) (hb : t.busy = true) (hs : Stepped D1 k t D2) (h2 : (D1.P.step k t).2 = 2) : Turning K f N D (k + 1) m (s + 1) D2:=by
 obtain ⟨_,hC⟩:=hp;have hP2 : D2.P = D1.P:=by rw [hs.P,K.wait hC hk hb h2]
 refine ⟨?_,?_,fun e=>by omega,?_,by have:=h.le; omega⟩
 ·intro n hn;obtain ⟨n',q1,q2⟩:=h.pot n hn;exact ⟨n',q1,(q2.wait hk hb hs h2).1⟩
 ·intro hm;obtain ⟨g1,g2⟩:=h.still hm;refine ⟨hP2.trans g1,?_⟩;intro j u hj hjk hu hub;rcases (show j < k\/j = k by omega) with e | e
  ·exact g2 j u hj e hu hub
  ·subst e; rw [<- g1,hk] at hu; injection hu with hu; subst hu; rw [<- g1]; exact h2
 ·intro _ hm;obtain ⟨g1,_⟩:=h.still hm;exact ⟨k,t,hf,by rw [<- g1]; exact hk,hb⟩
theorem Turning.move (h : Turning K f N D k m s D1) (hk : D1.P.ts[k]? = some t) (hb : t.busy = true) (hs : Stepped D1 k t D2) (h2 : (D1.P.step k t).2≠2) : Turning K f N D (k + 1) (m + 1) (s + 1) D2:=by
 refine ⟨?_,fun e=>by omega,fun e=>by omega,fun _ e=>by omega,by have:=h.le; omega⟩;intro n hn;obtain ⟨n',q1,q2⟩:=h.pot n hn;obtain ⟨n'',q3,q4⟩:=q2.move hk hb hs h2;exact ⟨n'',by omega,q4⟩
theorem Turning.done (hJ : Plays K f T Nn E L J) (hj : J D) (h : Turning K f N D D.P.ts.length m s D1) (hm : m = 0) : s = 0:=by
 by_cases hs : s = 0
 ·exact hs
 ·exfalso;obtain ⟨j,u,h1,h2,h3⟩:=h.some_ hs hm;obtain ⟨_,hC⟩:=hJ.inv hj;obtain ⟨j',u',g1,g2,g3,g4⟩:=K.live hC h2 h3;have hf : f<=j':=by
   rcases Nat.lt_or_ge j' f with hlt | hge
   ·have hl:=hJ.low hj hlt g1 g2;rcases g4 with e | e
    ·omega
    ·omega
   ·exact hge
  exact g3 ((h.still hm).2 j' u' hf (List.getElem?_eq_some_iff.1 g1).1 g1 g2)
theorem Psteps_busy (h : PlAt own z w pb D) (hb : D.bs[i]? = some true) (ht : D.P.ts[i]? = some t) (htb : t.busy = true) (hN : D.N < 2 ^ 39) (hdl : D.deeds.length<=2 ^ 38) :
  Calls Tryz.prog 35 #[pv pb,.int .i64 i] w fun r w'=>r = .returned (.tuple #[.int .i64 (D.P.step i t).2,.bool true])/\PlGoes own z w pb w' (Stepped D i t):=by
 by_cases h3 : (D.P.step i t).2 = 3
 ·rw [h3]; exact Psteps_end h hb ht htb hN hdl h3
 ·exact Psteps_on h hb ht htb hN h3
theorem Pturn_calls (hJ : Plays K f T Nn E L J) (h : PlAt own z w pb D) (hj : J D) (hS : Sz b D) (hb : b<=2 ^ 37) (hf : (f : Int) < T) :
  Calls Tryz.prog 47 #[pv pb,.int .i64 f] w fun r w'=>∃ m s : Nat,r = .returned (.tuple #[.int .i64 m,.int .i64 s,.bool true])/\m<=8/\PlGoes own z w pb w' (fun D1=>J D1/\Sz (b + 8) D1/\Turning K f Nn.toNat D D.P.ts.length m s D1):=by
 have hT8:=h.fit.thr;have hTt : D.t = D.P.ts.length:=h.thr;obtain ⟨q,hq⟩ : ∃ q : Nat,Hid (q = D.P.ts.length):=⟨_,rfl⟩;have hTq : Hid (T = q):=by show T = q; rw [<- (hJ.cfg hj).2.1,hTt,hq.out]
 have hq8 : q<=8:=by have:=hq.out; omega
 have hfq : f < q:=by have:=hTq.out; omega
 have H:=(mkH (PlAt own z w pb D/\J D/\Sz b D) <|⟨h,hj,hS⟩);have HJ:=(mkH (Plays K f T Nn E L J) <|hJ);have HL:=(mkH (∀ (own1 : Own) (w1 : World) (D1 : PlD),PlAt own1 z w1 pb D1->J D1->D1.P.ts.length = q/\D1.t = q) <|by
  intro own1 w1 D1 h1 j1;have h2:=h1.thr;have h3:=(hJ.cfg j1).2.1;have h4:=hTq.out;have : (D1.P.ts.length : Int) = q:=by rw [<- h2,h3,h4]
  exact ⟨by omega,by rw [h3,h4]⟩)
 have HQ:=(mkH (∀ (w' : World) (m s : Nat),PlGoes own z w pb w' (fun D1=>J D1/\Sz (b + 8) D1/\Turning K f Nn.toNat D q m s D1)->PlGoes own z w pb w' (fun D1=>J D1/\Sz (b + 8) D1/\Turning K f Nn.toNat D D.P.ts.length m s D1)) <|by
  intro w' m s hh; rw [hq.out] at hh; exact hh)
 clear h hj hS hT8 hTt hJ hq hTq hf;unfold pv
 go_enter Tryz.func47,Tryz.ntmps47
 go_wp2
 go_loopw [7,8,9] (fun v1 v2 v3 wr=>∃ k m s : Nat,f<=k/\k<=q/\m<=8/\s<=8/\v1 = .int .i64 m/\v2 = .int .i64 s/\v3 = .int .i64 k/\Hid (PlGoes own z w pb wr (fun D1=>J D1/\Sz (b + k) D1/\Turning K f Nn.toNat D k m s D1))) (fun _ _ v3 _=>q - (intOf v3).toNat)
 case atStart=>exact ⟨f,0,0,Nat.le_refl _,by omega,by omega,by omega,rfl,rfl,rfl,own,D,H.out.1,Ext.refl _ _,Fr.refl _ _,H.out.2.1,H.out.2.2.mono (by omega),Turning.start⟩
 case round =>
  clear H;obtain ⟨k,m,s,hfk,hkq,hm8,hs8,rfl,rfl,rfl,HG⟩:=hrel;obtain ⟨own1,D1,hP,hE,hF,hj1,hS1,hTu⟩:=HG.out;obtain ⟨l1,l2⟩:=HL.out own1 wr D1 hP hj1;have HP:=(mkH (PlAt own1 z wr pb D1/\J D1/\Sz (b + k) D1/\Turning K f Nn.toNat D k m s D1) <|⟨hP,hj1,hS1,hTu⟩);have HX:=(mkH (Ext own own1 w/\FrP own z w wr) <|⟨hE,hF⟩);have hok : D1.ok:=HJ.out.ok hj1;by_cases hlt : k < q
  ·have hkl : k < D1.P.ts.length:=by omega
   have ht1 : D1.P.ts[k]? = some D1.P.ts[k]:=List.getElem?_eq_getElem hkl;generalize D1.P.ts[k] = t1 at ht1;have hbs : D1.bs[k]? = some t1.busy:=by
    have hok' : D1.bs = D1.P.ts.map (·.busy):=hok;rw [hok',List.getElem?_map,ht1]; rfl
   obtain ⟨g,gc,hv,hc,hz,hg,hgl⟩:=hP.busyRow hbs;have ha:=hP.at_.cell;rw [l1] at hv;simp only [PlD.cells,hv,l2,pv] at ha;have HT:=(mkH (D1.P.ts[k]? = some t1/\D1.bs[k]? = some t1.busy) <|⟨ht1,hbs⟩);have hle:=hTu.le;clear hP hE hF hj1 hS1 hTu HG hok ht1 hbs hv hg;cases hbz : t1.busy
   ·rw [hbz] at hc;have HG2:=(mkH (PlGoes own z w pb wr (fun D1=>J D1/\Sz (b + (k + 1)) D1/\Turning K f Nn.toNat D (k + 1) m s D1)) <|⟨own1,D1,HP.out.1,HX.out.1,HX.out.2,HP.out.2.1,HP.out.2.2.1.mono (by omega),HP.out.2.2.2.skip HT.out.1 hbz⟩);clear HT hbz;go_wp2
    go_roundw
    case rel=>exact ⟨k + 1,m,s,by omega,by omega,hm8,hs8,rfl,rfl,by go_num,HG2⟩
    case measure=>simp [intOf]; omega
   ·rw [hbz] at hc;have HT2:=(mkH (t1.busy = true/\D1.bs[k]? = some true) <|⟨hbz,by rw [<- hbz]; exact HT.out.2⟩);clear hbz;have HN:=(mkH (D1.N < 2 ^ 39/\D1.deeds.length<=2 ^ 38) <|by have:=HP.out.2.2.1; unfold Sz at this; exact ⟨by omega,by omega⟩);go_wp2_with fail;refine (Psteps_busy HP.out.1 HT2.out.2 HT.out.1 HT2.out.1 HN.out.1 HN.out.2).mono ?_;rintro r w2 ⟨rfl,own2,D2,hP2,hE2,hF2,hS2⟩;have HS2:=(mkH (PlGoes own z w pb w2 (fun D2=>J D2/\Sz (b + (k + 1)) D2/\Stepped D1 k t1 D2)) <|PlGoes.trans HX.out.1 HX.out.2 ⟨own2,D2,hP2,hE2,hF2,HJ.out.step HP.out.2.1 HP.out.1.fit HT.out.1 HT2.out.1 hfk hS2,HP.out.2.2.1.step hS2,hS2⟩);have hrg:=(HP.out.1.fit.turn HT.out.1 HT2.out.1).how;clear hP2 hE2 hF2 hS2 ha hc hz;by_cases h2 : (D1.P.step k t1).2 = 2
    ·have HG2:=(mkH (PlGoes own z w pb w2 (fun D2=>J D2/\Sz (b + (k + 1)) D2/\Turning K f Nn.toNat D (k + 1) m (s + 1) D2)) <|by
      obtain ⟨o,d,y1,y2,y3,y4,y5,y6⟩:=HS2.out;exact ⟨o,d,y1,y2,y3,y4,y5,HP.out.2.2.2.wait hfk (HJ.out.inv HP.out.2.1) HT.out.1 HT2.out.1 y6 h2⟩)
     rw [h2];clear h2 HS2 hrg;go_wp2
     go_roundw
     case rel=>exact ⟨k + 1,m,s + 1,by omega,by omega,hm8,by omega,rfl,by go_num,by go_num,HG2⟩
     case measure=>simp [intOf]; omega
    ·have HG2:=(mkH (PlGoes own z w pb w2 (fun D2=>J D2/\Sz (b + (k + 1)) D2/\Turning K f Nn.toNat D (k + 1) (m + 1) (s + 1) D2)) <|by
      obtain ⟨o,d,y1,y2,y3,y4,y5,y6⟩:=HS2.out;exact ⟨o,d,y1,y2,y3,y4,y5,HP.out.2.2.2.move HT.out.1 HT2.out.1 y6 h2⟩)
     generalize (D1.P.step k t1).2 = hw at h2 hrg ⊢;have h2' : (hw == 2) = false:=by simpa using h2
     clear HS2 h2;go_wp2
     go_roundw
     case rel=>exact ⟨k + 1,m + 1,s + 1,by omega,by omega,by omega,by omega,by go_num,by go_num,by go_num,HG2⟩
     case measure=>simp [intOf]; omega
  ·have hkq' : Hid (k = q):=by show k = q; omega
   have ha:=hP.at_.cell;simp only [PlD.cells,l2,pv] at ha;have HF:=(mkH (PlGoes own z w pb wr (fun D1=>J D1/\Sz (b + 8) D1/\Turning K f Nn.toNat D q m s D1)) <|⟨own1,D1,hP,hE,hF,hj1,hS1.mono (by omega),by rw [<- hkq'.out]; exact hTu⟩);clear hP hE hF hj1 hS1 hTu HG hok HP HX;go_wp2;go_ret3;exact ⟨m,s,rfl,hm8,HQ.out _ _ _ HF.out⟩
end
end
section
open Go.RowKit
section
variable {K : Kin} {own : Own} {z : Nat} {w w' : World} {pb : Nat} {D D1 D2 : PlD} {i f k m s N b : Nat} {t : PThread} {J : PlD->Prop} {T Nn E L : Int}
theorem Plays.pot (hJ : Plays K f T Nn E L J) (hj : J D) (hT : (D.P.ts.length : Int) = T) (hN : 0<=Nn) : Pot K Nn.toNat D (T * (T + 2) * (Nn + 16)).toNat:=by
 obtain ⟨_,hC⟩:=hJ.inv hj
 have:=K.bound hC
 have e : (T * (T + 2) * (Nn + 16)).toNat = D.P.ts.length * ((D.P.ts.length + 2) * (Nn.toNat + 16)):=by
  rw [<- hT];have : ((D.P.ts.length : Int) * (D.P.ts.length + 2) * (Nn + 16)) = ((D.P.ts.length * ((D.P.ts.length + 2) * (Nn.toNat + 16)) : Nat) : Int):=by
   rw [<- Nat.mul_assoc];simp only [Int.natCast_mul,Int.natCast_add];rw [Int.toNat_of_nonneg hN]; rfl
  rw [this]; rfl
 rw [e]; exact this
def Still (f : Nat) (D : PlD) : Prop:=∀ j u,f<=j->D.P.ts[j]? = some u->u.busy = false
theorem most_le {T Nn : Int} (hT : 1<=T/\T<=8) (hN : 0<=Nn/\Nn<=64) : (0<=T * (T + 2)/\T * (T + 2)<=80)/\0<=T * (T + 2) * (Nn + 16)/\T * (T + 2) * (Nn + 16)<=6400:=by
 have h1 : T * (T + 2)<=8 * 10:=Int.mul_le_mul hT.2 (by omega) (by omega) (by omega);have h2 : 0<=T * (T + 2):=Int.mul_nonneg (by omega) (by omega);have h3 : T * (T + 2) * (Nn + 16)<=80 * 80:=Int.mul_le_mul (by omega) (by omega) (by omega) (by omega);have h4 : 0<=T * (T + 2) * (Nn + 16):=Int.mul_nonneg h2 (by omega);omega
theorem Pfinish_calls (hJ : Plays K f T Nn E L J) (h : PlAt own z w pb D) (hj : J D) (hS : Sz b D) (hb : b<=2 ^ 36) (hf : (f : Int) < T) (hNn : 0<=Nn/\Nn<=64) :
  Calls Tryz.prog 27 #[pv pb,.int .i64 f] w fun r w'=>r = .returned (.bool true)/\PlGoes own z w pb w' (fun D1=>J D1/\Sz (b + 60000) D1/\Still f D1):=by
 have hT8:=h.fit.thr;have hTt : D.t = D.P.ts.length:=h.thr;have hT1 : (1 : Int)<=T/\T<=8:=by have:=(hJ.cfg hj).2.1; omega
 obtain ⟨⟨m1,m2⟩,m3,m4⟩:=most_le hT1 hNn;obtain ⟨n1,n2⟩:=hNn;obtain ⟨t1,t2⟩:=hT1;have hpot:=hJ.pot hj (by rw [<- hTt]; exact (hJ.cfg hj).2.1) n1;have H:=(mkH (PlAt own z w pb D/\J D/\Sz b D) <|⟨h,hj,hS⟩);have HJ:=(mkH (Plays K f T Nn E L J) <|hJ);have HF:=(mkH ((f : Int) < T) <|hf);have ha:=h.at_.cell;simp only [PlD.cells,(hJ.cfg hj).2.1,(hJ.cfg hj).2.2.1,pv] at ha;obtain ⟨M,hM⟩ : ∃ M : Nat,Hid (T * (T + 2) * (Nn + 16) = M):=⟨(T * (T + 2) * (Nn + 16)).toNat,by show _ = _; omega⟩;have hM6 : M<=6400:=by have:=hM.out; omega
 have HPot:=(mkH (Pot K Nn.toNat D M) <|by
  show Pot K Nn.toNat D M;rw [hM.out] at hpot; simpa using hpot)
 clear h hj hS hT8 hTt hJ hf hpot;unfold pv
 go_enter Tryz.func27,Tryz.ntmps27
 go_wp2;go_region;rw [hM.out];have HD:=(mkH (PlAt own z w.drew pb D) <|H.out.1.calm ((Fr.refl _ _).drew));have HW:=(mkH (FrP own z w w.drew) <|(Fr.refl _ _).drew);clear ha;generalize w.drew = w0 at HD HW ⊢;go_wp2
 go_loopw [6] (fun v wr=>∃ j : Nat,j<=M/\v = .int .i64 j/\Hid (PlGoes own z w pb wr (fun D1=>J D1/\Sz (b + 8 * j) D1/\∃ n,n + j<=M/\Pot K Nn.toNat D1 n))) (fun v _=>M + 1 - (intOf v).toNat)
 case atStart=>exact ⟨0,by omega,rfl,own,D,HD.out,Ext.refl _ _,HW.out,H.out.2.1,H.out.2.2,M,by omega,HPot.out⟩
 case round =>
  clear H HD HW HPot;obtain ⟨j,hjM,rfl,HG⟩:=hrel;obtain ⟨own1,D1,hP,hE,hF,hj1,hS1,n,hn,hpt⟩:=HG.out;have HP:=(mkH (PlAt own1 z wr pb D1/\J D1/\Sz (b + 8 * j) D1/\n + j<=M/\Pot K Nn.toNat D1 n) <|⟨hP,hj1,hS1,hn,hpt⟩);have HX:=(mkH (Ext own own1 w/\FrP own z w wr) <|⟨hE,hF⟩);clear hP hE hF hj1 hS1 hn hpt HG;have HB:=(mkH (b + 8 * j<=2 ^ 37) <|by show b + 8 * j<=2 ^ 37; omega);go_wp2_with fail;refine (Pturn_calls HJ.out HP.out.1 HP.out.2.1 HP.out.2.2.1 HB.out HF.out).mono ?_;rintro r w2 ⟨mm,ss,rfl,hm8,own2,D2,hP2,hE2,hF2,hj2,hS2,hTu⟩;have HG2:=(mkH (PlGoes own z w pb w2 (fun D2=>J D2/\Sz (b + 8 * (j + 1)) D2/\Turning K f Nn.toNat D1 D1.P.ts.length mm ss D2)) <|PlGoes.trans HX.out.1 HX.out.2 ⟨own2,D2,hP2,hE2,hF2,hj2,hS2.mono (by omega),hTu⟩);clear hP2 hE2 hF2 hj2 hS2 hTu hm8;by_cases hs : ss = 0
  ·have HR:=(mkH (PlGoes own z w pb w2 (fun D1=>J D1/\Sz (b + 60000) D1/\Still f D1)) <|by
    obtain ⟨o,d,y1,y2,y3,y4,y5,y6⟩:=HG2.out;obtain ⟨z1,z2,z3⟩:=y6.none_ hs;refine ⟨o,d,y1,y2,y3,y4,y5.mono (by omega),?_⟩;intro q u hq hu;rw [z1] at hu;exact z3 q u hq (List.getElem?_eq_some_iff.1 hu).1 hu)
   subst hs;clear HG2;go_wp2;go_ret;exact ⟨rfl,HR.out⟩
  ·have hm : mm≠0:=by
    intro e;obtain ⟨o,d,y1,y2,y3,y4,y5,y6⟩:=HG2.out;exact hs (y6.done HJ.out HP.out.2.1 e)
   have HG3:=(mkH (j + 1<=M/\PlGoes own z w pb w2 (fun D2=>J D2/\Sz (b + 8 * (j + 1)) D2/\∃ n,n + (j + 1)<=M/\Pot K Nn.toNat D2 n)) <|by
    obtain ⟨o,d,y1,y2,y3,y4,y5,y6⟩:=HG2.out;obtain ⟨n',q1,q2⟩:=y6.pot n HP.out.2.2.2.2
    have:=HP.out.2.2.2.1
    exact ⟨by omega,o,d,y1,y2,y3,y4,y5,n',by omega,q2⟩)
   have hs' : ((ss : Int) == 0) = false:=by simp; exact hs
   have hm' : ((mm : Int) == 0) = false:=by simp; exact hm
   have hj1:=HG3.out.1;have HG4:=(mkH (PlGoes own z w pb w2 (fun D2=>J D2/\Sz (b + 8 * (j + 1)) D2/\∃ n,n + (j + 1)<=M/\Pot K Nn.toNat D2 n)) <|HG3.out.2);clear HG2 HG3 hs hm;go_wp2
   go_roundw
   case rel=>exact ⟨j + 1,hj1,by go_num,HG4⟩
   case measure=>simp [intOf]; omega
end
end
section
open Go.RowKit
section
variable {K : Kin} {own : Own} {z : Nat} {w w' : World} {pb : Nat} {D D1 D2 : PlD} {i f k m s N b : Nat} {t : PThread} {J : PlD->Prop} {T Nn E L : Int}
theorem Plays.busy (hJ : Plays K f T Nn E L J) (hj : J D) (hi : i < D.P.ts.length) : ∃ t,D.P.ts[i]? = some t/\D.bs[i]? = some t.busy:=by
 have ht : D.P.ts[i]? = some D.P.ts[i]:=List.getElem?_eq_getElem hi;refine ⟨D.P.ts[i],ht,?_⟩;have hok : D.bs = D.P.ts.map (·.busy):=hJ.ok hj;rw [hok,List.getElem?_map,ht]; rfl
theorem Psteps_any (hJ : Plays K f T Nn E L J) (h : PlAt own z w pb D) (hj : J D) (hS : Sz b D) (hb : b<=2 ^ 37) (hi : i < D.P.ts.length) (hf : f<=i) :
  ∃ how : Int,0<=how/\how<=3/\Calls Tryz.prog 35 #[pv pb,.int .i64 i] w fun r w'=>r = .returned (.tuple #[.int .i64 how,.bool true])/\PlGoes own z w pb w' (fun D1=>J D1/\Sz (b + 1) D1):=by
 obtain ⟨t,ht,hbs⟩:=hJ.busy hj hi;cases hbz : t.busy
 ·rw [hbz] at hbs;refine ⟨0,by omega,by omega,(Psteps_idle h hbs ht hbz).mono ?_⟩;rintro r w1 ⟨rfl,rfl⟩;exact ⟨rfl,own,D,h,Ext.refl _ _,Fr.refl _ _,hj,hS.mono (by omega)⟩
 ·rw [hbz] at hbs;have hrg:=(h.fit.turn ht hbz).how;refine ⟨(D.P.step i t).2,by omega,by omega,(Psteps_busy h hbs ht hbz (by unfold Sz at hS; omega) (by unfold Sz at hS; omega)).mono ?_⟩;rintro r w1 ⟨rfl,own1,D1,hP,hE,hF,hs⟩;exact ⟨rfl,own1,D1,hP,hE,hF,hJ.step hj h.fit ht hbz hf hs,hS.step hs⟩
theorem Psweep_any (hJ : Plays K f T Nn E L J) (h : PlAt own z w pb D) (hj : J D) (hS : Sz b D) :
  ∃ how : Int,1<=how/\how<=3/\Calls Tryz.prog 42 #[pv D.L.s] w fun r w'=>r = .returned (.int .i64 how)/\PlGoes own z w pb w' (fun D1=>J D1/\Sz b D1):=by
 have hrg : 1<=D.P.doSweep.2/\D.P.doSweep.2<=3:=by
  unfold PSt.doSweep;simp only;split
  ·simp
  ·split
   ·split <;> simp
   ·split <;> simp
 refine ⟨D.P.doSweep.2,hrg.1,hrg.2,(ZSweep_fit h.st h.fit).mono ?_⟩;rintro r w2 ⟨rfl,hG⟩;have hf:=(h.fit.sweep h.st.mem.nsmall).1;obtain ⟨own2,L2,hP2,hE2,hF2,e2⟩:=h.store hG hf (by rw [sweep_ts]);exact ⟨rfl,own2,_,hP2,hE2,hF2,hJ.sweep L2 hj,hS⟩
theorem Pruns_calls (hJ : Plays K f T Nn E L J) (h : PlAt own z w pb D) (hj : J D) (hS : Sz b D) (hb : b<=2 ^ 36) (hi : (i : Int) < T) (hf : f<=i) (n : Nat) (hn : n<=40) :
  Calls Tryz.prog 56 #[pv pb,.int .i64 i,.int .i64 n] w fun r w'=>r = .returned (.bool true)/\PlGoes own z w pb w' (fun D1=>J D1/\Sz (b + 40) D1):=by
 have H:=(mkH (PlAt own z w pb D/\J D/\Sz b D) <|⟨h,hj,hS⟩);have HJ:=(mkH (Plays K f T Nn E L J) <|hJ);have hT8 : T<=8:=by have:=(hJ.cfg hj).2.1; have:=h.thr; have:=h.fit.thr; omega
 have HI:=(mkH (∀ (own1 : Own) (w1 : World) (D1 : PlD),PlAt own1 z w1 pb D1->J D1->i < D1.P.ts.length) <|by
  intro own1 w1 D1 h1 j1;have h2:=h1.thr;have h3:=(hJ.cfg j1).2.1;omega)
 clear h hj hS hJ;unfold pv
 go_enter Tryz.func56,Tryz.ntmps56
 go_wp2
 go_loopw [7] (fun v wr=>∃ k : Nat,k<=n/\v = .int .i64 k/\Hid (PlGoes own z w pb wr (fun D1=>J D1/\Sz (b + k) D1))) (fun v _=>n - (intOf v).toNat)
 case atStart=>exact ⟨0,by omega,rfl,own,D,H.out.1,Ext.refl _ _,Fr.refl _ _,H.out.2.1,H.out.2.2⟩
 case round =>
  clear H;obtain ⟨k,hkn,rfl,HG⟩:=hrel;obtain ⟨own1,D1,hP,hE,hF,hj1,hS1⟩:=HG.out;have HP:=(mkH (PlAt own1 z wr pb D1/\J D1/\Sz (b + k) D1) <|⟨hP,hj1,hS1⟩);have HX:=(mkH (Ext own own1 w/\FrP own z w wr) <|⟨hE,hF⟩);have hil:=HI.out own1 wr D1 hP hj1;obtain ⟨t1,ht1,hbs⟩:=HJ.out.busy hj1 hil;obtain ⟨g,gc,hv,hc,hz,hg,hgl⟩:=hP.busyRow hbs;have ha:=hP.at_.cell;simp only [PlD.cells,hv,pv] at ha;have HE:=(mkH (PlGoes own z w pb wr (fun D1=>J D1/\Sz (b + 40) D1)) <|⟨own1,D1,hP,hE,hF,hj1,hS1.mono (by omega)⟩);have HB:=(mkH (i < D1.P.ts.length) <|hil);clear hP hE hF hj1 hS1 HG ht1 hbs hv hg;by_cases hlt : k < n
  ·cases hbz : t1.busy
   ·rw [hbz] at hc;clear hbz;go_wp2;go_ret;exact ⟨rfl,HE.out⟩
   ·rw [hbz] at hc;clear hbz;obtain ⟨how,h0,h3,hcall⟩:=Psteps_any HJ.out HP.out.1 HP.out.2.1 HP.out.2.2 (by omega) HB.out hf;have HC:=(mkH (Calls _ _ _ _ _) <|hcall);clear hcall;unfold pv at HC;go_wp2_with fail;refine Calls.mono HC.out ?_;rintro r w2 ⟨rfl,own2,D2,hP2,hE2,hF2,hj2,hS2⟩;have HG2:=(mkH (PlGoes own z w pb w2 (fun D2=>J D2/\Sz (b + (k + 1)) D2)) <|PlGoes.trans HX.out.1 HX.out.2 ⟨own2,D2,hP2,hE2,hF2,hj2,hS2⟩);have HE2:=(mkH (PlGoes own z w pb w2 (fun D2=>J D2/\Sz (b + 40) D2)) <|PlGoes.trans HX.out.1 HX.out.2 ⟨own2,D2,hP2,hE2,hF2,hj2,hS2.mono (by omega)⟩);clear hP2 hE2 hF2 hj2 hS2 ha hc hz HC HE;by_cases h2 : how = 2
    ·subst h2;go_wp2;go_ret;exact ⟨rfl,HE2.out⟩
    ·have h2' : (how == 2) = false:=by simpa using h2
     clear h2;go_wp2
     go_roundw
     case rel=>exact ⟨k + 1,by omega,by go_num,HG2⟩
     case measure=>simp [intOf]; omega
  ·go_wp2;go_ret;exact ⟨rfl,HE.out⟩
end
end
section
open Go.RowKit
section
variable {w w1 : World} {i : Nat}
theorem ActIn.keep {sa : Option Addr} {a : ActD} (h : ActIn w sa i a) (hf : Fr (fun _=>False) w w1) : ActIn w1 sa i a:=by
 obtain ⟨b,off,e,h1,h2,h3⟩:=h;exact ⟨b,off,e,fun j v hj=>hf.keepCell (h1 j v hj),h2.keep hf,h3⟩
theorem OwnSpans.keep {w0 : World} {v : Value} {sp : List (Int × Int)} (h : OwnSpans w0 w v sp) (hf : Fr (fun _=>False) w w1) : OwnSpans w0 w1 v sp:=⟨hf.owns h.row (fun _ _ h=>h),h.new,h.fr.trans hf⟩
end
end
section
open Go.RowKit
section
variable {K : Kin} {own : Own} {z : Nat} {w w1 w' : World} {pb : Nat} {D D1 D2 : PlD} {i f k m s N b : Nat} {t : PThread} {J : PlD->Prop} {T Nn E L : Int}
theorem PlAt.boxes (h : PlAt own z w pb D) (hf : Fr (fun _=>False) w w1) {v : Value} {sp : List (Int × Int)} {w0 : World} (hO : OwnSpans w0 w1 v sp) (hw : w.heap.size<=w0.heap.size) (o : OpV) (h1 : o.sv = v) (h2 : o.spans = sp) : ∃ own1,PlAt own1 z w1 pb D/\Ext own own1 w/\OpOk own1 (z + 1) w1 o:=by
 obtain ⟨own1,ho⟩ : ∃ own1 : Own,own1 = fun k=>if k < w.heap.size then own k else if v.ownBlock = some k then ⟨z + 1,.oth 5⟩ else ⟨z + 7,.store⟩:=⟨_,rfl⟩
 have hE : Ext own own1 w:=fun k hk=>by rw [ho]; simp [hk]
 refine ⟨own1,h.fr hf hE (fun _ _ h=>h),hE,⟨?_,?_⟩⟩
 ·rw [h1,h2]; exact hO.row
 ·rw [h1];intro k hk
  have:=hO.new k hk
  rw [ho]; simp [show ¬ k < w.heap.size by omega,hk]
theorem Plays.beginAny (hJ : Plays K f T Nn E L J) (hj : J D) (hS : Sz b D) (ht : D.P.ts[i]? = some t) (hf : f<=i) {o : OpV} (hB : Begun D i t o D1) : J D1/\Sz (b + 1) D1:=⟨hJ.begin hj ht hf hB,hS.begin hB⟩
theorem Pact_calls (hJ : Plays K f T Nn E L J) (h : PlAt own z w pb D) (hj : J D) (hS : Sz b D) (hb : b<=2 ^ 35) (hf : (f : Int) < T) (a : ActD) (hsp : Spans w a.sa a.sn a.ps) (hsn : a.sn<=2 ^ 20) (hm : -9223372036854775808<=a.m/\a.m<=9223372036854775807) (htt : -9223372036854775808<=a.tt/\a.tt<=9223372036854775807) :
  Calls Tryz.prog 36 #[pv pb,actVal a,.int .i64 f] w fun r w'=>r = .returned (.bool true)/\PlGoes own z w pb w' (fun D1=>J D1/\Sz (b + 400) D1):=by
 obtain ⟨kd,tt,o,ky,va,m,psa,psn,psc,sps⟩:=a;simp only at hsp hsn hm htt;obtain rfl : sps.length = psn:=hsp.1;have hT8 : T<=8:=by have:=(hJ.cfg hj).2.1; have:=h.thr; have:=h.fit.thr; omega
 have hE0 : Ext own (own.put w.heap.size (z + 7) .store) w:=Ext.put (Nat.le_refl _) _ _;obtain ⟨own0,hown0⟩ : ∃ own0,own0 = own.put w.heap.size (z + 7) .store:=⟨_,rfl⟩;rw [<- hown0] at hE0;have hz0 : own0 w.heap.size = ⟨z + 7,.store⟩:=by rw [hown0]; simp [Own.put]
 generalize hw1 : w.alloc (.cells #[.int .i64 kd,.int .i64 tt,.int .i64 o,.int .i64 ky,.int .i64 va,.int .i64 m,.slice psa sps.length psc] 29) = w1;have hf1 : Fr (fun _=>False) w w1:=by rw [<- hw1]; exact (Fr.refl _ _).alloc _
 have hA1 : At w1 w.heap.size [.int .i64 kd,.int .i64 tt,.int .i64 o,.int .i64 ky,.int .i64 va,.int .i64 m,.slice psa sps.length psc] 29:=by rw [<- hw1]; exact At.new w _ _
 have H1:=(mkH (PlAt own0 z w1 pb D/\J D/\Sz b D) <|⟨h.fr hf1 hE0 (fun _ _ h=>h),hj,hS⟩);have HX:=(mkH (Ext own own0 w/\FrP own z w w1/\own0 w.heap.size = ⟨z + 7,.store⟩) <|⟨hE0,Fr.mono hf1 (fun _ _ h=>h.elim),hz0⟩);have HA1:=(mkH (At w1 w.heap.size _ 29) <|hA1);have HSp:=(mkH (Spans w1 psa sps.length sps/\sps.length<=2 ^ 20) <|⟨hsp.keep hf1,hsn⟩);have HJ:=(mkH (Plays K f T Nn E L J) <|hJ);have HM:=(mkH (-9223372036854775808<=m/\m<=9223372036854775807) <|hm);have hp:=pickN_in (c:=tt) (n:=T - f) (by omega);obtain ⟨p,hpp⟩ : ∃ p : Nat,Hid (pickN tt (T - f) = p):=⟨(pickN tt (T - f)).toNat,by show _ = _; omega⟩;have hpT : (f : Int) + p < T:=by rw [<- hpp.out]; omega
 have HPk:=(mkH (∀ w,Calls Tryz.prog 23 #[.int .i64 tt,.int .i64 (T - f)] w fun r w'=>r = .returned (.int .i64 p)/\w' = w) <|by
  rw [<- hpp.out];exact lpick_calls tt (T - f) htt ⟨by omega,by omega⟩)
 have HI:=(mkH (∀ (own1 : Own) (w1 : World) (D1 : PlD),PlAt own1 z w1 pb D1->J D1->f + p < D1.P.ts.length) <|by
  intro own1 w1 D1 h1 j1;have h2:=h1.thr;have h3:=(hJ.cfg j1).2.1;omega)
 have hct:=(hJ.cfg hj).2.1;clear h hj hS hJ hE0 hown0 hz0 hf1 hA1 hsp hsn hm htt hp;unfold pv actVal
 go_enter Tryz.func36,Tryz.ntmps36
 go_wp2_with fail
 try rw [hw1]
 clear hw1;refine wp_region_calm [10] 0 rfl (by kernel_rfl) (by kernel_rfl) (by kernel_rfl) (by decide) (by kernel_rfl) (by decide) ?_;intro U V hU hV;have hau : ∀ u q,(V u).cell? ⟨w.heap.size,q,none⟩ = [Value.int .i64 kd,.int .i64 tt,.int .i64 o,.int .i64 ky,.int .i64 va,.int .i64 m,.slice psa sps.length psc][q]?:=fun u=>((hV u).at HA1.out (fun h=>h)).cell
 have hpu : ∀ u,(V u).cell? ⟨pb,2,none⟩ = some (.int .i64 T):=fun u=>by
  have:=((hV u).at H1.out.1.at_ (fun h=>h)).cell 2
  simp only [PlD.cells,hct] at this;exact this
 clear hV
 repeat (refine mix_read rfl rfl ?_; go_big_quiet_step (fail); refine wpQuiet_nil ?_)
 refine mix_effC (.int .i64 p) rfl rfl rfl ?_ ?_
 ·intro w' hw';go_simp;refine Calls.mono (HPk.out w') ?_;rintro r w'' ⟨rfl,rfl⟩;exact ⟨rfl,hw'⟩
 go_simp
 repeat (refine mix_read rfl rfl ?_; go_big_quiet_step (fail); refine wpQuiet_nil ?_)
 refine mix_nil ?_;intro w2 hw2;have H2:=(mkH (PlAt own0 z w2 pb D) <|H1.out.1.calm hw2);have HA2:=(mkH (At w2 w.heap.size _ 29) <|hw2.at HA1.out (fun h=>h));have HX2:=(mkH (FrP own z w w2) <|Fr.trans HX.out.2.1 (Fr.mono hw2 (fun _ _ h=>h.elim)));have HSp2:=(mkH (Spans w2 psa sps.length sps) <|HSp.out.1.keep hw2);clear hw2 hau hpu HPk;have HFin:=(mkH (∀ (own3 : Own) (w3 w4 : World),Ext own0 own3 w2->FrP own0 z w2 w3->∀ b',b'<=b + 400->PlGoes own3 z w3 pb w4 (fun D1=>J D1/\Sz b' D1)->PlGoes own z w pb w4 (fun D1=>J D1/\Sz (b + 400) D1)) <|by
  intro own3 w3 w4 he hf b' hb' hg;have hsz : w.heap.size<=w2.heap.size:=HX2.out.size;obtain ⟨o5,d5,y1,y2,y3,y4,y5⟩:=PlGoes.trans (Ext.trans HX.out.1 he hsz) (FrP.trans HX2.out HX.out.1 hf) hg;exact ⟨o5,d5,y1,y2,y3,y4,y5.mono hb'⟩)
 have hac:=HA2.out.cell;by_cases h1 : kd = 1
 ·subst h1;have HOp:=(mkH (Calls _ _ _ _ _) <|opOf_calls ⟨1,tt,o,ky,va,m,psa,sps.length,psc,sps⟩ w2 HSp2.out HSp.out.2);simp only [actVal] at HOp;go_wp2_with fail;refine Calls.mono HOp.out ?_;rintro r w4 ⟨xa,xc,rfl,hO⟩;have HO:=(mkH (OwnSpans w2 w4 _ sps) <|hO);clear hO HOp hac;simp only [opVal];go_wp2_with fail;generalize hw5 : World.alloc _ _ = w5;have hf5 : Fr (fun _=>False) w4 w5:=by rw [<- hw5]; exact (Fr.refl _ _).alloc _
  clear hw5;have hf25:=HO.out.fr.trans hf5;obtain ⟨own5,hP5,hE5,hop5⟩:=H2.out.boxes hf25 (HO.out.keep hf5) (Nat.le_refl _) ⟨o,ky,va,sps,.slice xa sps.length xc⟩ rfl rfl;have hil:=HI.out own5 w5 D hP5 H1.out.2.1;obtain ⟨t1,ht1,_⟩:=HJ.out.busy H1.out.2.1 hil;have hS:=H1.out.2.2;have HB:=(mkH (Calls _ _ _ _ _) <|Pbegins_calls hP5 (HJ.out.ok H1.out.2.1) ht1 o ky va sps xa xc hop5 (by have:=HSp.out.2; omega) (by unfold Sz at hS; omega));have HT:=(mkH (D.P.ts[f + p]? = some t1) <|ht1);have HE5:=(mkH (Ext own0 own5 w2/\FrP own0 z w2 w5) <|⟨hE5,Fr.mono hf25 (fun _ _ h=>h.elim)⟩);clear hf5 hf25 hP5 hE5 hop5 hil ht1 hS;unfold pv opVal at HB;simp only [Int.natCast_add] at HB;go_wp2_with fail;refine Calls.mono HB.out ?_;rintro r w6 ⟨rfl,own6,D6,hP6,hE6,hF6,hB6⟩;have HR:=(mkH (PlGoes own z w pb w6 (fun D1=>J D1/\Sz (b + 400) D1)) <|HFin.out own5 w5 w6 HE5.out.1 HE5.out.2 (b + 1) (by omega) ⟨own6,D6,hP6,hE6,hF6,HJ.out.beginAny H1.out.2.1 H1.out.2.2 HT.out (by omega) hB6⟩);clear hP6 hE6 hF6 hB6;go_wp2;go_ret;exact ⟨rfl,HR.out⟩
 ·have h1' : (kd == 1) = false:=by simpa using h1
  by_cases h2 : kd = 2
  ·subst h2;obtain ⟨how,q0,q3,hcall⟩:=Psteps_any HJ.out H2.out H1.out.2.1 H1.out.2.2 (by omega) (HI.out _ _ _ H2.out H1.out.2.1) (show f<=f + p by omega);have HC:=(mkH (Calls _ _ _ _ _) <|hcall);clear hcall h1;unfold pv at HC;simp only [Int.natCast_add] at HC;go_wp2_with fail;refine Calls.mono HC.out ?_;rintro r w6 ⟨rfl,hg⟩;have HR:=(mkH (PlGoes own z w pb w6 (fun D1=>J D1/\Sz (b + 400) D1)) <|HFin.out own0 w2 w6 (Ext.refl _ _) (Fr.refl _ _) (b + 1) (by omega) hg);clear hg;go_wp2;go_ret;exact ⟨rfl,HR.out⟩
  ·have h2' : (kd == 2) = false:=by simpa using h2
   by_cases h3 : kd = 3
   ·subst h3;clear h1 h2;have hp4:=pickN_in (c:=m) (n:=40) (by omega);obtain ⟨q,hqq⟩ : ∃ q : Nat,Hid (pickN m 40 = q):=⟨(pickN m 40).toNat,by show _ = _; omega⟩;have hq40 : q < 40:=by have:=hqq.out; omega
    have HPk:=(mkH (∀ w,Calls Tryz.prog 23 #[.int .i64 m,.int .i64 40] w fun r w'=>r = .returned (.int .i64 q)/\w' = w) <|by
     rw [<- hqq.out];exact lpick_calls m 40 HM.out ⟨by omega,by omega⟩)
    have HC:=(mkH (Calls _ _ _ _ _) <|Pruns_calls HJ.out H2.out H1.out.2.1 H1.out.2.2 (by omega) (i:=f + p) (by simp only [Int.natCast_add]; exact hpT) (by omega) (1 + q) (by omega));unfold pv at HC;simp only [Int.natCast_add] at HC;clear hp4;go_wp2_with fail;refine Calls.mono (HPk.out w2) ?_;rintro r w3 ⟨rfl,rfl⟩;go_wp2_with fail;refine Calls.mono HC.out ?_;rintro r w6 ⟨rfl,hg⟩;have HR:=(mkH (PlGoes own z w pb w6 (fun D1=>J D1/\Sz (b + 400) D1)) <|HFin.out own0 _ w6 (Ext.refl _ _) (Fr.refl _ _) (b + 40) (by omega) hg);clear hg;go_wp2;go_ret;exact ⟨rfl,HR.out⟩
   ·have h3' : (kd == 3) = false:=by simpa using h3
    by_cases h4 : kd = 4
    ·subst h4;clear h1 h2 h3;have hp4:=pickN_in (c:=m) (n:=40) (by omega);obtain ⟨q,hqq⟩ : ∃ q : Nat,Hid (pickN m 40 = q):=⟨(pickN m 40).toNat,by show _ = _; omega⟩;have hq40 : q < 40:=by have:=hqq.out; omega
     have HPk:=(mkH (∀ w,Calls Tryz.prog 23 #[.int .i64 m,.int .i64 40] w fun r w'=>r = .returned (.int .i64 q)/\w' = w) <|by
      rw [<- hqq.out];exact lpick_calls m 40 HM.out ⟨by omega,by omega⟩)
     have HFt:=(mkH ((f : Int) < T) <|hf);clear hp4 hf;go_wp2;clear hac
     go_loopw [11] (fun v wr=>∃ j : Nat,j<=q + 1/\v = .int .i64 j/\Hid (PlGoes own0 z w2 pb wr (fun D1=>J D1/\Sz (b + 8 * j) D1))) (fun v _=>q + 2 - (intOf v).toNat)
     case atStart=>exact ⟨0,by omega,rfl,own0,D,H2.out,Ext.refl _ _,Fr.refl _ _,H1.out.2.1,H1.out.2.2⟩
     case round =>
      obtain ⟨j,hjq,rfl,HG⟩:=hrel;obtain ⟨own3,D3,hP3,hE3,hF3,hj3,hS3⟩:=HG.out;have hac:=(hF3.at HA2.out (by rw [HX.out.2.2]; simp)).cell;have HP3:=(mkH (PlAt own3 z wr pb D3/\J D3/\Sz (b + 8 * j) D3) <|⟨hP3,hj3,hS3⟩);have HX3:=(mkH (Ext own0 own3 w2/\FrP own0 z w2 wr) <|⟨hE3,hF3⟩);clear hP3 hE3 hF3 hj3 hS3;go_wp2_with fail;refine Calls.mono (HPk.out wr) ?_;rintro r w3 ⟨rfl,rfl⟩;by_cases hlt : j<=q
      ·have HB:=(mkH (b + 8 * j<=2 ^ 37) <|by show b + 8 * j<=2 ^ 37; omega);go_wp2_with fail;refine (Pturn_calls HJ.out HP3.out.1 HP3.out.2.1 HP3.out.2.2 HB.out HFt.out).mono ?_;rintro r w4 ⟨mm,ss,rfl,hm8,own4,D4,hP4,hE4,hF4,hj4,hS4,hTu⟩;have HG2:=(mkH (PlGoes own0 z w2 pb w4 (fun D1=>J D1/\Sz (b + 8 * (j + 1)) D1)) <|PlGoes.trans HX3.out.1 HX3.out.2 ⟨own4,D4,hP4,hE4,hF4,hj4,hS4.mono (by omega)⟩);clear hP4 hE4 hF4 hj4 hS4 hTu hm8 HG hac;go_wp2
       go_roundw
       case rel=>exact ⟨j + 1,by omega,by go_num,HG2⟩
       case measure=>simp [intOf]; omega
      ·have HR:=(mkH (PlGoes own z w pb _ (fun D1=>J D1/\Sz (b + 400) D1)) <|HFin.out own3 _ _ HX3.out.1 HX3.out.2 (b + 8 * j) (by omega) ⟨own3,D3,HP3.out.1,Ext.refl _ _,Fr.refl _ _,HP3.out.2.1,HP3.out.2.2⟩);clear HG hac;go_wp2;go_ret;exact ⟨rfl,HR.out⟩
    ·have h4' : (kd == 4) = false:=by simpa using h4
     by_cases h6 : kd = 6
     ·subst h6;clear h1 h2 h3 h4;have hp4:=pickN_in (c:=m) (n:=12) (by omega);obtain ⟨q,hqq⟩ : ∃ q : Nat,Hid (pickN m 12 = q):=⟨(pickN m 12).toNat,by show _ = _; omega⟩;have hq40 : q < 12:=by have:=hqq.out; omega
      have HPk:=(mkH (∀ w,Calls Tryz.prog 23 #[.int .i64 m,.int .i64 12] w fun r w'=>r = .returned (.int .i64 q)/\w' = w) <|by
       rw [<- hqq.out];exact lpick_calls m 12 HM.out ⟨by omega,by omega⟩)
      clear hp4;go_wp2;clear hac
      go_loopw [15] (fun v wr=>∃ j : Nat,j<=q + 1/\v = .int .i64 j/\Hid (PlGoes own0 z w2 pb wr (fun D1=>J D1/\Sz b D1))) (fun v _=>q + 2 - (intOf v).toNat)
      case atStart=>exact ⟨0,by omega,rfl,own0,D,H2.out,Ext.refl _ _,Fr.refl _ _,H1.out.2.1,H1.out.2.2⟩
      case round =>
       obtain ⟨j,hjq,rfl,HG⟩:=hrel;obtain ⟨own3,D3,hP3,hE3,hF3,hj3,hS3⟩:=HG.out;have hac:=(hF3.at HA2.out (by rw [HX.out.2.2]; simp)).cell;have ha:=hP3.at_.cell;simp only [PlD.cells,pv] at ha;have HP3:=(mkH (PlAt own3 z wr pb D3/\J D3/\Sz b D3) <|⟨hP3,hj3,hS3⟩);have HX3:=(mkH (Ext own0 own3 w2/\FrP own0 z w2 wr) <|⟨hE3,hF3⟩);obtain ⟨how,q1,q3,hcall⟩:=Psweep_any HJ.out hP3 hj3 hS3;have HC:=(mkH (Calls _ _ _ _ _) <|hcall);unfold pv at HC;clear hP3 hE3 hF3 hj3 hS3 hcall;go_wp2_with fail;refine Calls.mono (HPk.out wr) ?_;rintro r w3 ⟨rfl,rfl⟩;by_cases hlt : j<=q
       ·go_wp2_with fail;refine Calls.mono HC.out ?_;rintro r w4 ⟨rfl,hg⟩;have HG2:=(mkH (PlGoes own0 z w2 pb w4 (fun D1=>J D1/\Sz b D1)) <|PlGoes.trans HX3.out.1 HX3.out.2 hg);clear hg HG hac ha HC;go_wp2
        go_roundw
        case rel=>exact ⟨j + 1,by omega,by go_num,HG2⟩
        case measure=>simp [intOf]; omega
       ·have HR:=(mkH (PlGoes own z w pb _ (fun D1=>J D1/\Sz (b + 400) D1)) <|HFin.out own3 _ _ HX3.out.1 HX3.out.2 b (by omega) ⟨own3,D3,HP3.out.1,Ext.refl _ _,Fr.refl _ _,HP3.out.2.1,HP3.out.2.2⟩);clear HG hac ha HC;go_wp2;go_ret;exact ⟨rfl,HR.out⟩
     ·have h6' : (kd == 6) = false:=by simpa using h6
      clear h1 h2 h3 h4 h6;have HR:=(mkH (PlGoes own z w pb w2 (fun D1=>J D1/\Sz (b + 400) D1)) <|HFin.out own0 w2 w2 (Ext.refl _ _) (Fr.refl _ _) b (by omega) ⟨own0,D,H2.out,Ext.refl _ _,Fr.refl _ _,H1.out.2.1,H1.out.2.2⟩);go_wp2;go_ret;exact ⟨rfl,HR.out⟩
end
end
end Go.Proofs.YtfccelbmacjifabGreat
