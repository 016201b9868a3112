import Derived.Test.YtfccelbmacjifabGreatP0
import Derived.Test.YtfccelbmacjifabGreatP9
set_option linter.unusedSimpArgs false
set_option maxRecDepth 100000
set_option maxHeartbeats 4000000
namespace Go.Proofs.YtfccelbmacjifabGreat
section
namespace T
def Rdr (t : PThread) : Prop:=t.busy = true/\(t.work.kind = 3\/t.work.kind = 4)/\3<=t.work.next/\t.work.next<=4
structure InvV (g : Gh) (P : PSt) : Prop where
 now : Ver P.mem P.ts (g.V P.clock) P.clock
 gts : ∀ T,0<=T->T<=P.clock->Gt (g.V T)
 rd : ∀ (i : Nat) t,P.ts[i]? = some t->Rdr t->Ver P.mem P.ts (g.V t.work.time) t.work.time/\0<=t.work.time/\t.work.time<=P.clock
section
variable {g g' : Gh} {M M' : PMem} {c c' T : Int} {r r' : PSweep} {i j : Nat} {t t' u : PThread} {ts ts' : List PThread} {P P' : PSt} {x d st : Int} {s : Bool} {key : Int} {k : PWork} {n : Int}
theorem Inv.f8no (h : Inv g P) (hx : (g.V P.clock).Has x) : ¬ Ex P.ts (Fr8 x):=by
 rintro ⟨j,u,hj,b,hk,hn,hm⟩;obtain ⟨a,n,q⟩:=(h.th j u hj).f8 b hk hn;rw [q.md] at hm
 have:=q.h
 simp at hm; grind
theorem Inv.ve_le (h : Inv g P) (hv : VE P.mem P.ts x s st d) : 0<=st/\st<=P.clock:=by
 rcases hv with e | ⟨⟨j,u,hj,b,hk,h9,h11,e1,e2,e3⟩,_⟩
 ·have:=h.e.ms _ _ _ _ e; omega
 ·have:=(h.th j u hj).s9 b h9 h11; omega
theorem Inv.nowOf (h : Inv g P) (he : ∀ x s d,A (g.V P.clock) x s d->∃ st,VE P.mem P.ts x s st d/\∀ st' d',VE P.mem P.ts x s st' d'->st' < st\/(st' = st/\d' = d)) : Ver P.mem P.ts (g.V P.clock) P.clock:=by
 refine ⟨h.n.ag,?_,fun x hx=>h.f8no hx,?_⟩
 ·intro x hx hr
  have:=(h.n.tn x hx).2
  simp only [Re] at hr; rw [this] at hr; cases hr
 ·intro x s d hd;obtain ⟨st,e1,e2⟩:=he x s d hd;exact ⟨st,e1,(h.ve_le e1).2,fun st' d' h1 _=>e2 st' d' h1⟩
theorem Ver.top (hR : Ver M ts (g.V c) c) (hle : ∀ x s st d,VE M ts x s st d->st<=c) (hd : A (g.V c) x s d) : ∃ st,VE M ts x s st d/\∀ st' d',VE M ts x s st' d'->st' < st\/(st' = st/\d' = d):=by
 obtain ⟨st,e1,e2,e3⟩:=hR.e x s d hd;exact ⟨st,e1,fun st' d' h1=>e3 st' d' h1 (hle _ _ _ _ h1)⟩
theorem nextG_V (P : PSt) (t : PThread) (i : Nat) (hT : T<=P.clock) : (nextG g P i t).V T = g.V T:=by
 unfold nextG;split
 ·split
  ·show (if T = P.clock + 1 then _ else g.V T) = _; rw [if_neg (by omega)]
  ·show (if T = P.clock + 1 then _ else g.V T) = _; rw [if_neg (by omega)]
 ·rfl
theorem Inv.clockStep (h : Inv g P) (ht : P.ts[i]? = some t) (hb : t.busy = true) : (P.step i t).1.clock = if Took P t then P.clock + 1 else P.clock:=by
 have hT:=h.th i t ht;obtain ⟨P',n,hs,ho⟩:=h.out ht hb;rw [hs];have no : ¬ (t.work.next = 8/\¬ P.limit<=P.clock)->¬ Took P t:=fun h1 h2=>h1 ⟨h2.1,h2.2.2⟩
 cases ho with
 | takeI hn hk hl=>rw [if_pos ⟨hn,.inl hk,hl⟩]
 | takeR hn hk hl=>rw [if_pos ⟨hn,.inr hk,hl⟩]
 | late hn hk hl=>rw [if_neg (fun e=>e.2.2 hl)]
 | _=>rw [if_neg (no (fun e=>by omega))]
theorem Inv.rdrStep (h : Inv g P) (ht : P.ts[i]? = some t) (hb : t.busy = true) : ∃ t',(P.step i t).1.ts = P.ts.set i t'/\(Rdr t'->(t.work.next = 2/\t'.work.time = P.clock/\¬ Took P t)\/(Rdr t/\t'.work.time = t.work.time)):=by
 have hT:=h.th i t ht;obtain ⟨P',n,hs,ho⟩:=h.out ht hb;rw [hs];have same : P.ts.set i t = P.ts:=by
  apply List.ext_getElem?;intro j;rw [List.getElem?_set];split
  ·next e=>subst e; split <;> simp_all
  ·rfl
 cases ho with
 | come1=>exact ⟨_,rfl,fun e=>by have : 3<=2:=e.2.2.1; omega⟩
 | come2 hn=>exact ⟨_,rfl,fun e=>.inl ⟨hn,rfl,fun q=>by have:=q.1; omega⟩⟩
 | come3 hn=>exact ⟨_,rfl,fun e=>.inr ⟨⟨hb,e.2.1,by omega,by omega⟩,rfl⟩⟩
 | leave=>exact ⟨_,rfl,fun e=>nomatch e.1⟩
 | rwait=>exact ⟨t,same.symm,fun e=>.inr ⟨e,rfl⟩⟩
 | lwait=>exact ⟨t,same.symm,fun e=>.inr ⟨e,rfl⟩⟩
 | rgo hn hk hp k ek hsk=>exact ⟨_,rfl,fun e=>.inr ⟨⟨hb,hk,by omega,by omega⟩,hsk.2.2.1⟩⟩
 | walkOn hn hk=>exact ⟨_,rfl,fun e=>by have : t.work.kind = 3\/t.work.kind = 4:=e.2.1; omega⟩
 | walkEnd hn hk=>exact ⟨_,rfl,fun e=>by have : t.work.kind = 3\/t.work.kind = 4:=e.2.1; omega⟩
 | lock hn hk=>exact ⟨_,rfl,fun e=>by have : t.work.kind = 3\/t.work.kind = 4:=e.2.1; omega⟩
 | home hn hk=>exact ⟨_,rfl,fun e=>by have : t.work.kind = 3\/t.work.kind = 4:=e.2.1; omega⟩
 | same hn hk=>exact ⟨_,rfl,fun e=>by have : t.work.kind = 3\/t.work.kind = 4:=e.2.1; omega⟩
 | right hn hk=>exact ⟨_,rfl,fun e=>by have : t.work.kind = 3\/t.work.kind = 4:=e.2.1; omega⟩
 | full hn hk=>exact ⟨_,rfl,fun e=>by have : t.work.kind = 3\/t.work.kind = 4:=e.2.1; omega⟩
 | prepI hn hk=>exact ⟨_,rfl,fun e=>by have : t.work.kind = 3\/t.work.kind = 4:=e.2.1; omega⟩
 | prepR hn hk=>exact ⟨_,rfl,fun e=>by have : t.work.kind = 3\/t.work.kind = 4:=e.2.1; omega⟩
 | late hn hk=>exact ⟨_,rfl,fun e=>by have : t.work.kind = 3\/t.work.kind = 4:=e.2.1; omega⟩
 | takeI hn hk=>exact ⟨_,rfl,fun e=>by have : t.work.kind = 3\/t.work.kind = 4:=e.2.1; omega⟩
 | takeR hn hk=>exact ⟨_,rfl,fun e=>by have : t.work.kind = 3\/t.work.kind = 4:=e.2.1; omega⟩
 | kill hn hk=>exact ⟨_,rfl,fun e=>by have : t.work.kind = 3\/t.work.kind = 4:=e.2.1; omega⟩
 | link hn hk=>exact ⟨_,rfl,fun e=>by have : t.work.kind = 3\/t.work.kind = 4:=e.2.1; omega⟩
 | stamp hn hk=>exact ⟨_,rfl,fun e=>by have : t.work.kind = 3\/t.work.kind = 4:=e.2.1; omega⟩
 | unlock hn hk=>exact ⟨_,rfl,fun e=>by have : t.work.kind = 3\/t.work.kind = 4:=e.2.1; omega⟩
theorem InvV.step (hV : InvV g P) (h : Inv g P) (ht : P.ts[i]? = some t) (hb : t.busy = true) : InvV (nextG g P i t) (P.step i t).1:=by
 have hT:=h.th i t ht;have hi:=(List.getElem?_eq_some_iff.1 ht).1;have hS:=h.step ht hb;have hck:=h.clockStep ht hb;have hc0:=h.o.sc;have keep : ∀ T,0<=T->T<=P.clock->Ver P.mem P.ts (g.V T) T->Ver (P.step i t).1.mem (P.step i t).1.ts (g.V T) T:=by
  intro T h0 h1 hR;refine h.verStep ht hb hR ?_;rcases (show T < P.clock\/T = P.clock by omega) with e | e
  ·exact .inl e
  ·exact .inr ⟨e,by rw [e]⟩
 have rd : ∀ (j : Nat) u,(P.step i t).1.ts[j]? = some u->Rdr u->Ver (P.step i t).1.mem (P.step i t).1.ts ((nextG g P i t).V u.work.time) u.work.time/\0<=u.work.time/\u.work.time<=(P.step i t).1.clock:=by
  intro j u hj hr;have fin : Ver P.mem P.ts (g.V u.work.time) u.work.time/\0<=u.work.time/\u.work.time<=P.clock->Ver (P.step i t).1.mem (P.step i t).1.ts ((nextG g P i t).V u.work.time) u.work.time/\0<=u.work.time/\u.work.time<=(P.step i t).1.clock:=by
   rintro ⟨q1,q2,q3⟩;rw [nextG_V P t i q3];refine ⟨keep _ q2 q3 q1,q2,?_⟩;rw [hck]; split <;> omega
  obtain ⟨t',e1,e2⟩:=h.rdrStep ht hb;rw [e1,List.getElem?_set] at hj;by_cases ej : i = j
  ·subst ej;simp [hi] at hj;subst hj;rcases e2 hr with ⟨_,q,_⟩ | ⟨q1,q2⟩
   ·refine fin ?_;rw [q]; exact ⟨hV.now,hc0.2,Int.le_refl _⟩
   ·refine fin ?_;rw [q2]; exact hV.rd i t ht q1
  ·rw [if_neg ej] at hj;exact fin (hV.rd j u hj hr)
 by_cases hk : Took P t
 ·rw [if_pos hk] at hck;refine ⟨?_,?_,rd⟩
  ·refine hS.nowOf ?_;rw [hck];have hle : ∀ x s st d,VE P.mem P.ts x s st d->st<=P.clock:=fun x s st d hv=>(h.ve_le hv).2
   have htop:=fun x s d=>hV.now.top (x:=x) (s:=s) (d:=d) hle
   obtain ⟨hn,hkd,hl⟩:=id hk;have m:=h.mine ht hb (by omega) (by omega);have hts:=m.ts (by omega) (by omega);rcases hkd with k1 | k2
   ·-- an Insert
    obtain ⟨P',nn,hs,ho⟩:=h.out ht hb;unfold nextG;rw [if_pos hk,if_neg (by omega),hs];cases ho with
    | takeI hn hk' hl a n q M1 em nd pd sdd =>
     have e0 : t.work.made[0]?.getD 0 = a:=by rw [q.md]; rfl
     have e0' : t.work.made[1]?.getD 0 = n:=by rw [q.md]; rfl
     rw [e0,e0'];have hgo:=h.found ht hb (by omega) (by omega);have e7:=(hT.e7 hb (by omega) (by omega)).1;have hdj:=h.n.gt.dj;have iEd : ∀ x s d,A ((insG g P.clock t.work a n).V (P.clock + 1)) x s d ↔ (A (g.V P.clock) x s d/\d≠t.work.ahead)\/(d = n/\A (g.V P.clock) x s t.work.ahead)\/(x = n/\d = kid P.mem t.work a s):=by
      intro x s d
      have:=Tr.ins_ed (k:=t.work.key) (v:=t.work.value) (a:=a) (n:=n) (x:=x) (s:=s) (d:=d) (u:=0) (b:=false) hdj
      rw [hgo] at this;show A (if P.clock + 1 = P.clock + 1 then _ else _) x s d ↔ _;rw [if_pos rfl]; exact this
     have sole : ∀ x s,A (g.V P.clock) x s t.work.ahead->x = t.work.stand/\s = sd P.mem t.work.stand t.work.key:=fun x s hx=>Tr.ed_par hdj h.n.gt.z hx e7
     have ksrc:=hts.2.2.2.2.1 k1;have kside : t.work.tside = sd P.mem t.work.stand t.work.key:=by rw [hts.2.2.2.1,ksrc]
     have sN : t.work.stand≠n:=by
      intro e; have:=q.dn.2.2.2.2; rw [<- e] at this; have:=m.hs; omega
     have n1 : ∀ x s st,¬ Vs x s st t:=no_vs (fun _=>.inl (by omega));have nn' : ∀ (j : Nat) u x s st,P.ts[j]? = some u->Vs x s st u->x≠n:=by
      rintro j u x s st hj hv rfl
      have:=(h.vsHeld hj hv).2
      rw [q.dn.2.2.2.2] at this; omega
     -- the entries,old and new
     have ve : ∀ x s st d,VE M1 (P.ts.set i { t with work:={ t.work with ans:={ did:=true,stamp:=P.clock + 1 },next:=10 } }) x s st d ↔ VE P.mem P.ts x s st d\/(x = n/\st = P.clock + 1/\d = kid P.mem t.work a s)\/(x = t.work.stand/\s = sd P.mem t.work.stand t.work.key/\st = P.clock + 1/\d = n):=by
      intro x s st d;constructor
      ·rintro (hv | ⟨q1,q2⟩)
       ·rcases (sdd _ _ _ _).1 hv with e | e
        ·exact .inl (.inl e)
        ·exact .inr (.inl e)
       ·rcases (Ex.get ht).1 q1 with ⟨_,_,_,_,x1,x2,x3⟩ | ⟨j,u,_,hj,hv⟩
        ·right; right;have x1 : t.work.tsrc = x:=x1;have x2 : t.work.tside = s:=x2;rw [ksrc] at x1; rw [kside] at x2;refine ⟨x1.symm,x2.symm,x3.symm,?_⟩;rw [<- x1,<- x2,pd,if_neg sN,q.ps] at q2;simpa using q2.symm
        ·left; right;refine ⟨⟨j,u,hj,hv⟩,?_⟩;rw [pd,if_neg (nn' j u x s st hj hv)] at q2; exact q2
      ·rintro ((hv | ⟨q1,q2⟩) | e | ⟨rfl,rfl,rfl,rfl⟩)
       ·exact .inl ((sdd _ _ _ _).2 (.inl hv))
       ·refine .inr ⟨q1.set ht (fun e=>absurd e (n1 _ _ _)),?_⟩;obtain ⟨j,u,hj,hv⟩:=q1;rw [pd,if_neg (nn' j u x s st hj hv)]; exact q2
       ·exact .inl ((sdd _ _ _ _).2 (.inr e))
       ·refine .inr ⟨Ex.new ht ⟨hb,.inl k1,by show 9<=10; omega,by show 10<=11; omega,ksrc,kside,rfl⟩,?_⟩;rw [pd,if_neg sN]; exact q.ps
     intro x s d hd;rcases (iEd x s d).1 hd with ⟨e1,e2⟩ | ⟨rfl,e1⟩ | ⟨rfl,rfl⟩
     ·obtain ⟨st,f1,f2⟩:=htop x s d e1;refine ⟨st,(ve _ _ _ _).2 (.inl f1),?_⟩;intro st' d' hv;rcases (ve _ _ _ _).1 hv with e | e | e
      ·exact f2 st' d' e
      ·exfalso;rcases (Tr.ed_has e1).2 with z | z
       ·exact q.z.2.1 (e.1.symm.trans z)
       ·exact q.h.2.1 (e.1 ▸ Tr.inn_has z)
      ·exfalso;obtain ⟨rfl,rfl,_,_⟩:=e;exact e2 (Tr.ed_fn hdj h.n.gt.z e1 e7)
     ·obtain ⟨rfl,rfl⟩:=sole x s e1;refine ⟨P.clock + 1,(ve _ _ _ _).2 (.inr (.inr ⟨rfl,rfl,rfl,rfl⟩)),?_⟩;intro st' d' hv;rcases (ve _ _ _ _).1 hv with e | e | e
      ·left; have:=hle _ _ _ _ e; omega
      ·exact absurd e.1 sN
      ·exact .inr ⟨e.2.2.1,e.2.2.2⟩
     ·refine ⟨P.clock + 1,(ve _ _ _ _).2 (.inr (.inl ⟨rfl,rfl,rfl⟩)),?_⟩;intro st' d' hv;rcases (ve _ _ _ _).1 hv with e | e | e
      ·left; have:=hle _ _ _ _ e; omega
      ·exact .inr ⟨e.2.1,e.2.2⟩
      ·exact absurd e.1.symm sN
    | _=>omega
   ·-- a Remove
    obtain ⟨P',nn,hs,ho⟩:=h.out ht hb;unfold nextG;rw [if_pos hk,if_pos k2,hs];cases ho with
    | takeR hn hk' hl =>
     have hcut:=h.cut ht hb (by omega) (by omega) k2;have hdj:=h.n.gt.dj;have e10:=((hT.e7 hb (by omega) (by omega)).2.2 k2).1;have q8:=hT.q8 hb k2 (by omega) (by omega);have iEd : ∀ x s d,A ((g.V P.clock).del t.work.key) x s d ↔ (A (g.V P.clock) x s d/\x≠t.work.stand/\d≠t.work.stand)\/(x = t.work.above/\s = sd P.mem t.work.above t.work.key/\d = Ld P.mem t.work.stand (!sd P.mem t.work.stand t.work.key)):=fun x s d=>Tr.del_ed hdj h.n.gt.z hcut
     have ksrc:=hts.2.2.2.2.2 k2;have kside : t.work.tside = sd P.mem t.work.above t.work.key:=by rw [hts.2.2.2.1,ksrc]
     have n1 : ∀ x s st,¬ Vs x s st t:=no_vs (fun _=>.inl (by omega));have ve : ∀ x s st d,VE P.mem (P.ts.set i { t with work:={ t.work with ans:={ did:=true,stamp:=P.clock + 1,value:=(P.mem.node t.work.ahead).value },next:=9 } }) x s st d ↔ VE P.mem P.ts x s st d\/(x = t.work.above/\s = sd P.mem t.work.above t.work.key/\st = P.clock + 1/\d = Ld P.mem t.work.stand (!sd P.mem t.work.stand t.work.key)):=by
      intro x s st d;constructor
      ·rintro (hv | ⟨q1,q2⟩)
       ·exact .inl (.inl hv)
       ·rcases (Ex.get ht).1 q1 with ⟨_,_,_,_,x1,x2,x3⟩ | ⟨j,u,_,hj,hv⟩
        ·right;have x1 : t.work.tsrc = x:=x1;have x2 : t.work.tside = s:=x2;rw [ksrc] at x1; rw [kside] at x2;refine ⟨x1.symm,x2.symm,x3.symm,?_⟩;rw [<- x1,<- x2,q8.1] at q2;simpa using q2.symm
        ·exact .inl (.inr ⟨⟨j,u,hj,hv⟩,q2⟩)
      ·rintro ((hv | ⟨q1,q2⟩) | ⟨rfl,rfl,rfl,rfl⟩)
       ·exact .inl hv
       ·exact .inr ⟨q1.set ht (fun e=>absurd e (n1 _ _ _)),q2⟩
       ·exact .inr ⟨Ex.new ht ⟨hb,.inr k2,by show 9<=9; omega,by show 9<=11; omega,ksrc,kside,rfl⟩,q8.1⟩
     intro x s d hd;have hd : A ((g.V P.clock).del t.work.key) x s d:=by
      have hd : A (if P.clock + 1 = P.clock + 1 then _ else _) x s d:=hd;rw [if_pos rfl] at hd; exact hd
     rcases (iEd x s d).1 hd with ⟨e1,e2,e3⟩ | ⟨rfl,rfl,rfl⟩
     ·obtain ⟨st,f1,f2⟩:=htop x s d e1;refine ⟨st,(ve _ _ _ _).2 (.inl f1),?_⟩;intro st' d' hv;rcases (ve _ _ _ _).1 hv with e | e
      ·exact f2 st' d' e
      ·exfalso;obtain ⟨rfl,rfl,_,_⟩:=e;exact e3 (Tr.ed_fn hdj h.n.gt.z e1 e10)
     ·refine ⟨P.clock + 1,(ve _ _ _ _).2 (.inr ⟨rfl,rfl,rfl,rfl⟩),?_⟩;intro st' d' hv;rcases (ve _ _ _ _).1 hv with e | e
      ·left; have:=hle _ _ _ _ e; omega
      ·exact .inr ⟨e.2.2.1,e.2.2.2⟩
    | _=>omega
  ·intro T h0 h1;rw [hck] at h1;rcases (show T<=P.clock\/T = P.clock + 1 by omega) with e | e
   ·rw [nextG_V P t i e]; exact hV.gts T h0 e
   ·rw [e,<- hck]; exact hS.n.gt
 ·rw [if_neg hk] at hck;refine ⟨?_,?_,rd⟩
  ·rw [hck,nextG_V P t i (Int.le_refl _)];exact keep _ hc0.2 (Int.le_refl _) hV.now
  ·intro T h0 h1;rw [hck] at h1;rw [nextG_V P t i h1]; exact hV.gts T h0 h1
end
end T
end
section
namespace T
section
variable {g g' : Gh} {M M' : PMem} {c c' T : Int} {r r' : PSweep} {i j : Nat} {t t' u : PThread} {ts ts' : List PThread} {P P' : PSt} {x d st : Int} {s : Bool} {key : Int} {k : PWork} {n : Int}
theorem Ver.stay {tr : Tr} (hR : Ver M ts tr T) (hn : ∀ x,tr.Has x->M'.node x = M.node x) (h1 : ∀ x s d st,(x = 0\/tr.Inn x)->VE M ts x s st d->st<=T->(∀ st' d',VE M ts x s st' d'->st'<=T->st' < st\/(st' = st/\d' = d))->VE M' ts x s st d) (h2 : ∀ x s st d,(x = 0\/tr.Inn x)->VE M' ts x s st d->VE M ts x s st d) : Ver M' ts tr T:=by
 refine ⟨⟨?_,?_⟩,?_,hR.f,?_⟩
 ·intro x q hq; simp only [Us,Ln,Ky]; rw [hn x (Tr.nod_has hq)]; exact hR.a.n x q hq
 ·intro x q w hq; simp only [Us,Ln,Ky]; rw [hn x (Tr.lea_has hq)]; exact hR.a.l x q w hq
 ·intro x hx; simp only [Re,Ra]; rw [hn x hx]; exact hR.r x hx
 ·intro x s d hd;obtain ⟨st,e1,e2,e3⟩:=hR.e x s d hd;have hx:=(Tr.ed_has hd).2;exact ⟨st,h1 x s d st hx e1 e2 e3,e2,fun st' d' q1 q2=>e3 st' d' (h2 x s st' d' hx q1) q2⟩
theorem sweepG_V (g : Gh) (P : PSt) : (sweepG g P).V = g.V:=by unfold sweepG; split <;> rfl
theorem InvV.sweep (hV : InvV g P) (h : Inv g P) : InvV (sweepG g P) P.doSweep.1:=by
 obtain ⟨now,gts,rd⟩:=hV
 -- it is enough to keep versions
 suffices hh : P.doSweep.1.clock = P.clock/\P.doSweep.1.ts = P.ts/\(Ver P.doSweep.1.mem P.ts (g.V P.clock) P.clock)/\(∀ (i : Nat) t,P.ts[i]? = some t->Rdr t->Ver P.doSweep.1.mem P.ts (g.V t.work.time) t.work.time) by
  obtain ⟨h1,h2,h3,h4⟩:=hh;refine ⟨?_,?_,?_⟩
  ·rw [sweepG_V,h1,h2]; exact h3
  ·rw [sweepG_V,h1]; exact gts
  ·rw [sweepG_V,h1,h2];intro i t ht hr
   have:=rd i t ht hr
   exact ⟨h4 i t ht hr,this.2⟩
 have rd':=fun i t ht hr=>(rd i t ht hr).1
 have hsm:=h.o.sm;unfold PSt.doSweep;simp only;split
 ·exact ⟨rfl,rfl,now,rd'⟩
 ·next hm0 =>
  split
  ·split <;> exact ⟨rfl,rfl,now,rd'⟩
  ·next hl =>
   -- all have been looked at
   have pass : ∀ (i : Nat) u,P.ts[i]? = some u->Rdr u->(P.sweep.hasTime = true/\P.sweep.time<=u.work.time)\/P.sweep.clock<=u.work.time:=by
    intro i u hu hr;have hil:=(List.getElem?_eq_some_iff.1 hu).1;exact ((h.th i u hu).tm hr.1 hr.2.2.1).2 (by omega)
   split
   ·have he : ∀ e,e = (if (P.sweep.hasTime && decide (P.sweep.time < P.sweep.clock)) = true then P.sweep.time else P.sweep.clock)->e<=P.sweep.clock/\(P.sweep.hasTime = true->e<=P.sweep.time):=by
     rintro e rfl;split
     ·next hh=>simp at hh; exact ⟨by omega,fun _=>Int.le_refl _⟩
     ·next hh =>
      refine ⟨Int.le_refl _,fun e=>?_⟩;simp [e] at hh; exact hh
    have he:=he _ rfl;generalize (if (P.sweep.hasTime && decide (P.sweep.time < P.sweep.clock)) = true then P.sweep.time else P.sweep.clock) = e at *;obtain ⟨g1,g2,g3,g4⟩:=drop_ok h.wm e;have hnd:=node_ns g1;generalize P.mem.drop e = M1 at *;have ver : ∀ tr T,Ver P.mem P.ts tr T->e<=T->Ver M1 P.ts tr T:=by
     intro tr T hR hT;refine hR.stay (fun x _=>hnd x) ?_ ?_
     ·rintro x s d st _ (q | ⟨q1,q2⟩) hs hg
      ·refine .inl ((g4 x s st d).2 ⟨q,?_⟩);intro s' d' q' hlt hle
       have:=hg s' d' (.inl q') (by omega)
       omega
      ·exact .inr ⟨q1,by rw [g3]; exact q2⟩
     ·rintro x s st d _ (q | ⟨q1,q2⟩)
      ·exact .inl ((g4 x s st d).1 q).1
      ·exact .inr ⟨q1,by rw [g3] at q2; exact q2⟩
    refine ⟨rfl,rfl,ver _ _ now (by have:=h.o.sc; omega),?_⟩;intro j u hj hr;refine ver _ _ (rd' j u hj hr) ?_;rcases pass j u hj hr with q | q
    ·have:=he.2 q.1; omega
    ·omega
   ·next hne =>
    have hre : ∀ x,InSw P.sweep x->Re P.mem x/\g.O x:=by
     intro x hx;have h1:=(h.o.sw x hx).1;exact ⟨h1,h.n.od x (h.n.re x h1).1⟩
    obtain ⟨g1,g2,g3⟩:=freesIf_ok P.sweep.hasTime P.sweep.time P.sweep.retired P.mem h.wm (by
     intro n hn
     have:=h.n.ou _ (hre (n : Int) ⟨n,hn,rfl⟩).2
     exact ⟨hasN_used this.1,this.2.2.1,fun e=>this.2.1 (e ▸ Tr.lea_has h.n.gt.one)⟩)
    generalize P.mem.freesIf P.sweep.hasTime P.sweep.time P.sweep.retired = M1 at *;have ver : ∀ tr T,Ver P.mem P.ts tr T->(∀ x,InSw P.sweep x->(P.sweep.hasTime = true->Ra P.mem x < P.sweep.time)->Ra P.mem x<=T)->Ver M1 P.ts tr T:=by
     intro tr T hR hT;have stay : ∀ x,(x = 0\/tr.Has x)->¬ Gone P.mem P.sweep.hasTime P.sweep.time P.sweep.retired x:=by
      rintro x hx ⟨hin,hc⟩;obtain ⟨q1,q2⟩:=hre x hin;rcases hx with rfl | hx
      ·exact (h.n.ou 0 q2).2.2.1 rfl
      ·have h1:=hR.r x hx q1;have h2:=hT x hin hc;omega
     have inn : ∀ x,(x = 0\/tr.Inn x)->(x = 0\/tr.Has x):=fun x hx=>hx.imp id Tr.inn_has
     refine hR.stay (fun x hx=>((g3 x).2 (stay x (.inr hx))).1) ?_ ?_
     ·rintro x s d st hx hv _ _;have hst:=(g3 x).2 (stay x (inn x hx));rcases hv with q | ⟨q1,q2⟩
      ·exact .inl ((hst.2.2 s st d).2 q)
      ·exact .inr ⟨q1,by rw [hst.2.1]; exact q2⟩
     ·rintro x s st d hx hv;have hst:=(g3 x).2 (stay x (inn x hx));rcases hv with q | ⟨q1,q2⟩
      ·exact .inl ((hst.2.2 s st d).1 q)
      ·exact .inr ⟨q1,by rw [hst.2.1] at q2; exact q2⟩
    refine ⟨rfl,rfl,ver _ _ now ?_,?_⟩
    ·intro x hx _
     have:=(h.o.sw x hx).2
     have:=h.o.sc.1
     omega
    ·intro j u hj hr;refine ver _ _ (rd' j u hj hr) ?_;intro x hx hc;have h1:=(h.o.sw x hx).2;rcases pass j u hj hr with q | q
     ·have:=hc q.1; omega
     ·omega
theorem Inv.ledIs (h : Inv g P) {tr : Tr} (hR : Ver P.mem P.ts tr T) (hA : A tr x s d) (hp : Pd P.mem x s = []) : P.mem.ledTo x s T = d:=by
 obtain ⟨st,g1,g2,g3⟩:=hR.e x s d hA;have hsd : ∀ st d,VE P.mem P.ts x s st d->Sd P.mem x s st d:=by
  rintro st d (q | ⟨_,q⟩)
  ·exact q
  ·rw [hp] at q; cases q
 have g1':=hsd _ _ g1;rcases ledTo_ok (M:=P.mem) (n:=x) (b:=s) (time:=T) (fun st d hh=>(h.e.ms x s st d hh).2.1) with ⟨_,q⟩ | ⟨s2,q1,q2,q3⟩
 ·exact absurd g2 (q st d g1')
 ·have:=q3 st d g1' g2
  rcases g3 s2 _ (.inl q1) q2 with z | z
  ·omega
  ·exact z.2
end
end T
end
section
def SmallAns (a : BAns) : Prop:=a.spans.length<=16/\∀ l ∈ a.spans,l.length<=64
theorem SmallAns.zero {a : BAns} (h : a.spans = []) : SmallAns a:=⟨by rw [h]; simp,by rw [h]; simp⟩
structure FitK (N : Nat) (k : PWork) : Prop where
 kd : k.kind = 1\/k.kind = 2\/k.kind = 3\/k.kind = 4
 nx : 1<=k.next/\k.next<=13
 rd : (k.kind = 3\/k.kind = 4)->k.next<=4\/k.next = 13
 made : k.made.length<=2/\(k.next<=7->k.made = [])
 locks : k.locks<=2
 links : k.kind = 4->k.links.length<=N + 1
 spans : k.kind = 4->k.spans.length<=16
 noted : k.noted.length<=N
 ans : SmallAns k.ans
abbrev FitT (N : Nat) (t : PThread) : Prop:=FitK N t.work
structure Fit (N : Nat) (P : PSt) : Prop where
 kind : P.kind = 0\/P.kind = 1
 clk : 0<=P.clock/\P.clock<=P.limit
 lim : P.limit<=1099511627776
 thr : 1<=P.ts.length/\P.ts.length<=8
 swp : P.sweep.made<=P.ts.length + 2/\P.sweep.retired.length<=66
 th : ∀ (i : Nat) t,P.ts[i]? = some t->(t.busy = true->FitT N t)/\SmallAns t.last
section
variable {N : Nat} {P : PSt} {i : Nat} {t : PThread}
theorem FitK.mono {N' : Nat} {k : PWork} (h : FitK N k) (hN : N<=N') : FitK N' k:=⟨h.kd,h.nx,h.rd,h.made,h.locks,fun h4=>Nat.le_trans (h.links h4) (Nat.succ_le_succ hN),h.spans,Nat.le_trans h.noted hN,h.ans⟩
theorem setW_eq (P : PSt) {i : Nat} {t : PThread} (ht : P.ts[i]? = some t) (k : PWork) : P.ts.modify i (fun t=>{ t with work:=k }) = P.ts.set i { t with work:=k }:=by
 apply List.ext_getElem?;intro j;rw [List.getElem?_modify,List.getElem?_set];by_cases e : i = j
 ·subst e;obtain ⟨h1,h2⟩:=List.getElem?_eq_some_iff.1 ht;simp [h1,h2]
 ·simp [e]
structure Turned (N : Nat) (P : PSt) (i : Nat) (t : PThread) (R : PSt × Int) : Prop where
 to : ∃ M c t',R.1 = { P with mem:=M,clock:=c,ts:=P.ts.set i t' }/\(c = P.clock\/(c = P.clock + 1/\P.clock < P.limit))/\(t'.busy = true->FitT (N + 1) t')/\SmallAns t'.last/\t'.busy = (if R.2 = 3 then false else true)/\(R.2≠3->t'.hasEnded = t.hasEnded/\t'.last = t.last)
 how : 1<=R.2/\R.2<=3
theorem answerOf_small (spans noted : List (Int × Int)) (st : Int) (h : spans.length<=16) : SmallAns (answerOf spans noted st):=by
 unfold answerOf;split
 ·exact SmallAns.zero rfl
 ·next hh =>
  refine ⟨by simp [spanLists,h],?_⟩;have key : ∀ (ll : List (List (Int × Int))) l,l ∈ ll->l.length<=lensOf ll:=by
   intro ll
   induction ll with
   | nil=>intro l hl; simp at hl
   | cons a r ih =>
    intro l hl;rw [lensOf];rcases List.mem_cons.1 hl with rfl | hl
    ·omega
    ·have:=ih l hl; omega
  intro l hl
  have:=key _ l hl
  simp only at this;omega
theorem Turned.work (ht : P.ts[i]? = some t) (hb : t.busy = true) (hl : SmallAns t.last) {M : PMem} {c : Int} {k : PWork} {n : Int} (hn : n = 1\/n = 2) (hc : c = P.clock\/(c = P.clock + 1/\P.clock < P.limit)) (hk : FitT (N + 1) { t with work:=k }) :
  Turned N P i t (({ P with mem:=M,clock:=c } : PSt).setW i k,n):=by
 refine ⟨⟨M,c,{ t with work:=k },?_,hc,fun _=>hk,hl,?_,fun _=>⟨rfl,rfl⟩⟩,by show 1<=n/\n<=3; omega⟩
 ·unfold PSt.setW;simp only;rw [setW_eq P ht]
 ·rw [if_neg (show ¬ n = 3 by omega)]; exact hb
theorem Turned.same (ht : P.ts[i]? = some t) (hb : t.busy = true) (hl : SmallAns t.last) (hk : FitT N t) {n : Int} (hn : n = 1\/n = 2) : Turned N P i t (P,n):=by
 refine ⟨⟨P.mem,P.clock,t,?_,.inl rfl,fun _=>hk.mono (Nat.le_succ N),hl,?_,fun _=>⟨rfl,rfl⟩⟩,by show 1<=n/\n<=3; omega⟩
 ·have : P.ts.set i t = P.ts:=by
   apply List.ext_getElem?;intro j;rw [List.getElem?_set];split
   ·next e=>subst e; split <;> simp_all
   ·rfl
  simp only;rw [this]
 ·rw [if_neg (show ¬ n = 3 by omega)]; exact hb
theorem Fit.turn (h : Fit N P) (ht : P.ts[i]? = some t) (hb : t.busy = true) : Turned N P i t (P.step i t):=by
 obtain ⟨hT,hl⟩:=h.th i t ht;have hT:=hT hb;have hk0:=h.kind;have hlks : ∀ (n lo hi : Int),(P.linksWithin n lo hi).length<=2:=by
  intro n lo hi;unfold PSt.linksWithin;have h1 : ∀ (b : Bool) (x : Int × Bool),(if b = true then [x] else ([] : List (Int × Bool))).length<=1:=by intro b x; split <;> simp
  split
  ·split <;> simp
  ·rw [List.length_append];have a1:=h1 ((P.mem.node n).links == 2 && decide (lo < (P.mem.node n).key)) (n,false);have a2:=h1 ((P.mem.node n).links == 2 && decide ((P.mem.node n).key<=hi)) (n,true);omega
 have hnx:=hT.nx;have m1:=hT.made;have fit : ∀ k : PWork,k.kind = t.work.kind->(1<=k.next/\k.next<=13)->((k.kind = 3\/k.kind = 4)->k.next<=4\/k.next = 13)->(k.made.length<=2/\(k.next<=7->k.made = []))->k.locks<=2->(k.kind = 4->k.links.length<=N + 1 + 1)->k.spans = t.work.spans->k.noted.length<=N + 1->SmallAns k.ans->FitK (N + 1) k:=by
  intro k e1 e2 e3 e4 e5 e6 e7 e8 e9;exact ⟨by show k.kind = 1\/_; rw [e1]; exact hT.kd,e2,e3,e4,e5,e6,fun h4=>by show k.spans.length<=16; rw [e7]; exact hT.spans (e1 ▸ h4),e8,e9⟩
 have hN : t.work.noted.length<=N + 1:=Nat.le_trans hT.noted (Nat.le_succ N);have sT : ∀ (t' : PThread) n,t'.busy = true->t'.last = t.last->t'.hasEnded = t.hasEnded->FitT (N + 1) t'->(n = 1\/n = 2)->Turned N P i t (P.setT i t',n):=by
  intro t' n hb' hl' he' hf hn;refine ⟨⟨P.mem,P.clock,t',rfl,.inl rfl,fun _=>hf,hl' ▸ hl,?_,fun _=>⟨he',hl'⟩⟩,by show 1<=n/\n<=3; omega⟩;rw [if_neg (show ¬ n = 3 by omega)]; exact hb'
 have hkd:=hT.kd;have upd : ¬ (t.work.kind = 3\/t.work.kind = 4)->∀ k : PWork,k.kind = t.work.kind->¬ (k.kind = 3\/k.kind = 4):=fun h1 k e=>e ▸ h1
 unfold PSt.step;split
 ·next hn=>exact sT _ 1 hb rfl rfl (fit _ rfl (by constructor <;> (simp only; omega)) (fun hr=>.inl (by simp only; omega)) ⟨m1.1,fun _=>m1.2 (by omega)⟩ hT.locks (fun h4=>Nat.le_succ_of_le (hT.links h4)) rfl hN hT.ans) (.inl rfl)
 ·next hn=>exact sT _ 1 hb rfl rfl (fit _ rfl (by constructor <;> (simp only; omega)) (fun hr=>.inl (by simp only; omega)) ⟨m1.1,fun _=>m1.2 (by omega)⟩ hT.locks (fun h4=>Nat.le_succ_of_le (hT.links h4)) rfl hN hT.ans) (.inl rfl)
 ·next hn=>exact sT _ 1 hb rfl rfl (fit t.work.home rfl (by simp [PWork.home]) (fun hr=>.inl (by simp [PWork.home])) ⟨m1.1,fun _=>m1.2 (by omega)⟩ hT.locks (fun h4=>Nat.le_succ_of_le (hT.links h4)) rfl hN hT.ans) (.inl rfl)
 ·next hn =>
  refine ⟨⟨P.mem,P.clock,t.leave,rfl,.inl rfl,fun hh=>?_,hT.ans,?_,fun hh=>absurd rfl hh⟩,by show (1 : Int)<=3/\(3 : Int)<=3; decide⟩
  ·simp [PThread.leave] at hh
  ·simp [PThread.leave]
 ·next n1 n2 n3 n13 =>
  have n1' : t.work.next≠1:=n1
  have n2' : t.work.next≠2:=n2
  have n3' : t.work.next≠3:=n3
  have n13' : t.work.next≠13:=n13
  split
  ·next hr =>
   -- a read
   have hn4 : t.work.next = 4:=by have:=hT.rd hr; omega
   unfold PSt.read;simp only;split
   ·exact Turned.same ht hb hl hT (.inr rfl)
   ·have goal : ∀ k : PWork,FitT (N + 1) { t with work:=k }->Turned N P i t (P.setW i k,1):=fun k hk=>Turned.work (M:=P.mem) (c:=P.clock) ht hb hl (.inl rfl) (.inl rfl) hk
    by_cases h3 : t.work.kind = 3
    ·rw [if_pos h3];apply goal;unfold PSt.lookUp;split
     ·exact fit _ rfl (by simp only; omega) (fun _=>.inl (by simp only; omega)) ⟨m1.1,fun _=>m1.2 (by omega)⟩ hT.locks (fun h4=>by have : t.work.kind = 4:=h4; omega) rfl hN hT.ans
     ·refine fit _ rfl (by simp [PWork.conclude]) (fun _=>.inr rfl) ⟨m1.1,fun hh=>by simp [PWork.conclude] at hh⟩ hT.locks (fun h4=>absurd h4 (by simp [PWork.conclude,h3])) rfl hN ?_;simp only [PWork.conclude];split <;> exact SmallAns.zero rfl
    ·have h4 : t.work.kind = 4:=by omega
     rw [if_neg h3];apply goal;have hlk:=hT.links h4;have hlw:=hlks (P.mem.ledTo (P.linkNext t.work).1 (P.linkNext t.work).2 t.work.time) (leastLo t.work.spans) (greatestHi t.work.spans);have hll : (P.linksWithin (P.mem.ledTo (P.linkNext t.work).1 (P.linkNext t.work).2 t.work.time) (leastLo t.work.spans) (greatestHi t.work.spans) ++ List.drop 1 t.work.links).length<=N + 1 + 1:=by
      rw [List.length_append,List.length_drop]; omega
     have hsp:=hT.spans h4;unfold PSt.scan;simp only;have hno : ∀ (b : Bool) (q : Int × Int),(if b = true then t.work.noted ++ [q] else t.work.noted).length<=N + 1:=by
      intro b q
      have:=hT.noted
      split
      ·rw [List.length_append]; simp; omega
      ·omega
     split
     ·exact fit _ rfl (by simp [PWork.conclude]) (fun _=>.inr rfl) ⟨m1.1,fun hh=>by simp [PWork.conclude] at hh⟩ hT.locks (fun _=>by simpa [PWork.conclude] using hll) rfl (hno _ _) (answerOf_small _ _ _ hsp)
     ·next hne =>
      exact fit _ rfl (by simp [hn4]) (fun _=>.inl (by simp [hn4])) ⟨m1.1,fun _=>m1.2 (by omega)⟩ hT.locks (fun _=>hll) rfl (hno _ _) hT.ans
  ·next hr =>
   -- an update
   have hnr : ∀ k : PWork,k.kind = t.work.kind->¬ (k.kind = 3\/k.kind = 4):=upd hr;have n4 : ∀ k : PWork,k.kind = t.work.kind->¬ k.kind = 4:=fun k e h4=>hnr k e (.inr h4)
   have go : ∀ (M : PMem) (c : Int) (k : PWork),(c = P.clock\/(c = P.clock + 1/\P.clock < P.limit))->k.kind = t.work.kind->(1<=k.next/\k.next<=13)->(k.made.length<=2/\(k.next<=7->k.made = []))->k.locks<=2->k.spans = t.work.spans->k.noted = t.work.noted->SmallAns k.ans->Turned N P i t (({ P with mem:=M,clock:=c } : PSt).setW i k,1):=by
    intro M c k hc e1 e2 e3 e4 e5 e6 e7;exact Turned.work ht hb hl (.inl rfl) hc (fit k e1 e2 (fun hh=>absurd hh (hnr k e1)) e3 e4 (fun hh=>absurd hh (n4 k e1)) e5 (e6 ▸ hN) e7)
   unfold PSt.update;split
   ·next hn =>
    refine go P.mem P.clock _ (.inl rfl) ?_ ?_ ?_ ?_ ?_ ?_ ?_ <;> unfold PSt.walk <;> split
    all_goals first | rfl | exact hT.ans | exact hT.locks | (simp only; omega) | exact ⟨m1.1,fun _=>m1.2 (by omega)⟩
   ·next hn =>
    unfold PSt.lock;split
    ·next hlt =>
     have hwl : (P.wanted t.work).length<=2:=by
      unfold PSt.wanted;split
      ·split <;> simp
      ·simp
     split
     ·refine go _ P.clock _ (.inl rfl) rfl ?_ ⟨m1.1,fun _=>m1.2 (by omega)⟩ (by simp only; omega) rfl rfl hT.ans;simp only;split <;> omega
     ·exact Turned.same ht hb hl hT (.inr rfl)
    ·exact go P.mem P.clock _ (.inl rfl) rfl (by simp) ⟨m1.1,fun _=>m1.2 (by omega)⟩ hT.locks rfl rfl hT.ans
   ·next hn =>
    unfold PSt.check;split
    ·exact go _ P.clock _ (.inl rfl) rfl (by simp [PWork.home]) ⟨m1.1,fun _=>m1.2 (by omega)⟩ (by simp [PWork.home]) rfl rfl hT.ans
    ·split
     ·exact go P.mem P.clock _ (.inl rfl) rfl (by simp [PWork.settle]) ⟨m1.1,fun hh=>by simp [PWork.settle] at hh⟩ hT.locks rfl rfl (SmallAns.zero rfl)
     ·exact go P.mem P.clock _ (.inl rfl) rfl (by simp) ⟨m1.1,fun _=>m1.2 (by omega)⟩ hT.locks rfl rfl hT.ans
   ·next hn =>
    have hm0:=m1.2 (by omega);unfold PSt.prepare;split
    ·exact go P.mem P.clock _ (.inl rfl) rfl (by simp [PWork.settle]) ⟨m1.1,fun hh=>by simp [PWork.settle] at hh⟩ hT.locks rfl rfl (SmallAns.zero rfl)
    ·refine go _ P.clock _ (.inl rfl) ?_ (by simp) ?_ ?_ ?_ ?_ ?_ <;> by_cases h1 : t.work.kind = 1 <;> simp only [h1,if_true,if_false] <;> rcases hk0 with hk0 | hk0 <;> first | (unfold PSt.prepareInsert; simp only [hk0,if_true,hm0,show ¬ ((1 : Int) = 0) by decide,if_false]) | (unfold PSt.prepareRemove; simp only [hk0,if_true,hm0,show ¬ ((1 : Int) = 0) by decide,if_false])
     all_goals first | rfl | exact hT.ans | exact hT.locks | exact h1 | (constructor <;> simp)
   ·next hn =>
    unfold PSt.take;split
    ·exact go _ P.clock _ (.inl rfl) rfl (by simp [PWork.settle]) ⟨m1.1,fun hh=>by simp [PWork.settle] at hh⟩ hT.locks rfl rfl (SmallAns.zero rfl)
    ·next hlim =>
     have hc : P.clock + 1 = P.clock\/(P.clock + 1 = P.clock + 1/\P.clock < P.limit):=.inr ⟨rfl,by omega⟩;simp only;split
     ·exact go P.mem (P.clock + 1) _ hc rfl (by simp) ⟨m1.1,fun hh=>by simp at hh⟩ hT.locks rfl rfl (SmallAns.zero rfl)
     ·exact go _ (P.clock + 1) _ hc rfl (by simp) ⟨m1.1,fun hh=>by simp at hh⟩ hT.locks rfl rfl (SmallAns.zero rfl)
   ·exact go _ P.clock _ (.inl rfl) rfl (by simp) ⟨m1.1,fun hh=>by simp at hh⟩ hT.locks rfl rfl hT.ans
   ·exact go _ P.clock _ (.inl rfl) rfl (by simp) ⟨m1.1,fun hh=>by simp at hh⟩ hT.locks rfl rfl hT.ans
   ·exact go _ P.clock _ (.inl rfl) rfl (by simp) ⟨m1.1,fun hh=>by simp at hh⟩ hT.locks rfl rfl hT.ans
   ·exact go _ P.clock _ (.inl rfl) rfl (by simp) ⟨m1.1,fun hh=>by simp at hh⟩ (by simp) rfl rfl hT.ans
   ·exact Turned.same ht hb hl hT (.inl rfl)
theorem Fit.of (h : Fit N P) (hi : i < P.ts.length) {M : PMem} {c : Int} {t' : PThread} (hc : c = P.clock\/(c = P.clock + 1/\P.clock < P.limit)) (h1 : t'.busy = true->FitT (N + 1) t') (h2 : SmallAns t'.last) : Fit (N + 1) { P with mem:=M,clock:=c,ts:=P.ts.set i t' }:=by
 refine ⟨h.kind,?_,h.lim,by simpa using h.thr,by simpa using h.swp,?_⟩
 ·have:=h.clk
  show 0<=c/\c<=P.limit;omega
 ·intro j u hu;simp only [List.getElem?_set] at hu;by_cases e : i = j
  ·rw [if_pos e,if_pos hi] at hu;obtain rfl:=Option.some.inj hu;exact ⟨h1,h2⟩
  ·rw [if_neg e] at hu;exact ⟨fun hb=>((h.th j u hu).1 hb).mono (Nat.le_succ N),(h.th j u hu).2⟩
theorem Fit.step (h : Fit N P) (ht : P.ts[i]? = some t) (hb : t.busy = true) : Fit (N + 1) (P.step i t).1:=by
 obtain ⟨M,c,t',e,hc,h1,h2,_⟩:=(h.turn ht hb).to;rw [e];exact h.of (List.getElem?_eq_some_iff.1 ht).1 hc h1 h2
theorem Fit.begin (h : Fit N P) (i kind key value : Int) (spans : List (Int × Int)) : Fit N (P.begin i kind key value spans).1:=by
 unfold PSt.begin;split
 ·next hI =>
  have hb:=isIn_iff.1 hI;split
  ·exact h
  ·split
   ·next hk =>
    obtain ⟨j,rfl⟩:=Int.eq_ofNat_of_zero_le hb.1;have hj : j < P.ts.length:=by omega
    have ht : P.ts[j]? = some (P.th j):=by simp [PSt.th,List.getElem?_eq_getElem hj]
    refine ⟨h.kind,h.clk,h.lim,by simpa [PSt.setT] using h.thr,by simpa [PSt.setT] using h.swp,?_⟩;intro q u hu;simp only [PSt.setT,Int.toNat_natCast,List.getElem?_set] at hu;by_cases e : j = q
    ·rw [if_pos e,if_pos hj] at hu;obtain rfl:=Option.some.inj hu;refine ⟨fun _=>?_,(h.th j _ ht).2⟩;unfold checkOp at hk;have hkd : kind = 1\/kind = 2\/kind = 3\/kind = 4:=by
      by_cases h1 : kind = 1\/kind = 2\/kind = 3
      ·omega
      ·rw [if_neg h1] at hk;by_cases h4 : kind = 4
       ·omega
       ·rw [if_neg h4] at hk; cases hk
     have hsp : kind = 4->spans.length<=16:=by
      intro h4;rw [if_neg (by omega),if_pos h4] at hk;split at hk
      ·next hh =>
       simp only [Bool.and_eq_true] at hh
       have:=isIn_iff.1 hh.1
       omega
      ·cases hk
     have hnw : (newWork kind key value spans).kind = kind/\(newWork kind key value spans).next = 1/\(newWork kind key value spans).made = []/\(newWork kind key value spans).locks = 0/\(kind = 4->(newWork kind key value spans).links.length = 1/\(newWork kind key value spans).spans = spans)/\(newWork kind key value spans).noted = []/\(newWork kind key value spans).ans.spans = []:=by
      unfold newWork;simp only;rcases hkd with rfl | rfl | rfl | rfl <;> simp [PWork.zero]
     obtain ⟨a1,a2,a3,a4,a5,a6,a7⟩:=hnw;refine ⟨by show (newWork kind key value spans).kind = 1\/_; rw [a1]; exact hkd,by show 1<=(newWork kind key value spans).next/\_; rw [a2]; decide,fun _=>.inl (by show (newWork kind key value spans).next<=4; rw [a2]; decide),⟨by show (newWork kind key value spans).made.length<=2; rw [a3]; simp,fun _=>a3⟩,by show (newWork kind key value spans).locks<=2; rw [a4]; decide,fun h4=>by have h:=(a5 (a1 ▸ h4)).1; show (newWork kind key value spans).links.length<=N + 1; omega,fun h4=>by show (newWork kind key value spans).spans.length<=16; rw [(a5 (a1 ▸ h4)).2]; exact hsp (a1 ▸ h4),by show (newWork kind key value spans).noted.length<=N; rw [a6]; simp,SmallAns.zero a7⟩
    ·rw [if_neg e] at hu;exact h.th q u hu
   ·exact h
 ·exact h
theorem retired_le : ∀ (l : List PNode) (i : Nat),(retiredFrom l i).length<=l.length
 | [],_=>Nat.le_refl _
 | x :: r,i=>by
  rw [retiredFrom]
  have:=retired_le r (i + 1)
  split <;> simp <;> omega
theorem Fit.sweep (h : Fit N P) (hn : P.mem.ns.length<=66) : Fit N P.doSweep.1/\1<=P.doSweep.2/\P.doSweep.2<=3:=by
 have hs:=h.swp;unfold PSt.doSweep;simp only;split
 ·refine ⟨⟨h.kind,h.clk,h.lim,h.thr,⟨?_,?_⟩,h.th⟩,by simp,by simp⟩
  ·show 1<=_; omega
  ·exact Nat.le_trans (retired_le _ _) hn
 ·split
  ·split
   ·exact ⟨h,by simp,by simp⟩
   ·refine ⟨⟨h.kind,h.clk,h.lim,h.thr,⟨?_,?_⟩,h.th⟩,by simp,by simp⟩
    ·show P.sweep.made + 1<=_; simp only; omega
    ·show (PSweep.lookAt _ _).retired.length<=66;unfold PSweep.lookAt;split <;> exact hs.2
  ·split
   ·refine ⟨⟨h.kind,h.clk,h.lim,h.thr,⟨?_,hs.2⟩,h.th⟩,by simp,by simp⟩;show P.sweep.made + 1<=P.ts.length + 2; omega
   ·exact ⟨⟨h.kind,h.clk,h.lim,h.thr,⟨by show 0<=_; omega,by simp [PSweep.zero]⟩,h.th⟩,by simp,by simp⟩
end
end
end Go.Proofs.YtfccelbmacjifabGreat
