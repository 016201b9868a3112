import Derived.Test.YtfccelbmacjifabGreatP0
import Derived.Test.YtfccelbmacjifabGreatP23
set_option linter.unusedSimpArgs false
set_option maxRecDepth 100000
set_option maxHeartbeats 4000000
namespace Go.Proofs.YtfccelbmacjifabGreat
section
namespace T
section
variable {g g' : Gh} {M M' : PMem} {c c' : Int} {r r' : PSweep} {i j : Nat} {t t' u : PThread} {ts ts' : List PThread} {P : PSt} {x d : Int} {s : Bool} {key : Int} {k : PWork}
theorem Th.resweep (h : Th g M c r ts i t) (htm : t.busy = true->3<=t.work.next->i + 1 < r'.made->(r'.hasTime = true/\r'.time<=t.work.time)\/r'.clock<=t.work.time) (hs : t.busy = true->4<=t.work.next->∀ x,Safe M r i t.work.time x->Safe M r' i t.work.time x) : Th g M c r' ts i t:=by
 obtain ⟨kd,nx,rd,sl,tm,hd,l4,l5,l6,ky,hi,lk,l3,m7,xs,xa,cs,n9,c7,e7,tt,f8,f10,q8,q9,p11,s9⟩:=h;refine ⟨kd,nx,rd,sl,fun b h3=>⟨(tm b h3).1,htm b h3⟩,hd,l4,l5,l6,ky,hi,lk,l3,m7,?_,?_,?_,n9,c7,e7,tt,f8,f10,q8,q9,p11,s9⟩
 ·intro b hk h4 h12; have:=xs b hk h4 h12; exact ⟨this.1,hs b h4 _ this.2⟩
 ·intro b hk h4 h12 h0; have:=xa b hk h4 h12 h0; exact ⟨this.1,hs b h4 _ this.2.1,this.2.2⟩
 ·intro b h5 h12; have:=cs b h5 h12; exact ⟨this.1,hs b (by omega) _ this.2.1,this.2.2⟩
theorem InvN.resweep (h : InvN g M c r ts) (hs : ∀ x d,(Re M d->Re M x)->(InSw r d->InSw r x)->(InSw r' d->InSw r' x)) : InvN g M c r' ts:=by
 obtain ⟨gt,ag,n0,tn,us,ou,od,ot,re,ro,lk,ph,pr,pp,rg,bd⟩:=h;refine ⟨gt,ag,n0,tn,us,ou,od,ot,re,ro,lk,?_,pr,pp,rg,bd⟩;intro x s hx h0;obtain ⟨p1,p2,p3,p4⟩:=ph x s hx h0;exact ⟨p1,p2,p3,hs x _ (fun q=>(p3 q).1) p4⟩
theorem Inv.sweep0 (h : Inv g P) : Inv g { P with sweep:={ P.sweep with made:=1,clock:=P.clock,retired:=retiredFrom P.mem.ns 0 } }:=by
 have hin:=inSw_new P.mem { P.sweep with made:=1,clock:=P.clock,retired:=retiredFrom P.mem.ns 0 } rfl;generalize hr : ({ P.sweep with made:=1,clock:=P.clock,retired:=retiredFrom P.mem.ns 0 } : PSweep) = r1 at *;have hm1 : r1.made = 1:=by rw [<- hr]
 have hc1 : r1.clock = P.clock:=by rw [<- hr]
 refine ⟨h.kind,h.wm,h.n.resweep ?_,h.e,?_,?_⟩
 ·intro x d h1 _ h3; exact (hin x).2 (h1 ((hin d).1 h3))
 ·obtain ⟨ho,pw,pq,sw,sc,sm,sz⟩:=h.o;refine ⟨ho,pw,pq,?_,?_,?_,?_⟩
  ·intro x hx
   have:=(hin x).1 hx
   rw [hc1]; exact ⟨this,(h.n.re x this).2⟩
  ·show r1.clock<=P.clock/\0<=P.clock; omega
  ·show r1.made<=P.ts.length + 2; omega
  ·intro e; have : r1.made = 0:=e; omega
 ·intro i t ht;show Th g P.mem P.clock r1 P.ts i t;exact (h.th i t ht).resweep (fun _ _ q=>by omega) (fun _ _ x hx=>⟨hx.1,hx.2.1,fun q=>by omega⟩)
theorem Inv.sweepLook (h : Inv g P) (_hm : P.sweep.made≠0) (hl : P.sweep.made - 1 < P.ts.length) (hs : (P.th (P.sweep.made - 1)).slot≠1) : Inv g { P with sweep:={ P.sweep.lookAt (P.th (P.sweep.made - 1)) with made:=P.sweep.made + 1 } }:=by
 generalize hr : ({ P.sweep.lookAt (P.th (P.sweep.made - 1)) with made:=P.sweep.made + 1 } : PSweep) = r1 at *;have hm1 : r1.made = P.sweep.made + 1:=by rw [<- hr]
 have hc1 : r1.clock = P.sweep.clock:=by rw [<- hr]; unfold PSweep.lookAt; split <;> rfl
 have hre : r1.retired = P.sweep.retired:=by rw [<- hr]; unfold PSweep.lookAt; split <;> rfl
 have hin : ∀ x,InSw r1 x ↔ InSw P.sweep x:=fun x=>by unfold InSw; rw [hre]
 have hkeep : P.sweep.hasTime = true->r1.hasTime = true/\r1.time<=P.sweep.time:=by
  intro ht;rw [<- hr];unfold PSweep.lookAt;split
  ·refine ⟨rfl,?_⟩;show (if (!P.sweep.hasTime || decide ((P.th (P.sweep.made - 1)).work.time < P.sweep.time)) = true then (P.th (P.sweep.made - 1)).work.time else P.sweep.time)<=_;split
   ·next q=>simp [ht] at q; omega
   ·omega
  ·exact ⟨ht,by show P.sweep.time<=P.sweep.time; omega⟩
 have hnew : (P.th (P.sweep.made - 1)).slot = 2->r1.hasTime = true/\r1.time<=(P.th (P.sweep.made - 1)).work.time:=by
  intro ht;rw [<- hr];unfold PSweep.lookAt;rw [if_pos ht];refine ⟨rfl,?_⟩;show (if (!P.sweep.hasTime || decide ((P.th (P.sweep.made - 1)).work.time < P.sweep.time)) = true then (P.th (P.sweep.made - 1)).work.time else P.sweep.time)<=_;split
  ·omega
  ·next q=>simp at q; omega
 refine ⟨h.kind,h.wm,h.n.resweep ?_,h.e,?_,?_⟩
 ·intro x d _ h2 h3; exact (hin x).2 (h2 ((hin d).1 h3))
 ·obtain ⟨ho,pw,pq,sw,sc,sm,sz⟩:=h.o;refine ⟨ho,pw,pq,?_,?_,?_,?_⟩
  ·intro x hx;rw [hc1]; exact sw x ((hin x).1 hx)
  ·show r1.clock<=P.clock/\0<=P.clock; omega
  ·show r1.made<=P.ts.length + 2; omega
  ·intro e; have : r1.made = 0:=e; omega
 ·intro i t ht;have ht : P.ts[i]? = some t:=ht;show Th g P.mem P.clock r1 P.ts i t;have hT:=h.th i t ht;have htime : t.busy = true->3<=t.work.next->i + 1 < r1.made->¬ i + 1 < P.sweep.made->r1.hasTime = true/\r1.time<=t.work.time:=by
   intro b h3 q1 q2;have e : P.sweep.made - 1 = i:=by omega
   have e2 : P.th (P.sweep.made - 1) = t:=by unfold PSt.th; rw [e,ht]; rfl
   have hsl:=hT.sl;rw [e2] at hnew hs;refine hnew ?_;rw [hsl] at hs ⊢;have n1 : t.work.next≠1:=by omega
   simp only [b,true_and,n1,ne_eq,not_false_eq_true,if_true] at hs ⊢;split at hs
   ·exact absurd rfl hs
   ·next q=>rw [if_neg q]
  refine hT.resweep ?_ ?_
  ·intro b h3 q;by_cases q2 : i + 1 < P.sweep.made
   ·rcases (hT.tm b h3).2 q2 with e | e
    ·have:=hkeep e.1; exact .inl ⟨this.1,by omega⟩
    ·exact .inr (by omega)
   ·exact .inl (htime b h3 q q2)
  ·intro b h4 x hx;refine ⟨hx.1,hx.2.1,fun q=>?_⟩;by_cases q2 : i + 1 < P.sweep.made
   ·rcases hx.2.2 q2 with e | e
    ·have:=hkeep e.1; exact .inl ⟨this.1,by omega⟩
    ·exact .inr ⟨by omega,fun hh=>e.2 ((hin x).1 hh)⟩
   ·exact .inl (htime b (by omega) q q2)
theorem Inv.sweepDrop (h : Inv g P) (hm : P.sweep.made = P.ts.length + 1) (e : Int) : Inv g { P with mem:=P.mem.drop e,sweep:={ P.sweep with made:=P.sweep.made + 1 } }:=by
 obtain ⟨g1,g2,g3,g4⟩:=drop_ok h.wm e;have hnd:=node_ns g1;generalize P.mem.drop e = M1 at *;have hn : InvN g M1 P.clock P.sweep P.ts:=h.n.same hnd (fun _=>Iff.rfl) (fun _=>Iff.rfl) (fun _=>Iff.rfl) (fun _=>Iff.rfl) (fun _ _=>Iff.rfl) (fun _ _=>Iff.rfl);refine ⟨h.kind,g2,hn.resweep (fun x d _ h2 h3=>h2 h3),?_,?_,?_⟩
 ·refine ⟨?_,?_⟩
  ·intro x s st d hd;simp only [Us,Ln,hnd];exact h.e.ms x s st d ((g4 x s st d).1 hd).1
  ·intro x s d hd;rw [g3] at hd; exact h.e.pd x s d hd
 ·obtain ⟨ho,pw,pq,sw,sc,sm,sz⟩:=h.o;refine ⟨?_,pw,pq,?_,sc,?_,?_⟩
  ·intro x hx; simp only [Us,Ho,hnd] at hx ⊢; exact ho x hx
  ·intro x hx; simp only [Re,Ra,hnd]; exact sw x hx
  ·show P.sweep.made + 1<=P.ts.length + 2; omega
  ·intro q; have : P.sweep.made + 1 = 0:=q; omega
 ·intro i t ht;have ht : P.ts[i]? = some t:=ht;have hil:=(List.getElem?_eq_some_iff.1 ht).1;show Th g M1 P.clock { P.sweep with made:=P.sweep.made + 1 } P.ts i t;have hT:=h.th i t ht;have hT1 : Th g M1 P.clock P.sweep P.ts i t:=by
   refine hT.rely h.n.one.1 ⟨Int.le_refl _,fun x hx=>hx,?_,fun x hx=>hx,?_,?_,fun x y _=>hnd y,?_,h.n.gt.z⟩
   ·intro x hx;simp only [Us,Ky,Ln,Re,Ra,hnd];exact ⟨h.usedGd hx,trivial,trivial,trivial,fun _ h=>h,fun hr=>.inl ⟨hr,trivial⟩⟩
   ·intro x _;exact ⟨hnd x,fun s=>g3 x s,fun s st d hd=>((g4 x s st d).1 hd).1,fun _ _ h=>h,rfl⟩
   ·rintro x ⟨b,hk,hn,hm⟩;obtain ⟨a,n,q⟩:=hT.f8 b hk hn;rw [q.md] at hm
    have:=q.h
    simp at hm; grind
   ·intro x hx;simp only [Us,Ho,hnd] at hx ⊢;exact ⟨fun h=>⟨hx,h⟩,fun h=>h.2⟩
  refine hT1.resweep ?_ ?_
  ·intro b h3 _; exact (hT1.tm b h3).2 (by omega)
  ·intro b h4 x hx;exact ⟨hx.1,hx.2.1,fun _=>hx.2.2 (by omega)⟩
def stayG (g : Gh) (gone : Int->Prop) : Gh:={ g with O:=fun x=>g.O x/\¬ gone x }
theorem Th.reO {gone : Int->Prop} (h : Th g M c r ts i t) (hs : t.busy = true->4<=t.work.next->∀ x,Safe M r i t.work.time x->¬ gone x) (hr : ∀ x,gone x->Re M x) : Th (stayG g gone) M c r ts i t:=by
 have ga : ∀ x,¬ gone x->Gd g c ts x->Gd (stayG g gone) c ts x:=by
  rintro x hx ⟨e | e,q⟩
  ·exact ⟨.inl ⟨e,hx⟩,q⟩
  ·exact ⟨.inr e,q⟩
 have wk : ∀ x,¬ gone x->Wk g M c ts t.work.key x->Wk (stayG g gone) M c ts t.work.key x:=by
  rintro x hx (e | e)
  ·exact .inl e
  ·exact .inr ⟨e.1,e.2.1,ga x hx e.2.2⟩
 obtain ⟨kd,nx,rd,sl,tm,hd,l4,l5,l6,ky,hi,lk,l3,m7,xs,xa,cs,n9,c7,e7,tt,f8,f10,q8,q9,p11,s9⟩:=h;refine ⟨kd,nx,rd,sl,tm,hd,l4,l5,l6,ky,hi,lk,l3,m7,?_,?_,?_,n9,c7,e7,tt,?_,?_,q8,?_,p11,s9⟩
 ·intro b hk h4 h12; have:=xs b hk h4 h12; exact ⟨wk _ (hs b h4 _ this.2) this.1,this.2⟩
 ·intro b hk h4 h12 h0; have:=xa b hk h4 h12 h0; exact ⟨wk _ (hs b h4 _ this.2.1) this.1,this.2⟩
 ·intro b h5 h12; have:=cs b h5 h12; exact ⟨ga _ (hs b (by omega) _ this.2.1) this.1,this.2⟩
 ·intro b hk hn;obtain ⟨a,n,q⟩:=f8 b hk hn;obtain ⟨x1,x2,x3,x4,x5,x6,x7,x8,x9,x10,x11,x12,x13⟩:=q;exact ⟨a,n,x1,x2,x3,x4,⟨x5.1,x5.2.1,fun q=>x5.2.2.1 q.1,fun q=>x5.2.2.2 q.1⟩,x6,x7,x8,x9,x10,x11,x12,x13⟩
 ·intro b hk hn;obtain ⟨a,n,q⟩:=f10 b hk hn;obtain ⟨x1,x2,x3,x4,x5,x6,x7,x8,x9,x10⟩:=q;exact ⟨a,n,x1,x2,x3,x4,x5,x6,x7,x8,x9,x10⟩
 ·intro b hk hn;obtain ⟨⟨x1,x2,x3,x4,x5,x6⟩,qd⟩:=q9 b hk hn;refine ⟨⟨⟨⟨x1.1,fun q=>?_⟩,⟨x1.2,fun q=>?_⟩⟩,x2,x3,x4,x5,x6⟩,qd⟩
  ·have:=hr _ q; simp only [Re] at this; rw [x2.1] at this; cases this
  ·have:=hr _ q; simp only [Re] at this; rw [x2.2] at this; cases this
theorem Inv.sweepFree (h : Inv g P) (hm : P.sweep.made = P.ts.length + 2) : Inv (stayG g (Gone P.mem P.sweep.hasTime P.sweep.time P.sweep.retired)) { P with mem:=P.mem.freesIf P.sweep.hasTime P.sweep.time P.sweep.retired,sweep:=PSweep.zero }:=by
 have hre : ∀ x,InSw P.sweep x->Re P.mem x/\g.O x:=by
  intro x hx;have h1:=(h.o.sw x hx).1;exact ⟨h1,h.n.od x (h.n.re x h1).1⟩
 obtain ⟨g1,g2,g3⟩:=freesIf_ok P.sweep.hasTime P.sweep.time P.sweep.retired P.mem h.wm (by
  intro n hn
  have:=h.n.ou _ (hre (n : Int) ⟨n,hn,rfl⟩).2
  exact ⟨hasN_used this.1,this.2.2.1,fun e=>this.2.1 (e ▸ Tr.lea_has h.n.gt.one)⟩)
 have hgr : ∀ x,Gone P.mem P.sweep.hasTime P.sweep.time P.sweep.retired x->Re P.mem x/\g.O x:=fun x hx=>hre x hx.1
 obtain ⟨gone,hgone⟩ : ∃ gone,gone = Gone P.mem P.sweep.hasTime P.sweep.time P.sweep.retired:=⟨_,rfl⟩;have hsafe : ∀ (i : Nat) t x,P.ts[i]? = some t->Safe P.mem P.sweep i t.work.time x->¬ gone x:=by
  intro i t x ht hx hg;have hil:=(List.getElem?_eq_some_iff.1 ht).1;rw [hgone] at hg;have h1:=hgr x hg;rcases hx.2.2 (by omega) with e | e
  ·have h2:=hg.2 e.1;have h3:=hx.2.1 h1.1;omega
  ·exact e.2 hg.1
 have hnext : ∀ x s,x = 0\/(Ln P.mem x = 2/\Gd g P.clock P.ts x)->(x = 0->s = false)->¬ gone x->¬ gone (Ld P.mem x s):=by
  intro x s hx hs hng hg;rw [hgone] at hg hng;obtain ⟨p1,p2,p3,p4⟩:=h.n.ph x s hx hs;have h1:=hgr _ hg;have h2:=p3 h1.1;exact hng ⟨p4 hg.1,fun q=>by have:=hg.2 q; omega⟩
 rw [<- hgone] at g3 hgr ⊢;generalize P.mem.freesIf P.sweep.hasTime P.sweep.time P.sweep.retired = M1 at *;have nd : ∀ x,¬ gone x->M1.node x = P.mem.node x:=fun x hx=>((g3 x).2 hx).1
 have ng : ∀ x,gone x->M1.node x = PNode.zero:=fun x hx=>((g3 x).1 hx).1
 have usG : ∀ x,Us M1 x->¬ gone x:=by
  intro x hx hg; simp only [Us] at hx; rw [ng x hg] at hx; cases hx
 have hasG : ∀ x,(g.V P.clock).Has x->¬ gone x:=fun x hx hg=>(h.n.ou x (hgr x hg).2).2.1 hx
 have zG : ¬ gone 0:=fun hg=>(h.n.ou 0 (hgr 0 hg).2).2.2.1 rfl
 have gdG : ∀ x,x = 0\/Gd (stayG g gone) P.clock P.ts x->(x = 0\/Gd g P.clock P.ts x)/\¬ gone x:=by
  rintro x (rfl | ⟨e | e,q⟩)
  ·exact ⟨.inl rfl,zG⟩
  ·exact ⟨.inr ⟨.inl e.1,q⟩,e.2⟩
  ·exact ⟨.inr ⟨.inr e,q⟩,hasG x e⟩
 have gdS : ∀ x,Gd g P.clock P.ts x->¬ gone x->Gd (stayG g gone) P.clock P.ts x:=by
  rintro x ⟨e | e,q⟩ hx
  ·exact ⟨.inl ⟨e,hx⟩,q⟩
  ·exact ⟨.inr e,q⟩
 have inz : ∀ x,¬ InSw PSweep.zero x:=by rintro x ⟨n,hn,_⟩; cases hn
 refine ⟨h.kind,g1,?_,?_,?_,?_⟩
 ·obtain ⟨gt,⟨ag1,ag2⟩,n0,tn,us,ou,od,ot,re,ro,lk,ph,pr,pp,rg,bd⟩:=h.n;refine ⟨gt,⟨?_,?_⟩,?_,?_,?_,?_,?_,?_,?_,?_,?_,?_,?_,?_,rg,bd⟩
  ·intro x q hq; simp only [Us,Ln,Ky]; rw [nd x (hasG x (Tr.nod_has hq))]; exact ag1 x q hq
  ·intro x q w hq; simp only [Us,Ln,Ky]; rw [nd x (hasG x (Tr.lea_has hq))]; exact ag2 x q w hq
  ·simp only [Us,Ln]; rw [nd 0 zG]; exact n0
  ·intro x hx; rw [nd x (hasG x hx)]; exact tn x hx
  ·intro x hx;have hg:=usG x hx;simp only [Us] at hx; rw [nd x hg] at hx;rcases us x hx with e | e | e | e
   ·exact .inl e
   ·exact .inr (.inl e)
   ·exact .inr (.inr (.inl ⟨e,hg⟩))
   ·exact .inr (.inr (.inr e))
  ·intro x hx;simp only [Us,Ln]; rw [nd x hx.2]; exact ou x hx.1
  ·intro x hx;have hg : ¬ gone x:=fun hg=>by simp only [De] at hx; rw [ng x hg] at hx; cases hx
   simp only [De] at hx; rw [nd x hg] at hx;exact ⟨od x hx,hg⟩
  ·intro x hx; simp only [De]; rw [nd x hx.2]; exact ot x hx.1
  ·intro x hx;have hg : ¬ gone x:=fun hg=>by simp only [Re] at hx; rw [ng x hg] at hx; cases hx
   simp only [Re,De,Ra] at hx ⊢; rw [nd x hg] at hx ⊢; exact re x hx
  ·intro x hx;have hg : ¬ gone x:=fun hg=>by simp only [De] at hx; rw [ng x hg] at hx; cases hx
   simp only [Re,De] at hx ⊢; rw [nd x hg] at hx ⊢; exact ro x hx
  ·intro x s d hd;have hg : ¬ gone x:=by
    rcases (Tr.ed_has hd).2 with rfl | e
    ·exact zG
    ·exact hasG x (Tr.inn_has e)
   simp only [Ld]; rw [nd x hg]; exact lk x s d hd
  ·intro x s hx hs;obtain ⟨h1,h2⟩:=gdG x (by rcases hx with e | e; exact .inl e; exact .inr e.2);simp only [Ln,Ld] at hx ⊢;rw [nd x h2] at hx ⊢;have hx' : x = 0\/(Ln P.mem x = 2/\Gd g P.clock P.ts x):=by
    rcases hx with e | e
    ·exact .inl e
    ·rcases h1 with q | q
     ·exact .inl q
     ·exact .inr ⟨e.1,q⟩
   have h3:=hnext x s hx' hs h2;obtain ⟨p1,p2,p3,p4⟩:=ph x s hx' hs;simp only [Re,Ra];simp only [Ld] at h3;rw [nd _ h3,nd x h2];exact ⟨gdS _ p1 h3,p2,p3,fun q=>absurd q (inz _)⟩
  ·intro x s k hx hR hsd;obtain ⟨h1,h2⟩:=gdG x (by rcases hx with e | e; exact .inl e; exact .inr e.2);have esd : sd M1 x k = sd P.mem x k:=sd_congr (by simp only [Ky]; rw [nd x h2]) (by simp only [Ln]; rw [nd x h2]);rw [esd] at hsd;simp only [Ln,Ld] at hx ⊢;rw [nd x h2] at hx ⊢;have hx' : x = 0\/(Ln P.mem x = 2/\Gd g P.clock P.ts x):=by
    rcases hx with e | e
    ·exact .inl e
    ·rcases h1 with q | q
     ·exact .inl q
     ·exact .inr ⟨e.1,q⟩
   have hs0 : x = 0->s = false:=fun e0=>by rw [<- hsd,e0]; exact sd0 n0.2.1 k
   have h3:=hnext x s hx' hs0 h2;simp only [Ld] at h3;rw [nd _ h3];exact pr x s k hx' hR hsd
  ·intro x s hO;simp only [Ln,Ld,Re];rw [nd x hO.2];intro hl hd;exact pp x s hO.1 hl hd.1
 ·refine ⟨?_,?_⟩
  ·intro x s st d hd;have hg : ¬ gone x:=fun hg=>((g3 x).1 hg).2.2 s st d hd
   simp only [Us,Ln]; rw [nd x hg];exact h.e.ms x s st d ((((g3 x).2 hg).2.2 s st d).1 hd)
  ·intro x s d hd;have hg : ¬ gone x:=fun hg=>by rw [((g3 x).1 hg).2.1 s] at hd; cases hd
   rw [((g3 x).2 hg).2.1 s] at hd;exact h.e.pd x s d hd
 ·obtain ⟨ho,pw,pq,sw,sc,sm,sz⟩:=h.o;refine ⟨?_,pw,pq,fun x hx=>absurd hx (inz x),?_,?_,fun _=>⟨rfl,rfl⟩⟩
  ·intro x hx;have hg:=usG x hx;simp only [Us,Ho] at hx ⊢; rw [nd x hg] at hx ⊢; exact ho x hx
  ·show (0 : Int)<=P.clock/\0<=P.clock; omega
  ·show 0<=P.ts.length + 2; omega
 ·intro i t ht;have ht : P.ts[i]? = some t:=ht;show Th (stayG g gone) M1 P.clock PSweep.zero P.ts i t;have hT:=(h.th i t ht).reO (gone:=gone) (fun _ _ x hx=>hsafe i t x ht hx) (fun x hx=>(hgr x hx).1);have hT1 : Th (stayG g gone) M1 P.clock P.sweep P.ts i t:=by
   refine hT.rely h.n.one.1 ⟨Int.le_refl _,fun x hx=>hx,?_,fun x hx=>hx,?_,?_,?_,?_,h.n.gt.z⟩
   ·intro x hx;obtain ⟨h1,h2⟩:=gdG x hx;have hu:=h.usedGd h1;simp only [Us,Ky,Ln,Re,Ra]; rw [nd x h2];exact ⟨hu,by first | rfl | trivial,by first | rfl | trivial,by first | rfl | trivial,fun _ h=>h,fun hr=>.inl ⟨hr,by first | rfl | trivial⟩⟩
   ·intro x hx;have hg : ¬ gone x:=by
     rcases hx with e | e
     ·obtain ⟨b,h5,h12,hk,h6,_⟩:=hT.held h.n.one.1 e.1 e.2;rcases h6 with rfl | ⟨hmt,rfl⟩
      ·exact hsafe i t _ ht (hT.xs b hk (by omega) h12).2
      ·exact hsafe i t _ ht (hT.xa b hk (by omega) h12 (hT.ns h.n.one.1 b h5 h12 hmt)).2.1
     ·intro hg;have hO:=(hgr x hg).2;obtain ⟨b,hk,hn,hm⟩:=e;rcases hn with hn | hn
      ·obtain ⟨a,n,q⟩:=(h.th i t ht).f8 b hk hn;rw [q.md] at hm
       have:=q.h
       simp at hm; grind
      ·obtain ⟨a,n,q⟩:=(h.th i t ht).f10 b hk hn;rw [q.md] at hm;have h1:=(h.n.ou x hO).2.1;have h2:=q.ua;have h3:=Tr.inn_has h2.2.2.2;simp at hm;rcases hm with rfl | rfl
       ·exact h1 h2.2.2.1
       ·exact h1 h3
    have:=(g3 x).2 hg
    exact ⟨this.1,this.2.1,fun s st d hd=>(this.2.2 s st d).1 hd,fun _ _ h=>h,rfl⟩
   ·rintro x ⟨b,hk,hn,hm⟩;obtain ⟨a,n,q⟩:=hT.f8 b hk hn;rw [q.md] at hm
    have:=q.h
    simp at hm; grind
   ·rintro x y ⟨b,hk,hn,e1,e2⟩
    have:=(hT.q9 b hk hn).1.o.2
    rw [e2] at this;exact nd y this.2
   ·intro x hx;have hg:=usG x hx;simp only [Us,Ho] at hx ⊢; rw [nd x hg] at hx ⊢;exact ⟨fun h=>⟨hx,h⟩,fun h=>h.2⟩
  refine hT1.resweep ?_ ?_
  ·intro b h3 q; have : i + 1 < 0:=q; omega
  ·intro b h4 x hx;exact ⟨hx.1,hx.2.1,fun q=>by have : i + 1 < 0:=q; omega⟩
def sweepG (g : Gh) (P : PSt) : Gh:=if P.sweep.made = P.ts.length + 2 then stayG g (Gone P.mem P.sweep.hasTime P.sweep.time P.sweep.retired) else g
theorem Inv.sweep (h : Inv g P) : Inv (sweepG g P) P.doSweep.1:=by
 have hsm:=h.o.sm;unfold PSt.doSweep sweepG;simp only;by_cases h0 : P.sweep.made = 0
 ·rw [if_pos h0,if_neg (by omega)]; exact h.sweep0
 ·rw [if_neg h0];by_cases h1 : P.sweep.made - 1 < P.ts.length
  ·rw [if_pos h1,if_neg (by omega)];by_cases h2 : (P.th (P.sweep.made - 1)).slot = 1
   ·rw [if_pos h2]; exact h
   ·rw [if_neg h2]; exact h.sweepLook h0 h1 h2
  ·rw [if_neg h1];by_cases h2 : P.sweep.made - 1 = P.ts.length
   ·rw [if_pos h2,if_neg (by omega)];exact h.sweepDrop (by omega) _
   ·rw [if_neg h2,if_pos (by omega)];exact h.sweepFree (by omega)
end
end T
end
section
namespace T
section
variable {g g' : Gh} {M M' : PMem} {c c' : Int} {r r' : PSweep} {i j : Nat} {t t' u : PThread} {ts ts' : List PThread} {P : PSt} {x d : Int} {s : Bool} {key : Int} {k : PWork}
theorem Inv.moves (h : Inv g P) (ht : P.ts[i]? = some t) (hb : t.busy = true) (hn : ¬ (t.work.next = 5/\(t.work.kind = 1\/t.work.kind = 2))) (hr : ¬ (t.work.next = 4/\(t.work.kind = 3\/t.work.kind = 4))) : (P.step i t).2≠2:=by
 have hT:=h.th i t ht;have hnx:=hT.nx hb;have hkd:=hT.kd hb;have hrd:=hT.rd hb;rcases (show t.work.next = 1\/t.work.next = 2\/t.work.next = 3\/t.work.next = 13\/(4<=t.work.next/\t.work.next<=12) by omega) with hq | hq | hq | hq | hq
 ·unfold PSt.step; simp only [hq]; decide
 ·unfold PSt.step; simp only [hq]; decide
 ·unfold PSt.step; simp only [hq]; decide
 ·unfold PSt.step; simp only [hq]; decide
 ·rw [step_mid P hq.1 hq.2];by_cases hk : t.work.kind = 3\/t.work.kind = 4
  ·have:=hrd hk; omega
  ·rw [if_neg hk];unfold PSt.update;rcases (show t.work.next = 4\/t.work.next = 6\/t.work.next = 7\/t.work.next = 8\/t.work.next = 9\/t.work.next = 10\/t.work.next = 11\/t.work.next = 12 by omega) with e | e | e | e | e | e | e | e <;> simp only [e] <;> decide
theorem step_lock (P : PSt) (hn : t.work.next = 5) (hk : t.work.kind = 1\/t.work.kind = 2) : P.step i t = P.lock i t.work:=by
 rw [step_mid P (by omega) (by omega),if_neg (by omega)];unfold PSt.update;simp only [hn]
theorem Inv.waits (h : Inv g P) (ht : P.ts[i]? = some t) (hb : t.busy = true) (hw : (P.step i t).2 = 2) : (P.step i t).1 = P/\((t.work.next = 5/\(t.work.kind = 1\/t.work.kind = 2)/\Ho P.mem (lockNext P.mem t.work)≠-1)\/∃ x s d,d ∈ Pd P.mem x s):=by
 by_cases hn : t.work.next = 5/\(t.work.kind = 1\/t.work.kind = 2)
 ·rw [step_lock P hn.1 hn.2] at hw ⊢;rcases h.lock ht hb hn.1 with ⟨_,q,_⟩ | ⟨q1,q2⟩
  ·rw [q] at hw; exact absurd (show (1 : Int) = 2 from hw) (by decide)
  ·rw [q2]; exact ⟨rfl,.inl ⟨hn.1,hn.2,q1⟩⟩
 ·by_cases hr : t.work.next = 4/\(t.work.kind = 3\/t.work.kind = 4)
  ·have hs : P.step i t = P.read i t.work:=by rw [step_mid P (by omega) (by omega),if_pos hr.2]
   rw [hs] at hw ⊢;unfold PSt.read at hw ⊢;simp only at hw ⊢;by_cases hp : P.mem.hasPending (P.linkNext t.work).1 (P.linkNext t.work).2 = true
   ·rw [if_pos hp];refine ⟨rfl,.inr ⟨(P.linkNext t.work).1,(P.linkNext t.work).2,?_⟩⟩
    have:=hasPd_iff.1 hp
    cases hd : Pd P.mem (P.linkNext t.work).1 (P.linkNext t.work).2 with
    | nil=>exact absurd hd this
    | cons d l=>exact ⟨d,by simp⟩
   ·rw [if_neg hp] at hw; exact absurd (show (1 : Int) = 2 from hw) (by decide)
  ·exact absurd hw (h.moves ht hb hn hr)
theorem Inv.holder (h : Inv g P) (ht : P.ts[i]? = some t) (hb : t.busy = true) (hn : t.work.next = 5) (hh : Ho P.mem (lockNext P.mem t.work)≠-1) :
  ∃ (j : Nat) (u : PThread),P.ts[j]? = some u/\u.busy = true/\(u.work.kind = 1\/u.work.kind = 2)/\((P.step j u).2≠2\/(u.work.next = 5/\Ho P.mem (lockNext P.mem u.work)≠-1/\g.B (lockNext P.mem t.work) < g.B (lockNext P.mem u.work))):=by
 obtain ⟨l1,l2,l3,l4,hk,l6⟩:=h.lockIs ht hb hn;obtain ⟨j,hj,hjo⟩:=(h.o.ho _ l1).resolve_left hh;have hju : P.ts[j]? = some P.ts[j]:=List.getElem?_eq_getElem hj;generalize P.ts[j] = u at hju;have hU:=h.th j u hju;obtain ⟨ub,um⟩:=(hU.hd _ l1).1 hjo;obtain ⟨_,u1,u2,u3,u4,_⟩:=hU.held h.n.one.1 l1 hjo;refine ⟨j,u,hju,ub,u3,?_⟩;by_cases hmv : (P.step j u).2 = 2
 ·right;have hu5 : u.work.next = 5:=by
   by_cases e : u.work.next = 5
   ·exact e
   ·exact absurd hmv (h.moves hju ub (fun q=>e q.1) (fun q=>by omega))
  have hw5 : Ho P.mem (lockNext P.mem u.work)≠-1:=by
   rw [step_lock P hu5 u3] at hmv;rcases h.lock hju ub hu5 with ⟨_,q,_⟩ | ⟨q1,q2⟩
   ·rw [q] at hmv; exact absurd (show (1 : Int) = 2 from hmv) (by decide)
   ·exact q1
  have hl5:=hU.l5 ub hu5;have hlk : 0 < u.work.locks:=by
   rcases Nat.eq_zero_or_pos u.work.locks with h0 | h0
   ·rw [h0] at um; simp at um
   ·exact h0
  have hln:=hl_len P.mem u.work;have hm : Mt P.mem u.work:=hln.2.2.2 (by omega);have hl1 : u.work.locks = 1:=by omega
  have e1 : lockNext P.mem u.work = u.work.stand:=by unfold lockNext hl; rw [if_pos hm,hl1]; rfl
  have e2 : lockNext P.mem t.work = u.work.above:=by
   unfold hl at um; rw [if_pos hm,hl1] at um;simpa using um
  refine ⟨hu5,hw5,?_⟩;rw [e1,e2];exact (hU.xa ub u3 (by omega) u2 (hU.ns h.n.one.1 ub u1 u2 hm)).2.2
 ·exact .inl hmv
theorem Inv.chase (h : Inv g P) : ∀ (m i : Nat) (t : PThread),P.ts[i]? = some t->t.busy = true->t.work.next = 5->Ho P.mem (lockNext P.mem t.work)≠-1->(P.clock - g.B (lockNext P.mem t.work)).toNat<=m->∃ (j : Nat) (u : PThread),P.ts[j]? = some u/\u.busy = true/\(P.step j u).2≠2/\(u.work.kind = 1\/u.work.kind = 2)
 | 0,i,t,ht,hb,hn,hh,hm=>by
  obtain ⟨j,u,hj,ub,uk,q | ⟨q1,q2,q3⟩⟩:=h.holder ht hb hn hh
  ·exact ⟨j,u,hj,ub,q,uk⟩
  ·exfalso;have h2:=h.n.bd (lockNext P.mem u.work);omega
 | m + 1,i,t,ht,hb,hn,hh,hm=>by
  obtain ⟨j,u,hj,ub,uk,q | ⟨q1,q2,q3⟩⟩:=h.holder ht hb hn hh
  ·exact ⟨j,u,hj,ub,q,uk⟩
  ·have h2:=h.n.bd (lockNext P.mem u.work);exact Inv.chase h m j u hj ub q1 q2 (by omega)
theorem Inv.live (h : Inv g P) (ht : P.ts[i]? = some t) (hb : t.busy = true) : ∃ (j : Nat) (u : PThread),P.ts[j]? = some u/\u.busy = true/\(P.step j u).2≠2/\(j = i\/u.work.kind = 1\/u.work.kind = 2):=by
 by_cases hw : (P.step i t).2 = 2
 ·obtain ⟨_,⟨h5,_,hh⟩ | ⟨x,s,d,hd⟩⟩:=h.waits ht hb hw
  ·obtain ⟨j,u,z1,z2,z3,z4⟩:=h.chase _ i t ht hb h5 hh (Nat.le_refl _);exact ⟨j,u,z1,z2,z3,.inr z4⟩
  ·obtain ⟨j,u,hj,hu⟩:=h.e.pd x s d hd;refine ⟨j,u,hj,?_,?_,.inr ?_⟩
   ·rcases hu with q | q
    ·exact q.1
    ·exact q.1
   ·rcases hu with ⟨q1,q2,q3,q4,_⟩ | ⟨q1,q2,q3,_⟩
    ·exact h.moves hj q1 (fun e=>by omega) (fun e=>by omega)
    ·exact h.moves hj q1 (fun e=>by omega) (fun e=>by omega)
   ·rcases hu with q | q
    ·exact q.2.1
    ·exact .inl q.2.1
 ·exact ⟨i,t,ht,hb,hw,.inl rfl⟩
end
end T
end
section
namespace T
def VE (M : PMem) (ts : List PThread) (x : Int) (s : Bool) (st d : Int) : Prop:=Sd M x s st d\/(Ex ts (Vs x s st)/\Pd M x s = [d])
structure Ver (M : PMem) (ts : List PThread) (t : Tr) (T : Int) : Prop where
 a : Ag M t
 r : ∀ x,t.Has x->Re M x->T < Ra M x
 f : ∀ x,t.Has x->¬ Ex ts (Fr8 x)
 e : ∀ x s d,A t x s d->∃ st,VE M ts x s st d/\st<=T/\∀ st' d',VE M ts x s st' d'->st'<=T->st' < st\/(st' = st/\d' = d)
def Nr (c : Int) (O : Int->Prop) (M M' : PMem) (x : Int) : Prop:=Us M' x/\Ky M' x = Ky M x/\Ln M' x = Ln M x/\(M'.node x).value = (M.node x).value/\(Re M' x->(Re M x/\Ra M' x = Ra M x)\/(Ra M' x = c/\O x))
section
variable {g g' : Gh} {M M' : PMem} {c c' T : Int} {r r' : PSweep} {i j : Nat} {t t' u : PThread} {ts ts' : List PThread} {P : PSt} {x d : Int} {s : Bool} {key : Int} {k : PWork} {O : Int->Prop}
theorem Nr.refl (hu : Us M x) : Nr c O M M x:=⟨hu,rfl,rfl,rfl,fun h=>.inl ⟨h,rfl⟩⟩
theorem nr_node (hu : Us M x) (h : M'.node x = M.node x) : Nr c O M M' x:=by
 unfold Nr Ky Us Ln Re Ra;rw [h]; exact ⟨hu,rfl,rfl,rfl,fun h=>.inl ⟨h,rfl⟩⟩
theorem nr_hold (hu : Us M x) (h : HoldEq M M') : Nr c O M M' x:=by
 have q:=h.to x;unfold Nr Ky Us Ln Re Ra;rw [q.1,q.2.2.1,q.2.2.2.1,q.2.2.2.2.1,q.2.2.2.2.2.2.1,q.2.2.2.2.2.2.2];exact ⟨hu,rfl,rfl,rfl,fun h=>.inl ⟨h,rfl⟩⟩
theorem nr_modN (hu : Us M x) (n : Int) (f : PNode->PNode) (hf : ∀ e,(f e).key = e.key/\(f e).value = e.value/\(f e).used = e.used/\(f e).links = e.links/\(f e).retired = e.retired/\(f e).retiredAt = e.retiredAt) : Nr c O M (M.modN n f) x:=by
 by_cases hn : M.hasNode n = true
 ·have:=node_modN hn f x
  by_cases e : x = n
  ·subst e;rw [if_pos rfl] at this;unfold Nr Ky Us Ln Re Ra;rw [this];obtain ⟨h1,h2,h3,h4,h5,h6⟩:=hf (M.node x);rw [h1,h2,h3,h4,h5,h6];exact ⟨hu,rfl,rfl,rfl,fun h=>.inl ⟨h,rfl⟩⟩
  ·rw [if_neg e] at this; exact nr_node hu this
 ·have : M.modN n f = M:=by unfold PMem.modN; rw [if_neg hn]
  rw [this]; exact Nr.refl hu
theorem pend_ns (M : PMem) (n : Int) (s : Bool) (to : Int) : (M.pend n s to).ns = M.ns:=by unfold PMem.pend; split <;> rfl
theorem Inv.keeps (h : Inv g P) (ht : P.ts[i]? = some t) (hb : t.busy = true) (hu : Us P.mem x) (h8 : ¬ Fr8 x t) : Nr P.clock g.O P.mem (P.step i t).1.mem x:=by
 have hT:=h.th i t ht;have hnx:=hT.nx hb;have hkd:=hT.kd hb;have hrd:=hT.rd hb;rcases (show t.work.next = 1\/t.work.next = 2\/t.work.next = 3\/t.work.next = 13\/(4<=t.work.next/\t.work.next<=12) by omega) with hn | hn | hn | hn | hn
 ·unfold PSt.step; simp only [hn]; exact Nr.refl hu
 ·unfold PSt.step; simp only [hn]; exact Nr.refl hu
 ·unfold PSt.step; simp only [hn]; exact Nr.refl hu
 ·unfold PSt.step; simp only [hn]; exact Nr.refl hu
 ·rw [step_mid P hn.1 hn.2];by_cases hk : t.work.kind = 3\/t.work.kind = 4
  ·rw [if_pos hk];unfold PSt.read;simp only;split <;> exact Nr.refl hu
  ·rw [if_neg hk];have hk : t.work.kind = 1\/t.work.kind = 2:=by omega
   unfold PSt.update;rcases (show t.work.next = 4\/t.work.next = 5\/t.work.next = 6\/t.work.next = 7\/t.work.next = 8\/t.work.next = 9\/t.work.next = 10\/t.work.next = 11\/t.work.next = 12 by omega) with hn | hn | hn | hn | hn | hn | hn | hn | hn
   ·simp only [hn]; exact Nr.refl hu
   ·simp only [hn];rcases h.lock ht hb hn with ⟨_,q,_⟩ | ⟨_,q⟩
    ·rw [q];show Nr P.clock g.O P.mem (P.mem.modN (lockNext P.mem t.work) fun x=>{ x with holder:=(i : Int) }) x;exact nr_modN hu _ _ (fun e=>⟨rfl,rfl,rfl,rfl,rfl,rfl⟩)
    ·rw [q]; exact Nr.refl hu
   ·simp only [hn];unfold PSt.check;split
    ·exact nr_hold hu (unlock_hold P.mem i)
    ·split <;> exact Nr.refl hu
   ·simp only [hn];unfold PSt.prepare;split
    ·exact Nr.refl hu
    ·next hroom =>
     rcases hk with hk | hk
     ·have hne : P.needs t.work.kind = (2,3):=by unfold PSt.needs; rw [hk,if_neg (by decide),if_pos h.kind]
      rw [hne] at hroom;simp only [hk,if_true];simp only at hroom;obtain ⟨a,n,M1,q0,q1,q2,q3,q4,q5,_⟩:=h.grown ht hb hn hk (by omega) (by omega);rw [q0];exact nr_node hu (q5 x (fun e=>q1 (e ▸ hu)) (fun e=>q2 (e ▸ hu)))
     ·simp only [hk,show ¬ ((2 : Int) = 1) by decide,if_false];refine nr_node hu (node_ns ?_ x);show (P.prepareRemove t.work).1.ns = _;unfold PSt.prepareRemove;simp only [if_neg (show ¬ P.kind = 0 by rw [h.kind]; decide)];exact pend_ns _ _ _ _
   ·simp only [hn];unfold PSt.take;split
    ·obtain ⟨M1,a,n,q1,_,_,_,q2,_⟩:=h.unprep ht hb hn;refine nr_node hu ?_;show ((P.mem.unpend t.work.tsrc t.work.tside).frees t.work.made).node x = _;rw [q1,q2,if_neg h8]
    ·simp only;rcases hk with hk | hk
     ·rw [if_neg (by omega)];obtain ⟨a,n,q⟩:=hT.f8 hb hk hn;refine nr_node hu ?_;show (P.mem.stampsNew (P.clock + 1) t.work.made).node x = _;rw [q.md];show ((P.mem.stampNew a (P.clock + 1)).stampNew n (P.clock + 1)).node x = _;rw [stampNew_no q.pa];exact node_ns (stampNew_two h.wm q.pn (P.clock + 1)).1 x
     ·rw [if_pos hk]; exact Nr.refl hu
   ·simp only [hn];have m:=h.mine ht hb (by omega) (by omega);have hto : P.takenOut t.work = [t.work.ahead,t.work.stand]:=by unfold PSt.takenOut; rw [if_pos h.kind]
    rw [hto]
    have:=(kills_two (a:=t.work.ahead) (b:=t.work.stand) (h.usedGd (.inr m.ah)) m.us h.wm).2.2 x
    unfold Nr Us Ky Ln Re Ra;show ((P.mem.kills [t.work.ahead,t.work.stand]).node x).used = true/\((P.mem.kills [t.work.ahead,t.work.stand]).node x).key = _/\((P.mem.kills [t.work.ahead,t.work.stand]).node x).links = _/\((P.mem.kills [t.work.ahead,t.work.stand]).node x).value = _/\(((P.mem.kills [t.work.ahead,t.work.stand]).node x).retired = true->(_/\((P.mem.kills [t.work.ahead,t.work.stand]).node x).retiredAt = _)\/_);rw [this];exact ⟨hu,rfl,rfl,rfl,fun h=>.inl ⟨h,rfl⟩⟩
   ·simp only [hn];show Nr P.clock g.O P.mem (P.mem.lead t.work.tsrc t.work.tside) x;unfold PMem.lead;split
    ·exact nr_modN hu _ _ (fun e=>⟨rfl,rfl,rfl,rfl,rfl,rfl⟩)
    ·exact Nr.refl hu
   ·simp only [hn];obtain ⟨d,hp⟩:=h.pdOwn ht hb (by omega) (by omega);exact nr_node hu (node_ns (stamp_e t.work.ans.stamp h.wm hp).1 x)
   ·simp only [hn];unfold PSt.unlock;simp only;by_cases hh : t.work.kind = 2/\t.work.ans.did = true
    ·rw [if_pos hh];have m:=h.mine ht hb (by omega) (by omega);have q9:=(hT.q9 hb hh.1 (.inr (.inr (.inr ⟨hn,hh.2⟩)))).1;have hto : P.takenOut t.work = [t.work.ahead,t.work.stand]:=by unfold PSt.takenOut; rw [if_pos h.kind]
     rw [hto];have hl:=unlock_hold P.mem i;have w:=(retires_two (a:=t.work.ahead) (b:=t.work.stand) (c:=P.clock) (M:=P.mem.unlock i) (by simp only [Us]; rw [(hl.to _).1]; exact h.usedGd (.inr m.ah)) (by simp only [Us]; rw [(hl.to _).1]; exact m.us) (h.wm.unlock i)).2.2 x;have q:=hl.to x;show Nr P.clock g.O P.mem ((P.mem.unlock i).retires P.clock [t.work.ahead,t.work.stand]) x;unfold Nr Us Ky Ln Re Ra;rw [w];split
     ·next e =>
      refine ⟨by show ((P.mem.unlock i).node x).used = true; rw [q.1]; exact hu,q.2.2.2.2.1,q.2.2.2.2.2.2.1,q.2.2.2.2.2.2.2,fun _=>.inr ⟨rfl,?_⟩⟩;rcases e with rfl | rfl
      ·exact q9.o.2
      ·exact q9.o.1
     ·rw [q.1,q.2.2.1,q.2.2.2.1,q.2.2.2.2.1,q.2.2.2.2.2.2.1,q.2.2.2.2.2.2.2];exact ⟨hu,rfl,rfl,rfl,fun h=>.inl ⟨h,rfl⟩⟩
    ·rw [if_neg hh];exact nr_hold hu (unlock_hold P.mem i)
end
end T
end
end Go.Proofs.YtfccelbmacjifabGreat
