import Derived.Test.YtfccelbmacjifaaGreatP0
import Derived.Test.YtfccelbmacjifaaGreatP23
set_option linter.unusedSimpArgs false
set_option maxRecDepth 100000
set_option maxHeartbeats 4000000
namespace Go.Proofs.YtfccelbmacjifaaGreat
section
section
variable {C : Int->Prop} {Rt : Int->List (Int × Int)} {Vt : Int->Int->Prop} {i j : Nat} {t t' : PThread} {P : PSt} {x s d : Int} {ts : List PThread}
theorem take_eq (P : PSt) (ht : P.ts[i]? = some t) (hn : t.work.next = 8) (hl : ¬ P.limit<=P.clock) (hk : t.work.kind = 1\/t.work.kind = 2) :
  (t.work.kind = 2->(P.step i t).1 = { P with clock:=P.clock + 1,ts:=P.ts.set i { t with work:={ t.work with ans:={ did:=true,stamp:=P.clock + 1,value:=(P.mem.node t.work.ahead).value },next:=9 } } }) /\
  (t.work.kind = 1->(P.step i t).1 = { P with clock:=P.clock + 1,mem:=P.mem.stampsNew (P.clock + 1) t.work.made,ts:=P.ts.set i { t with work:={ t.work with ans:={ did:=true,stamp:=P.clock + 1 },next:=10 } } }):=by
 have hsm:=step_mid (i:=i) (t:=t) P (by omega) (by omega);rw [if_neg (by omega)] at hsm;unfold PSt.update at hsm;simp only [hn] at hsm;unfold PSt.take at hsm;rw [if_neg hl] at hsm;simp only at hsm;constructor
 ·intro h2;rw [if_pos h2] at hsm;rw [hsm,setW_to { P with clock:=P.clock + 1 } ht]
 ·intro h1;rw [if_neg (by omega)] at hsm;rw [hsm,setMW_to { P with clock:=P.clock + 1 } ht]
def nextR (Rt : Int->List (Int × Int)) (P : PSt) (t : PThread) : Int->List (Int × Int):=fun T=>if T = P.clock + 1 then shNew (Rt P.clock) t.work.kind t.work.key t.work.value else Rt T
def nextV (Vt : Int->Int->Prop) (P : PSt) (t : PThread) : Int->Int->Prop:=fun T=>if T = P.clock + 1 then (if t.work.kind = 2 then (fun x=>Vt P.clock x/\x≠t.work.ahead) else (fun x=>Vt P.clock x\/x ∈ t.work.made)) else Vt T
theorem InvV.tookRest (hV : InvV C Rt Vt P) (h : Inv C P) (ht : P.ts[i]? = some t) (hb : t.busy = true) (hck : (P.step i t).1.clock = P.clock + 1)
  (hnow : Ver (P.step i t).1.mem (P.step i t).1.ts (nextR Rt P t (P.clock + 1)) (nextV Vt P t (P.clock + 1)) (P.clock + 1))
  (hset : ∀ x,nextV Vt P t (P.clock + 1) x ↔ (C x/\x≠0/\¬ Ex (P.step i t).1.ts (Removing x))\/Ex (P.step i t).1.ts (Fresh10 x)) : InvV C (nextR Rt P t) (nextV Vt P t) (P.step i t).1:=by
 refine ⟨by rw [hck]; exact hnow,by rw [hck]; exact hset,hV.freshVal h ht hb,?_⟩;intro j u hj hr;obtain ⟨q1,q2⟩:=hV.readers h ht hb j u hj hr;have e1 : nextR Rt P t u.work.time = Rt u.work.time:=by unfold nextR; rw [if_neg (by omega)]
 have e2 : nextV Vt P t u.work.time = Vt u.work.time:=by unfold nextV; rw [if_neg (by omega)]
 rw [e1,e2]; exact q1
theorem InvV.tookR (hV : InvV C Rt Vt P) (h : Inv C P) (ht : P.ts[i]? = some t) (hb : t.busy = true) (hn : t.work.next = 8) (hl : ¬ P.limit<=P.clock) (hk : t.work.kind = 2) : InvV C (nextR Rt P t) (nextV Vt P t) (P.step i t).1/\shUpd (Rt P.clock) t.work.kind t.work.key = true/\shVal (Rt P.clock) t.work.key = ((P.mem.node t.work.ahead).value,true):=by
 have hT:=h.th i t ht;have hi:=(List.getElem?_eq_some_iff.1 ht).1;obtain ⟨_,m1,m2,m3,m4,m5,m6⟩:=h.mine ht hb (by omega) (by omega);obtain ⟨a1,a2,a3,a4⟩:=m6 hk;obtain ⟨c1,c2,c3⟩:=hT.c7 hb (by omega) (by omega);have c10:=hT.c10 hb (by omega) (by omega);obtain ⟨p1,p2⟩:=hT.p2 hb hk (by omega) (by omega);have hka:=c3.2 hk;obtain ⟨fa,fb,fc⟩:=(hV.found h ht hb (by omega) (by omega) m1 c10).1 hka;have hst : t.work.stand = 0\/Vt P.clock t.work.stand:=(hV.succ h ht m3 m1 (by omega)).1;have hsrow:=(hV.succ h ht m3 m1 (by omega)).2.2;rw [c10] at hsrow;have hCa : C t.work.ahead:=by
  have:=(h.n.mc _ m1).2.2.2.1
  rw [c10] at this;exact this.resolve_left a3
 obtain ⟨_,sa2,sa3⟩:=hV.succ h ht a2 hCa (by omega);have hupd : shUpd (Rt P.clock) t.work.kind t.work.key = true:=by unfold shUpd; rw [fc,hk]; rfl
 refine ⟨?_,hupd,fc⟩;have heq:=(take_eq P ht hn hl (.inr hk)).1 hk;have hck : (P.step i t).1.clock = P.clock + 1:=by rw [heq]
 have hmem : (P.step i t).1.mem = P.mem:=by rw [heq]
 have hts : (P.step i t).1.ts = P.ts.set i { t with work:={ t.work with ans:={ did:=true,stamp:=P.clock + 1,value:=(P.mem.node t.work.ahead).value },next:=9 } }:=by rw [heq]
 have hve:=h.veStep ht hb;have hR' : nextR Rt P t (P.clock + 1) = shDel (Rt P.clock) t.work.key:=by
  unfold nextR shNew;rw [if_pos rfl,hupd,if_pos rfl,if_neg (by omega)]
 have hV' : nextV Vt P t (P.clock + 1) = fun x=>Vt P.clock x/\x≠t.work.ahead:=by
  unfold nextV; rw [if_pos rfl,if_pos hk]
 refine hV.tookRest h ht hb hck ?_ ?_
 ·rw [hR',hV',hmem];have now:=hV.now;have nre : ∀ x,Vt P.clock x->¬ Re P.mem x:=fun x hx hr=>by
   have:=(now.d x hx).2.2.2 hr
   have:=(h.n.mr x hr).2.2
   omega
  -- the new entry
  have top1 : ∀ x d,VE P.mem (P.step i t).1.ts x (P.clock + 1) d->x = t.work.stand/\d = Ld P.mem t.work.ahead:=by
   rintro x d (q | ⟨⟨j,u,hj,hu⟩,hd⟩)
   ·have:=(h.e.ms x _ d q).2.2.2.1; omega
   ·rw [hts,List.getElem?_set] at hj;by_cases e : i = j
    ·subst e;simp [hi] at hj; subst hj;have hx : t.work.stand = x:=hu.2.2.2.2.1;refine ⟨hx.symm,?_⟩;rw [<- hx,p1] at hd;injection hd with hd; exact hd.symm
    ·rw [if_neg e] at hj
     have:=((h.th j u hj).s9 hu.1 hu.2.2.1 hu.2.2.2.1).2.2.1
     rw [hu.2.2.2.2.2] at this; omega
  have hnew : VE P.mem (P.step i t).1.ts t.work.stand (P.clock + 1) (Ld P.mem t.work.ahead):=by
   refine .inr ⟨?_,p1⟩;rw [hts];exact Ex.new ht ⟨hb,.inr hk,by show 9<=9; omega,by show 9<=11; omega,rfl,rfl⟩
  have hfr : ∀ x s d,VE P.mem (P.step i t).1.ts x s d->VE P.mem P.ts x s d\/s = P.clock + 1:=by
   intro x s d hv
   have:=hve.fr x s d
   rw [hmem] at this;exact this hv
  have hto : ∀ x s d,VE P.mem P.ts x s d->VE P.mem (P.step i t).1.ts x s d:=by
   intro x s d hv
   have:=hve.to x s d hv
   rw [hmem] at this; exact this
  refine ⟨?_,?_,?_,?_,Srt.del now.srt _⟩
  ·intro p;rw [mem_shDel,now.a];constructor
   ·rintro ⟨⟨x,hx,rfl⟩,q⟩;refine ⟨x,⟨hx,?_⟩,rfl⟩;rintro rfl; exact q hka
   ·rintro ⟨x,⟨hx,hxa⟩,rfl⟩;refine ⟨⟨x,hx,rfl⟩,?_⟩;intro q;exact hxa (now.b x _ hx fa (by rw [hka]; exact q))
  ·intro x y hx hy e; exact now.b x y hx.1 hy.1 e
  ·intro x hx;obtain ⟨q1,q2,q3,_⟩:=now.d x hx.1;exact ⟨q1,q2,q3,fun hr=>absurd hr (nre x hx.1)⟩
  ·intro x hx;by_cases e : x = t.work.stand
   ·subst e;refine ⟨P.clock + 1,Ld P.mem t.work.ahead,hnew,Int.le_refl _,?_,?_,?_,?_⟩
    ·intro s' d' hv hs;rcases hfr _ _ _ hv with q | q
     ·have:=(h.ve_le q).2; left; omega
     ·right;rw [q] at hv;exact ⟨q,(top1 _ _ hv).2⟩
    ·rcases sa2 with q | q
     ·exact .inl q
     ·refine .inr ⟨q,?_⟩;intro e2
      have:=(h.n.mc _ hCa).2.2.2.2.2.resolve_left a4
      rw [e2] at this; omega
    ·have h1:=(h.n.mc _ m1).2.2.2.2.2;have h2:=(h.n.mc _ hCa).2.2.2.2.2.resolve_left a4;rw [c10] at h1;rcases h1 with q | q
     ·exact .inl q
     ·right; omega
    ·intro p hp h0;rw [mem_shDel] at hp;have h1:=(hsrow p hp.1 h0).2;have h2:=hp.2;exact sa3 p hp.1 (.inr (by omega))
   ·have hx' : x = 0\/Vt P.clock x:=by rcases hx with q | q; exact .inl q; exact .inr q.1
    obtain ⟨s,y,g1,g2,g3,g4,g5,g6⟩:=now.g x hx';refine ⟨s,y,hto x s y g1,by omega,?_,?_,g5,?_⟩
    ·intro s' d' hv hs;rcases hfr _ _ _ hv with q | q
     ·exact g3 s' d' q (h.ve_le q).2
     ·rw [q] at hv;exact absurd (top1 _ _ hv).1 e
    ·rcases g4 with q | q
     ·exact .inl q
     ·refine .inr ⟨q,?_⟩
      -- only the stand is followed by the node ahead
      rintro rfl;by_cases hs0 : t.work.stand = 0
      ·have hx0 : x≠0:=fun q=>e (by rw [q,hs0])
       have hvx:=hx'.resolve_left hx0;have hp : (Ky P.mem x,(P.mem.node x).value) ∈ Rt P.clock:=(now.a _).2 ⟨x,hvx,rfl⟩
       have:=(hsrow _ hp (.inl hs0)).2
       have:=g5.resolve_left hx0
       simp only at *;omega
      ·have hvs:=hst.resolve_left hs0;have hps : (Ky P.mem t.work.stand,(P.mem.node t.work.stand).value) ∈ Rt P.clock:=(now.a _).2 ⟨_,hvs,rfl⟩;have hla:=(h.n.mc _ m1).2.2.2.2.2.resolve_left hs0;rw [c10] at hla;by_cases hx0 : x = 0
       ·have:=(g6 _ hps (.inl hx0)).2
        simp only at this;omega
       ·have hvx:=hx'.resolve_left hx0;have hp : (Ky P.mem x,(P.mem.node x).value) ∈ Rt P.clock:=(now.a _).2 ⟨x,hvx,rfl⟩;have hxa:=g5.resolve_left hx0;rcases (show Ky P.mem x < Ky P.mem t.work.stand\/Ky P.mem x = Ky P.mem t.work.stand\/Ky P.mem t.work.stand < Ky P.mem x by omega) with q | q | q
        ·have:=(g6 _ hps (.inr q)).2
         simp only at this;omega
        ·exact e (now.b x _ hvx hvs q)
        ·have:=(hsrow _ hp (.inr q)).2
         simp only at this;omega
    ·intro p hp h0;rw [mem_shDel] at hp;exact g6 p hp.1 h0
 ·intro x;rw [hV'];show (Vt P.clock x/\x≠t.work.ahead) ↔ _;rw [hV.set,hts];have hrem : Ex (P.ts.set i { t with work:={ t.work with ans:={ did:=true,stamp:=P.clock + 1,value:=(P.mem.node t.work.ahead).value },next:=9 } }) (Removing x) ↔ Ex P.ts (Removing x)\/x = t.work.ahead:=by
   constructor
   ·rintro ⟨j,u,hj,hu⟩;rw [List.getElem?_set] at hj;by_cases e : i = j
    ·subst e; simp [hi] at hj; subst hj; exact .inr hu.2.2.2.symm
    ·rw [if_neg e] at hj; exact .inl ⟨j,u,hj,hu⟩
   ·rintro (q | q)
    ·exact q.set ht (fun r=>by have:=r.2.2.1; omega)
    ·exact Ex.new ht ⟨hb,hk,.inl rfl,q.symm⟩
  have hfr : Ex (P.ts.set i { t with work:={ t.work with ans:={ did:=true,stamp:=P.clock + 1,value:=(P.mem.node t.work.ahead).value },next:=9 } }) (Fresh10 x) ↔ Ex P.ts (Fresh10 x):=by
   refine ex_iff ht ⟨?_,?_⟩
   ·rintro ⟨_,q,_⟩;have : t.work.kind = 1:=q;omega
   ·rintro ⟨_,q,_⟩; omega
  rw [hrem,hfr];constructor
  ·rintro ⟨q | q,qa⟩
   ·refine .inl ⟨q.1,q.2.1,?_⟩;rintro (r | r)
    ·exact q.2.2 r
    ·exact qa r
   ·exact .inr q
  ·rintro (q | q)
   ·exact ⟨.inl ⟨q.1,q.2.1,fun r=>q.2.2 (.inl r)⟩,fun r=>q.2.2 (.inr r)⟩
   ·refine ⟨.inr q,?_⟩;rintro rfl;obtain ⟨j,u,hj,f1,f2,f3,f4⟩:=q;obtain ⟨n,g1,_,_,_,g5,_⟩:=(h.th j u hj).f8 f1 f2 (.inr f3);rw [mem_one g1 f4] at hCa; exact g5 hCa
end
end
section
section
variable {C : Int->Prop} {Rt : Int->List (Int × Int)} {Vt : Int->Int->Prop} {i j : Nat} {t t' : PThread} {P : PSt} {x s d : Int} {ts : List PThread}
theorem InvV.tookI (hV : InvV C Rt Vt P) (h : Inv C P) (ht : P.ts[i]? = some t) (hb : t.busy = true) (hn : t.work.next = 8) (hl : ¬ P.limit<=P.clock) (hk : t.work.kind = 1) : InvV C (nextR Rt P t) (nextV Vt P t) (P.step i t).1/\shUpd (Rt P.clock) t.work.kind t.work.key = true/\shVal (Rt P.clock) t.work.key = (0,false):=by
 have hT:=h.th i t ht;have hi:=(List.getElem?_eq_some_iff.1 ht).1;obtain ⟨_,m1,m2,m3,m4,m5,_⟩:=h.mine ht hb (by omega) (by omega);obtain ⟨c1,c2,c3⟩:=hT.c7 hb (by omega) (by omega);have c10:=hT.c10 hb (by omega) (by omega);obtain ⟨n,f1,f2,f3,f4,f5,f6,f7,f8,f9,f10,f11⟩:=hT.f8 hb hk (.inl hn);obtain ⟨f12,f13⟩:=f11 hn;have hka : Ky P.mem t.work.ahead≠t.work.key:=fun e=>by have:=c3.1 e; omega
 obtain ⟨fa,fc⟩:=(hV.found h ht hb (by omega) (by omega) m1 c10).2 hka;have hst : t.work.stand = 0\/Vt P.clock t.work.stand:=(hV.succ h ht m3 m1 (by omega)).1;have hah:=(hV.succ h ht m3 m1 (by omega)).2.1;have hsrow:=(hV.succ h ht m3 m1 (by omega)).2.2;rw [c10] at hsrow hah;have hsk:=(hT.xs hb (by omega) (by omega) (by omega)).2.2;have hcs:=hT.cs hb (by omega) (by omega);have hlt : t.work.key < Ky P.mem t.work.ahead:=by have:=hcs.2.2.2; omega
 have hfn : Fresh8 n t:=⟨hb,hk,hn,by rw [f1]; simp⟩;have hval:=hV.fv i t ht n ⟨hb,hk,.inl hn,by rw [f1]; simp⟩;have hupd : shUpd (Rt P.clock) t.work.kind t.work.key = true:=by unfold shUpd; rw [fc,hk]; rfl
 refine ⟨?_,hupd,fc⟩;have heq:=(take_eq P ht hn hl (.inl hk)).2 hk;have hck : (P.step i t).1.clock = P.clock + 1:=by rw [heq]
 have hmem : (P.step i t).1.mem = P.mem.stampsNew (P.clock + 1) t.work.made:=by rw [heq]
 have hts : (P.step i t).1.ts = P.ts.set i { t with work:={ t.work with ans:={ did:=true,stamp:=P.clock + 1 },next:=10 } }:=by rw [heq]
 obtain ⟨g1,g2,g3,g4⟩:=stamp_e (P.clock + 1) h.wm f12;have hsn : P.mem.stampsNew (P.clock + 1) t.work.made = P.mem.stamp n false (P.clock + 1):=by
  rw [f1];show (P.mem.stampNew n (P.clock + 1)) = _;unfold PMem.stampNew;rw [stamp_no g2]
 rw [hsn] at hmem;have hnd : ∀ x,(P.step i t).1.mem.node x = P.mem.node x:=fun x=>by rw [hmem]; exact node_ns g1 x
 have hve:=h.veStep ht hb;have hR' : nextR Rt P t (P.clock + 1) = shPut (Rt P.clock) t.work.key t.work.value:=by
  unfold nextR shNew;rw [if_pos rfl,hupd,if_pos rfl,if_pos hk]
 have hmn : ∀ x,x ∈ t.work.made ↔ x = n:=fun x=>by rw [f1]; simp
 have hV' : nextV Vt P t (P.clock + 1) = fun x=>Vt P.clock x\/x = n:=by
  unfold nextV; rw [if_pos rfl,if_neg (by omega)]
  funext x
  rw [hmn]
 have hnV : ¬ Vt P.clock n:=by
  intro hv;obtain ⟨s,y,q1,_⟩:=hV.now.g n (.inr hv);exact h.ve8 ht q1 hfn
 have hstn : t.work.stand≠n:=fun e=>f5 (e ▸ m1)
 refine hV.tookRest h ht hb hck ?_ ?_
 ·rw [hR',hV'];have now:=hV.now;have nre : ∀ x,Vt P.clock x->¬ Re P.mem x:=fun x hx hr=>by
   have:=(now.d x hx).2.2.2 hr
   have:=(h.n.mr x hr).2.2
   omega
  have top1 : ∀ x d,VE (P.step i t).1.mem (P.step i t).1.ts x (P.clock + 1) d->(x = t.work.stand/\d = n)\/(x = n/\d = t.work.ahead):=by
   rintro x d (q | ⟨⟨j,u,hj,hu⟩,hd⟩)
   ·rw [hmem] at q;rcases (g4 x _ d).1 q with q | ⟨q1,_,q3⟩
    ·have:=(h.e.ms x _ d q).2.2.2.1; omega
    ·exact .inr ⟨q1,q3⟩
   ·left;rw [hts,List.getElem?_set] at hj;by_cases e : i = j
    ·subst e;simp [hi] at hj; subst hj;have hx : t.work.stand = x:=hu.2.2.2.2.1;refine ⟨hx.symm,?_⟩;rw [hmem,<- hx,g3,if_neg hstn,f10] at hd;injection hd with hd; exact hd.symm
    ·rw [if_neg e] at hj
     have:=((h.th j u hj).s9 hu.1 hu.2.2.1 hu.2.2.2.1).2.2.1
     rw [hu.2.2.2.2.2] at this; omega
  have hnew : VE (P.step i t).1.mem (P.step i t).1.ts t.work.stand (P.clock + 1) n:=by
   refine .inr ⟨?_,?_⟩
   ·rw [hts];exact Ex.new ht ⟨hb,.inl hk,by show 9<=10; omega,by show 10<=11; omega,rfl,rfl⟩
   ·rw [hmem,g3,if_neg hstn]; exact f10
  have hnew2 : VE (P.step i t).1.mem (P.step i t).1.ts n (P.clock + 1) t.work.ahead:=by
   left; rw [hmem]; exact (g4 _ _ _).2 (.inr ⟨rfl,rfl,rfl⟩)
  have non : ∀ s d,¬ VE P.mem P.ts n s d:=fun s d q=>h.ve8 ht q hfn
  refine ⟨?_,?_,?_,?_,Srt.put now.srt _ _⟩
  ·intro p;rw [mem_shPut,now.a];simp only [Ky,hnd];constructor
   ·rintro (⟨⟨x,hx,rfl⟩,_⟩ | q)
    ·exact ⟨x,.inl hx,rfl⟩
    ·exact ⟨n,.inr rfl,by rw [q,hval]; show _ = (Ky P.mem n,_); rw [f7]⟩
   ·rintro ⟨x,hx | hx,rfl⟩
    ·exact .inl ⟨⟨x,hx,rfl⟩,fa _ ((now.a _).2 ⟨x,hx,rfl⟩)⟩
    ·right;rw [hx,hval];show (Ky P.mem n,_) = _;rw [f7]
  ·intro x y hx hy e;simp only [Ky,hnd] at e;rcases hx with hx | hx
   ·rcases hy with hy | hy
    ·exact now.b x y hx hy e
    ·exfalso;refine fa _ ((now.a _).2 ⟨x,hx,rfl⟩) ?_;show Ky P.mem x = _;rw [hy] at e;rw [<- f7]; exact e
   ·rcases hy with hy | hy
    ·exfalso;refine fa _ ((now.a _).2 ⟨y,hy,rfl⟩) ?_;show Ky P.mem y = _;rw [hx] at e;rw [<- f7]; exact e.symm
    ·rw [hx,hy]
  ·intro x hx;simp only [Us,Re,Ra,hnd];rcases hx with hx | hx
   ·obtain ⟨q1,q2,q3,_⟩:=now.d x hx;exact ⟨q1,q2,q3,fun hr=>absurd hr (nre x hx)⟩
   ·rw [hx];refine ⟨f4,f2,f3,fun hr=>?_⟩
    have:=(h.n.mr n hr).1
    simp only [De] at this; rw [f6] at this; cases this
  ·intro x hx;simp only [Lt,Ky,hnd];by_cases e : x = t.work.stand
   ·subst e;refine ⟨P.clock + 1,n,hnew,Int.le_refl _,?_,.inr (.inr rfl),?_,?_⟩
    ·intro s' d' hv hs;rcases hve.fr _ _ _ hv with q | q
     ·have:=(h.ve_le q).2; left; omega
     ·right;rw [q] at hv;rcases top1 _ _ hv with z | z
      ·exact ⟨q,z.2⟩
      ·exact absurd z.1 hstn
    ·rcases hsk with q | q
     ·exact .inl q
     ·right;show Ky P.mem _ < Ky P.mem n;rw [f7]; exact q
    ·intro p hp h0;rw [mem_shPut] at hp;refine ⟨f3,?_⟩;show Ky P.mem n<=p.1;rw [f7];rcases hp with ⟨hp,_⟩ | hp
     ·have:=(hsrow p hp h0).2; omega
     ·rw [hp]; exact Int.le_refl _
   ·by_cases en : x = n
    ·subst en;refine ⟨P.clock + 1,t.work.ahead,hnew2,Int.le_refl _,?_,?_,.inr (by show Ky P.mem x < Ky P.mem _; rw [f7]; exact hlt),?_⟩
     ·intro s' d' hv hs;rcases hve.fr _ _ _ hv with q | q
      ·exact absurd q (non s' d')
      ·right;rw [q] at hv;rcases top1 _ _ hv with z | z
       ·exact absurd z.1 e
       ·exact ⟨q,z.2⟩
     ·rcases hah with q | q
      ·exact .inl q
      ·exact .inr (.inl q)
     ·intro p hp h0;have h0' : t.work.key < p.1:=by
       rcases h0 with q | q
       ·exact absurd q f2
       ·have q' : Ky P.mem x < p.1:=q;rw [f7] at q'; exact q'
      rw [mem_shPut] at hp;rcases hp with ⟨hp,_⟩ | hp
      ·exact hsrow p hp (by rcases hsk with q | q; exact .inl q; right; omega)
      ·rw [hp] at h0'; simp only at h0'; omega
    ·have hx' : x = 0\/Vt P.clock x:=by
      rcases hx with q | q | q
      ·exact .inl q
      ·exact .inr q
      ·exact absurd q en
     obtain ⟨s,y,k1,k2,k3,k4,k5,k6⟩:=now.g x hx';refine ⟨s,y,hve.to x s y k1,by omega,?_,?_,k5,?_⟩
     ·intro s' d' hv hs;rcases hve.fr _ _ _ hv with q | q
      ·exact k3 s' d' q (h.ve_le q).2
      ·rw [q] at hv;rcases top1 _ _ hv with z | z
       ·exact absurd z.1 e
       ·exact absurd z.1 en
     ·rcases k4 with q | q
      ·exact .inl q
      ·exact .inr (.inl q)
     ·intro p hp h0;rw [mem_shPut] at hp;rcases hp with ⟨hp,_⟩ | hp
      ·exact k6 p hp h0
      ·-- the new key lies behind the stand,and the stand behind x
       rw [hp] at h0 ⊢;simp only at h0 ⊢;show y≠1/\Ky P.mem y<=t.work.key;have h0' : x = 0\/Ky P.mem x < t.work.key:=h0;by_cases hs0 : t.work.stand = 0
       ·have hx0 : x≠0:=fun q=>e (by rw [q,hs0])
        have hvx:=hx'.resolve_left hx0
        have:=(hsrow _ ((now.a _).2 ⟨x,hvx,rfl⟩) (.inl hs0)).2
        have:=h0'.resolve_left hx0
        simp only at *;omega
       ·have hvs:=hst.resolve_left hs0;have hps : (Ky P.mem t.work.stand,(P.mem.node t.work.stand).value) ∈ Rt P.clock:=(now.a _).2 ⟨_,hvs,rfl⟩;have hsk':=hsk.resolve_left hs0;by_cases hx0 : x = 0
        ·have:=k6 _ hps (.inl hx0)
         exact ⟨this.1,by have:=this.2; simp only at this; omega⟩
        ·have hvx:=hx'.resolve_left hx0;have h0'':=h0'.resolve_left hx0;rcases (show Ky P.mem x < Ky P.mem t.work.stand\/Ky P.mem x = Ky P.mem t.work.stand\/Ky P.mem t.work.stand < Ky P.mem x by omega) with q | q | q
         ·have:=k6 _ hps (.inr q)
          exact ⟨this.1,by have:=this.2; simp only at this; omega⟩
         ·exact absurd (now.b x _ hvx hvs q) e
         ·exfalso
          have:=(hsrow _ ((now.a _).2 ⟨x,hvx,rfl⟩) (.inr q)).2
          simp only at this;omega
 ·intro x;rw [hV'];show (Vt P.clock x\/x = n) ↔ _;rw [hV.set,hts];have hrem : Ex (P.ts.set i { t with work:={ t.work with ans:={ did:=true,stamp:=P.clock + 1 },next:=10 } }) (Removing x) ↔ Ex P.ts (Removing x):=by
   refine ex_iff ht ⟨?_,?_⟩
   ·rintro ⟨_,q,_⟩;have : t.work.kind = 2:=q;omega
   ·rintro ⟨_,q,_⟩; omega
  have hfr : Ex (P.ts.set i { t with work:={ t.work with ans:={ did:=true,stamp:=P.clock + 1 },next:=10 } }) (Fresh10 x) ↔ Ex P.ts (Fresh10 x)\/x = n:=by
   constructor
   ·rintro ⟨j,u,hj,hu⟩;rw [List.getElem?_set] at hj;by_cases e : i = j
    ·subst e; simp [hi] at hj; subst hj; exact .inr ((hmn x).1 hu.2.2.2)
    ·rw [if_neg e] at hj; exact .inl ⟨j,u,hj,hu⟩
   ·rintro (q | q)
    ·exact q.set ht (fun r=>by have:=r.2.2.1; omega)
    ·exact Ex.new ht ⟨hb,hk,rfl,(hmn x).2 q⟩
  rw [hrem,hfr];exact or_assoc
theorem InvV.step (hV : InvV C Rt Vt P) (h : Inv C P) (ht : P.ts[i]? = some t) (hb : t.busy = true) :
  ((P.step i t).1.clock = P.clock/\InvV (nextC C t) Rt Vt (P.step i t).1) \/
  (t.work.next = 8/\(t.work.kind = 1\/t.work.kind = 2)/\¬ P.limit<=P.clock/\(P.step i t).1.clock = P.clock + 1/\InvV (nextC C t) (nextR Rt P t) (nextV Vt P t) (P.step i t).1/\shUpd (Rt P.clock) t.work.kind t.work.key = true):=by
 obtain ⟨t',hto⟩:=h.goTo ht hb;by_cases hc : t.work.next = 8/\¬ P.limit<=P.clock/\(t.work.kind = 1\/t.work.kind = 2)
 ·right;have hck:=hto.ck;rw [if_pos hc] at hck;refine ⟨hc.1,hc.2.2,hc.2.1,hck,?_⟩;rw [nextC_ne (by omega)];rcases hc.2.2 with hk | hk
  ·obtain ⟨q1,q2,_⟩:=hV.tookI h ht hb hc.1 hc.2.1 hk; exact ⟨q1,q2⟩
  ·obtain ⟨q1,q2,_⟩:=hV.tookR h ht hb hc.1 hc.2.1 hk; exact ⟨q1,q2⟩
 ·left;have hck:=hto.ck;rw [if_neg hc] at hck;exact ⟨hck,hV.still h ht hb hck⟩
end
end
section
def st (P : PSt) (i : Nat) (t : PThread) (M : PMem) (c : Int) (sl : Int) (k : PWork) : PSt:={ P with mem:=M,clock:=c,ts:=P.ts.set i { t with busy:=true,slot:=sl,work:=k } }
section
variable {P : PSt} {i : Nat} {t : PThread} {M : PMem} {c sl : Int} {k : PWork}
end
end
section
abbrev Spot3:=Nat × Int × Int
section
variable {M : PMem} {P : PSt} {i : Nat} {t : PThread} {c sl : Int} {k : PWork}
theorem hasNode_of {x : Nat} {nd : PNode} (h : M.ns[x]? = some nd) : M.hasNode x = true:=by
 have:=(List.getElem?_eq_some_iff.1 h).1
 unfold PMem.hasNode;rw [isIn_iff]; omega
theorem node_of {x : Nat} {nd : PNode} (h : M.ns[x]? = some nd) : M.node x = nd:=by
 unfold PMem.node;rw [if_pos (hasNode_of h)];simp [h]
end
end
section
section
variable {M M1 : PMem} {P : PSt} {i : Nat} {t : PThread} {c sl : Int} {k : PWork} {g : Nat->PNode->PNode}
end
end
section
section
variable {M M1 : PMem} {g : Nat->PNode->PNode}
theorem hasEntry_of {q : Nat} {e : PEntry} (h : M.es[q]? = some e) : M.hasEntry q = true:=by
 have:=(List.getElem?_eq_some_iff.1 h).1
 unfold PMem.hasEntry;rw [isIn_iff]; omega
theorem ent_of {q : Nat} {e : PEntry} (h : M.es[q]? = some e) : M.ent q = e:=by
 unfold PMem.ent;simp [h]
theorem pend_ok {n q : Nat} {nd : PNode} {e : PEntry} (hq : M.freeEntry = q) (he : M.es[q]? = some e) (hn : M.ns[n]? = some nd) (hl : nd.links = 1) (to : Int) : M.pend n false to = { M with es:=M.es.set q ⟨true,true,n,false,to,0⟩ }:=by
 unfold PMem.pend PMem.hasLink;rw [hq,hasEntry_of he,hasNode_of hn,node_of hn,hl];simp only [Bool.true_and];rw [if_pos (by decide)];unfold PMem.setE
 simp
theorem addLink_ok {n q : Nat} {nd : PNode} {e : PEntry} (hq : M.freeEntry = q) (he : M.es[q]? = some e) (hn : M.ns[n]? = some nd) (hl : nd.links = 0) (to : Int) : M.addLink n to = { ns:=M.ns.set n (linked false to nd),es:=M.es.set q ⟨true,true,n,false,to,0⟩ }:=by
 have hlt:=(List.getElem?_eq_some_iff.1 hn).1;have hmod : M.modN n (linked false to) = { M with ns:=M.ns.set n (linked false to nd) }:=by
  unfold PMem.modN;rw [if_pos (hasNode_of hn)]
  congr 1
  apply List.ext_getElem?;intro j;rw [List.getElem?_modify];by_cases hj : n = j
  ·subst hj; rw [List.getElem?_set_self hlt,hn]; simp
  ·simp [hj]
 unfold PMem.addLink;rw [hasNode_of hn,hq];rw [if_pos (by simp),node_of hn,hl];simp only;rw [hmod]
 have:=pend_ok (M:={ M with ns:=M.ns.set n (linked false to nd) }) (n:=n) (nd:=linked false to nd) hq he (by simp [hlt]) (by show nd.links + 1 = 1; rw [hl]) to
 rw [this]
theorem stamp_ok {n q : Nat} {e : PEntry} (hp : M.pending n false = q) (he : M.es[q]? = some e) (s : Int) : M.stamp n false s = { M with es:=M.es.set q { e with pending:=false,stamp:=s } }:=by
 unfold PMem.stamp;rw [hp,hasEntry_of he,ent_of he];simp [PMem.setE]
theorem stamp_none {n : Int} {s : Bool} (hp : M.pending n s = -1) (st : Int) : M.stamp n s st = M:=by
 unfold PMem.stamp;rw [hp];rw [if_neg];unfold PMem.hasEntry;rw [isIn_iff]; omega
end
end
section
section
variable {M M1 : PMem} {P : PSt} {i : Nat} {t : PThread} {c sl : Int} {k : PWork}
end
end
section
section
variable {M M1 : PMem} {P : PSt} {i : Nat} {t : PThread} {c sl : Int} {k : PWork} {g : Nat->PNode->PNode}
end
end
section
section
variable {M M1 : PMem} {P : PSt} {i : Nat} {t : PThread} {c sl : Int} {k : PWork} {g : Nat->PNode->PNode}
end
end
section
section
variable {M M1 : PMem} {P : PSt} {i : Nat} {t : PThread} {c sl : Int} {k : PWork} {g : Nat->PNode->PNode}
end
end
section
section
variable {M M1 : PMem} {P : PSt} {i : Nat} {t : PThread} {c sl : Int} {k : PWork} {g : Nat->PNode->PNode}
end
end
section
section
variable {M M' : PMem} {c : Int}
end
end
section
section
variable {M M' : PMem} {c : Int}
end
end
section
section
variable {M M' : PMem} {c : Int} {ch : List Spot3}
end
end
section
section
variable {M : PMem} {P : PSt} {i : Nat} {t : PThread} {c sl : Int} {k : PWork}
end
end
section
section
variable {M : PMem} {P : PSt} {i : Nat} {t : PThread} {c sl : Int} {k : PWork}
end
end
section
theorem least_fold : ∀ (l : List (Int × Int)) (m : Int),l.foldl (fun m p=>if p.1 < m then p.1 else m) m<=m/\∀ p ∈ l,l.foldl (fun m p=>if p.1 < m then p.1 else m) m<=p.1
 | [],m=>⟨Int.le_refl _,by intro p hp; cases hp⟩
 | x :: r,m=>by
  rw [List.foldl_cons];obtain ⟨h1,h2⟩:=least_fold r (if x.1 < m then x.1 else m);have h3 : (if x.1 < m then x.1 else m)<=m/\(if x.1 < m then x.1 else m)<=x.1:=by split <;> omega
  refine ⟨by omega,?_⟩;intro p hp;rcases List.mem_cons.1 hp with rfl | hp
  ·omega
  ·exact h2 p hp
theorem great_fold : ∀ (l : List (Int × Int)) (m b : Int),m<=b->(∀ p ∈ l,p.2<=b)->m<=l.foldl (fun m p=>if p.2 > m then p.2 else m) m/\(∀ p ∈ l,p.2<=l.foldl (fun m p=>if p.2 > m then p.2 else m) m)/\l.foldl (fun m p=>if p.2 > m then p.2 else m) m<=b
 | [],m,b,hm,_=>⟨Int.le_refl _,(by intro p hp; exact nomatch hp),hm⟩
 | x :: r,m,b,hm,hb=>by
  rw [List.foldl_cons];have hx:=hb x (by simp);have h3 : m<=(if x.2 > m then x.2 else m)/\x.2<=(if x.2 > m then x.2 else m)/\(if x.2 > m then x.2 else m)<=b:=by split <;> omega
  obtain ⟨h1,h2,h4⟩:=great_fold r (if x.2 > m then x.2 else m) b h3.2.2 (fun p hp=>hb p (by simp [hp]));refine ⟨by omega,?_,h4⟩;intro p hp;rcases List.mem_cons.1 hp with rfl | hp
  ·omega
  ·exact h2 p hp
theorem hull_lists (spans ps : List (Int × Int)) (lo hi : Int) (h : ∀ p ∈ spans,lo<=p.1/\p.2<=hi) : spanLists spans (ps.filter (fun q=>isIn q.1 lo hi)) = spanLists spans ps:=by
 unfold spanLists;apply List.map_congr_left;intro p hp;rw [List.filter_filter];apply List.filter_congr;intro q _;obtain ⟨h1,h2⟩:=h p hp;unfold inSpan;by_cases hq : isIn q.1 p.1 p.2 = true
 ·have:=isIn_iff.1 hq
  rw [hq,isIn_true (by omega)]; rfl
 ·simp [hq]
theorem spansOk_mem : ∀ {l : List (Int × Int)},spansOkX l = true->∀ p ∈ l,p.2<=1099511627776
 | [],_,p,hp=>by cases hp
 | x :: r,h,p,hp=>by
  simp only [spansOkX,Bool.and_eq_true,isIn_iff] at h;rcases List.mem_cons.1 hp with rfl | hp
  ·have:=h.2.1.2; omega
  ·exact spansOk_mem h.2.2.2 p hp
theorem hull_answer {spans : List (Int × Int)} (hs : spansOkX spans = true) (ps : List (Int × Int)) (c : Int) : answerOf spans (ps.filter (fun q=>isIn q.1 (leastLo spans) (greatestHi spans))) c = answerOf spans ps c/\greatestHi spans<=1099511627776:=by
 obtain ⟨_,h2,h3⟩:=great_fold spans 0 1099511627776 (by omega) (spansOk_mem hs);have h1:=(least_fold spans (2 ^ 40)).2;refine ⟨?_,h3⟩;unfold answerOf;rw [hull_lists spans ps (leastLo spans) (greatestHi spans) (fun p hp=>⟨h1 p hp,h2 p hp⟩)]
section
variable {a b : List Spot3} {key : Int}
end
end
section
section
variable {C : Int->Prop} {Rt : Int->List (Int × Int)} {Vt : Int->Int->Prop} {i j : Nat} {t t' : PThread} {P : PSt} {x s d : Int} {ts : List PThread}
theorem InvV.sweep (hV : InvV C Rt Vt P) (h : Inv C P) : InvV C Rt Vt P.doSweep.1:=by
 obtain ⟨now,set,fv,rd⟩:=hV;unfold PSt.doSweep;simp only;split
 ·exact ⟨now,set,fv,rd⟩
 ·next hm0 =>
  split
  ·split <;> exact ⟨now,set,fv,rd⟩
  ·next hl =>
   -- all have been looked at
   have pass : ∀ (i : Nat) u,P.ts[i]? = some u->Rdr u->(P.sweep.hasTime = true/\P.sweep.time<=u.work.time)\/P.sweep.clock<=u.work.time:=by
    intro i u hu hr;have hil:=(List.getElem?_eq_some_iff.1 hu).1;exact ((h.th i u hu).tm hr.1 hr.2.2.1).2 (by omega)
   split
   ·have he : ∀ e,e = (if (P.sweep.hasTime && decide (P.sweep.time < P.sweep.clock)) = true then P.sweep.time else P.sweep.clock)->e<=P.sweep.clock/\(P.sweep.hasTime = true->e<=P.sweep.time):=by
     rintro e rfl;split
     ·next hh=>simp at hh; exact ⟨by omega,fun _=>Int.le_refl _⟩
     ·next hh =>
      refine ⟨Int.le_refl _,fun e=>?_⟩;simp [e] at hh; exact hh
    have he:=he _ rfl;generalize (if (P.sweep.hasTime && decide (P.sweep.time < P.sweep.clock)) = true then P.sweep.time else P.sweep.clock) = e at *;obtain ⟨g1,g2,g3,g4⟩:=drop_ok h.wm e;have hnd:=node_ns g1;generalize P.mem.drop e = M1 at *;have ver : ∀ R V T,Ver P.mem P.ts R V T->e<=T->Ver M1 P.ts R V T:=by
     intro R V T hR hT;refine hR.mono (fun x _=>by simp only [Ky]; rw [hnd]) ?_ ?_ ?_
     ·intro x hx;obtain ⟨d1,_,_,d4⟩:=hR.d x hx;simp only [Us,Re,Ra]; rw [hnd];exact ⟨rfl,d1,d4⟩
     ·rintro x s d _ (q | ⟨q1,q2⟩) hs hg
      ·refine .inl ((g4 x s d).2 ⟨q,?_⟩);intro s' d' q' hlt hle
       have:=hg s' d' (.inl q') (by omega)
       omega
      ·exact .inr ⟨q1,by rw [g3]; exact q2⟩
     ·rintro x s d _ (q | ⟨q1,q2⟩) _
      ·exact .inl ((g4 x s d).1 q).1
      ·exact .inr ⟨q1,by rw [g3] at q2; exact q2⟩
    refine ⟨ver _ _ _ now (by have:=h.o.sc; show e<=P.clock; omega),set,?_,?_⟩
    ·intro j u hj x hf;show (M1.node x).value = _;rw [hnd]; exact fv j u hj x hf
    ·intro j u hj hr;refine ver _ _ _ (rd j u hj hr) ?_;rcases pass j u hj hr with q | q
     ·have:=he.2 q.1; omega
     ·omega
   ·next hne =>
    have hre : ∀ x,InSw P.sweep x->Re P.mem x/\De P.mem x/\¬ C x/\x≠0/\x≠1:=by
     intro x hx;have h1:=(h.o.sw x hx).1;obtain ⟨h2,h3,_⟩:=h.n.mr x h1;refine ⟨h1,h2,h3,?_,?_⟩
     ·rintro rfl; exact h3 h.n.a0.1
     ·rintro rfl; simp only [De] at h2; rw [h.n.a1.2.2.2.1] at h2; cases h2
    obtain ⟨g1,g2,g3⟩:=freesIf_ok P.sweep.hasTime P.sweep.time P.sweep.retired P.mem h.wm (by
     intro n hn;obtain ⟨_,h2,_,h4,h5⟩:=hre (n : Int) ⟨n,hn,rfl⟩;exact ⟨hasN_used (h.n.md _ h2).1,h4,h5⟩)
    generalize P.mem.freesIf P.sweep.hasTime P.sweep.time P.sweep.retired = M1 at *;have ver : ∀ R V T,Ver P.mem P.ts R V T->(∀ x,InSw P.sweep x->(P.sweep.hasTime = true->Ra P.mem x < P.sweep.time)->Ra P.mem x<=T)->Ver M1 P.ts R V T:=by
     intro R V T hR hT;have stay : ∀ x,(x = 0\/x = 1\/V x)->¬ Gone P.mem P.sweep.hasTime P.sweep.time P.sweep.retired x:=by
      rintro x hx ⟨hin,hc⟩;obtain ⟨q1,q2,q3,q4,q5⟩:=hre x hin;rcases hx with hx | hx | hx
      ·exact q4 hx
      ·exact q5 hx
      ·have h1:=(hR.d x hx).2.2.2 q1;have h2:=hT x hin hc;omega
     have nd : ∀ x,(x = 0\/x = 1\/V x)->M1.node x = P.mem.node x:=fun x hx=>((g3 x).2 (stay x hx)).1
     refine hR.mono (fun x hx=>by simp only [Ky]; rw [nd x hx]) ?_ ?_ ?_
     ·intro x hx;obtain ⟨d1,_,_,d4⟩:=hR.d x hx;simp only [Us,Re,Ra]; rw [nd x (.inr (.inr hx))];exact ⟨rfl,d1,d4⟩
     ·intro x s d hx hv _ _;have hst:=(g3 x).2 (stay x (by rcases hx with q | q; exact .inl q; exact .inr (.inr q)));rcases hv with q | ⟨q1,q2⟩
      ·exact .inl ((hst.2.2 s d).2 q)
      ·exact .inr ⟨q1,by rw [hst.2.1]; exact q2⟩
     ·intro x s d hx hv _;have hst:=(g3 x).2 (stay x (by rcases hx with q | q; exact .inl q; exact .inr (.inr q)));rcases hv with q | ⟨q1,q2⟩
      ·exact .inl ((hst.2.2 s d).1 q)
      ·exact .inr ⟨q1,by rw [hst.2.1] at q2; exact q2⟩
    refine ⟨ver _ _ _ now ?_,set,?_,?_⟩
    ·intro x hx _
     have:=(h.o.sw x hx).2
     have:=h.o.sc.1
     show _<=P.clock;omega
    ·intro j u hj x hf;show (M1.node x).value = _;have hng : ¬ Gone P.mem P.sweep.hasTime P.sweep.time P.sweep.retired x:=by
      rintro ⟨hin,_⟩;have hd:=(hre x hin).2.1;obtain ⟨f1,f2,f3,f4⟩:=hf;obtain ⟨n,g1',_,_,_,_,g6,_⟩:=(h.th j u hj).f8 f1 f2 f3;rw [mem_one g1' f4] at hd;simp only [De] at hd; rw [g6] at hd; cases hd
     rw [((g3 x).2 hng).1]; exact fv j u hj x hf
    ·intro j u hj hr;refine ver _ _ _ (rd j u hj hr) ?_;intro x hx hc;have h1:=(h.o.sw x hx).2;rcases pass j u hj hr with q | q
     ·have:=hc q.1; omega
     ·omega
def readAns (R : List (Int × Int)) (k : PWork) : BAns:=if k.kind = 3 then { stamp:=k.time,did:=(shVal R k.key).2,value:=(shVal R k.key).1 } else answerOf k.spans R k.time
structure RPos (M : PMem) (R : List (Int × Int)) (V : Int->Prop) (t : PThread) : Prop where
 sp : t.busy = true->t.work.kind = 4->spansOkX t.work.spans = true
 no : t.busy = true->t.work.kind = 4->t.work.next<=3->t.work.noted = []
 lo : t.busy = true->t.work.kind = 3->t.work.next = 4->t.work.stand = 0\/V t.work.stand
 sc : t.busy = true->t.work.kind = 4->t.work.next = 4->∃ x,t.work.links = [(x,false)]/\(x = 0\/V x)/\t.work.noted = R.filter (fun p=>isIn p.1 (leastLo t.work.spans) (greatestHi t.work.spans) && decide (x≠0/\p.1<=Ky M x))
 an : t.busy = true->(t.work.kind = 3\/t.work.kind = 4)->t.work.next = 13->t.work.ans = readAns R t.work
def InvR (Rt : Int->List (Int × Int)) (Vt : Int->Int->Prop) (P : PSt) : Prop:=∀ (i : Nat) t,P.ts[i]? = some t->RPos P.mem (Rt t.work.time) (Vt t.work.time) t
theorem filt_next {q : Int × Int->Bool} {a b v : Int} {z : Bool} : ∀ {R : List (Int × Int)},Srt R->(b,v) ∈ R->(∀ p ∈ R,(z = true\/a < p.1)->b<=p.1)->(z = true\/a < b) ->
  R.filter (fun p=>q p && decide (p.1<=b)) = R.filter (fun p=>q p && (!z && decide (p.1<=a))) ++ (if q (b,v) then [(b,v)] else [])
 | [],_,h,_,_=>by cases h
 | p :: R,hs,hm,hg,hab=>by
  have hs' : Srt R:=(List.pairwise_cons.1 hs).2;have hlt : ∀ r ∈ R,p.1 < r.1:=(List.pairwise_cons.1 hs).1;rcases List.mem_cons.1 hm with e | hm'
  ·-- it is the first
   subst e;have e1 : R.filter (fun p=>q p && decide (p.1<=b)) = []:=by
    rw [List.filter_eq_nil_iff];intro r hr
    have:=hlt r hr
    simp only at this
    simp; intro _; omega
   have e2 : R.filter (fun p=>q p && (!z && decide (p.1<=a))) = []:=by
    rw [List.filter_eq_nil_iff];intro r hr
    have:=hlt r hr
    simp only at this;rcases hab with hz | hab
    ·simp [hz]
    ·simp; intro _ _; omega
   have e3 : (q (b,v) && (!z && decide (b<=a))) = false:=by
    rcases hab with hz | hab
    ·simp [hz]
    ·simp; intro _ _; omega
   rw [List.filter_cons,List.filter_cons,e1,e2];simp only [e3,Int.le_refl,decide_true,Bool.and_true];split <;> rfl
  ·have hpb : p.1 < b:=hlt _ hm';have ih:=filt_next (q:=q) (a:=a) (b:=b) (v:=v) (z:=z) hs' hm' (fun r hr=>hg r (by simp [hr])) hab;have hz : z = false/\p.1<=a:=by
    rcases Decidable.em (z = true\/a < p.1) with hh | hh
    ·have:=hg p (by simp) hh; omega
    ·simp only [not_or,Bool.not_eq_true] at hh; exact ⟨hh.1,by omega⟩
   rw [List.filter_cons,List.filter_cons,ih];have e1 : decide (p.1<=b) = true:=decide_eq_true (by omega);have e2 : decide (p.1<=a) = true:=decide_eq_true hz.2;rw [e1,e2,hz.1];simp only [Bool.and_true,Bool.not_false];split <;> rfl
end
end
end Go.Proofs.YtfccelbmacjifaaGreat
