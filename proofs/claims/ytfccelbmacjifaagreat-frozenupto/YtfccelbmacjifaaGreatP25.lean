import Derived.Test.YtfccelbmacjifaaGreatP0
import Derived.Test.YtfccelbmacjifaaGreatP24
set_option linter.unusedSimpArgs false
set_option maxRecDepth 100000
set_option maxHeartbeats 4000000
namespace Go.Proofs.YtfccelbmacjifaaGreat
section
section
variable {C : Int->Prop} {Rt : Int->List (Int × Int)} {Vt : Int->Int->Prop} {i j : Nat} {t t' : PThread} {P : PSt} {x s d : Int} {ts : List PThread}
theorem take_eq (P : PSt) (ht : P.ts[i]? = some t) (hn : t.work.next = 8) (hl : ¬ P.limit<=P.clock) (hk : t.work.kind = 1\/t.work.kind = 2) :
  (t.work.kind = 2->(P.step i t).1 = { P with clock:=P.clock + 1,ts:=P.ts.set i { t with work:={ t.work with ans:={ did:=true,stamp:=P.clock + 1,value:=(P.mem.node t.work.ahead).value },next:=9 } } }) /\
  (t.work.kind = 1->(P.step i t).1 = { P with clock:=P.clock + 1,mem:=P.mem.stampsNew (P.clock + 1) t.work.made,ts:=P.ts.set i { t with work:={ t.work with ans:={ did:=true,stamp:=P.clock + 1 },next:=10 } } }):=by
 have hsm:=step_mid (i:=i) (t:=t) P (by omega) (by omega);rw [if_neg (by omega)] at hsm;unfold PSt.update at hsm;simp only [hn] at hsm;unfold PSt.take at hsm;rw [if_neg hl] at hsm;simp only at hsm;constructor
 ·intro h2;rw [if_pos h2] at hsm;rw [hsm,setW_to { P with clock:=P.clock + 1 } ht]
 ·intro h1;rw [if_neg (by omega)] at hsm;rw [hsm,setMW_to { P with clock:=P.clock + 1 } ht]
def nextR (Rt : Int->List (Int × Int)) (P : PSt) (t : PThread) : Int->List (Int × Int):=fun T=>if T = P.clock + 1 then shNew (Rt P.clock) t.work.kind t.work.key t.work.value else Rt T
def nextV (Vt : Int->Int->Prop) (P : PSt) (t : PThread) : Int->Int->Prop:=fun T=>if T = P.clock + 1 then (if t.work.kind = 2 then (fun x=>Vt P.clock x/\x≠t.work.ahead) else (fun x=>Vt P.clock x\/x ∈ t.work.made)) else Vt T
theorem InvV.tookRest (hV : InvV C Rt Vt P) (h : Inv C P) (ht : P.ts[i]? = some t) (hb : t.busy = true) (hck : (P.step i t).1.clock = P.clock + 1)
  (hnow : Ver (P.step i t).1.mem (P.step i t).1.ts (nextR Rt P t (P.clock + 1)) (nextV Vt P t (P.clock + 1)) (P.clock + 1))
  (hset : ∀ x,nextV Vt P t (P.clock + 1) x ↔ (C x/\x≠0/\¬ Ex (P.step i t).1.ts (Removing x))\/Ex (P.step i t).1.ts (Fresh10 x)) : InvV C (nextR Rt P t) (nextV Vt P t) (P.step i t).1:=by
 refine ⟨by rw [hck]; exact hnow,by rw [hck]; exact hset,hV.freshVal h ht hb,?_⟩;intro j u hj hr;obtain ⟨q1,q2⟩:=hV.readers h ht hb j u hj hr;have e1 : nextR Rt P t u.work.time = Rt u.work.time:=by unfold nextR; rw [if_neg (by omega)]
 have e2 : nextV Vt P t u.work.time = Vt u.work.time:=by unfold nextV; rw [if_neg (by omega)]
 rw [e1,e2]; exact q1
theorem InvV.tookR (hV : InvV C Rt Vt P) (h : Inv C P) (ht : P.ts[i]? = some t) (hb : t.busy = true) (hn : t.work.next = 8) (hl : ¬ P.limit<=P.clock) (hk : t.work.kind = 2) : InvV C (nextR Rt P t) (nextV Vt P t) (P.step i t).1/\shUpd (Rt P.clock) t.work.kind t.work.key = true/\shVal (Rt P.clock) t.work.key = ((P.mem.node t.work.ahead).value,true):=by
 have hT:=h.th i t ht;have hi:=(List.getElem?_eq_some_iff.1 ht).1;obtain ⟨_,m1,m2,m3,m4,m5,m6⟩:=h.mine ht hb (by omega) (by omega);obtain ⟨a1,a2,a3,a4⟩:=m6 hk;obtain ⟨c1,c2,c3⟩:=hT.c7 hb (by omega) (by omega);have c10:=hT.c10 hb (by omega) (by omega);obtain ⟨p1,p2⟩:=hT.p2 hb hk (by omega) (by omega);have hka:=c3.2 hk;obtain ⟨fa,fb,fc⟩:=(hV.found h ht hb (by omega) (by omega) m1 c10).1 hka;have hst : t.work.stand = 0\/Vt P.clock t.work.stand:=(hV.succ h ht m3 m1 (by omega)).1;have hsrow:=(hV.succ h ht m3 m1 (by omega)).2.2;rw [c10] at hsrow;have hCa : C t.work.ahead:=by
  have:=(h.n.mc _ m1).2.2.2.1
  rw [c10] at this;exact this.resolve_left a3
 obtain ⟨_,sa2,sa3⟩:=hV.succ h ht a2 hCa (by omega);have hupd : shUpd (Rt P.clock) t.work.kind t.work.key = true:=by unfold shUpd; rw [fc,hk]; rfl
 refine ⟨?_,hupd,fc⟩;have heq:=(take_eq P ht hn hl (.inr hk)).1 hk;have hck : (P.step i t).1.clock = P.clock + 1:=by rw [heq]
 have hmem : (P.step i t).1.mem = P.mem:=by rw [heq]
 have hts : (P.step i t).1.ts = P.ts.set i { t with work:={ t.work with ans:={ did:=true,stamp:=P.clock + 1,value:=(P.mem.node t.work.ahead).value },next:=9 } }:=by rw [heq]
 have hve:=h.veStep ht hb;have hR' : nextR Rt P t (P.clock + 1) = shDel (Rt P.clock) t.work.key:=by
  unfold nextR shNew;rw [if_pos rfl,hupd,if_pos rfl,if_neg (by omega)]
 have hV' : nextV Vt P t (P.clock + 1) = fun x=>Vt P.clock x/\x≠t.work.ahead:=by
  unfold nextV; rw [if_pos rfl,if_pos hk]
 refine hV.tookRest h ht hb hck ?_ ?_
 ·rw [hR',hV',hmem];have now:=hV.now;have nre : ∀ x,Vt P.clock x->¬ Re P.mem x:=fun x hx hr=>by
   have:=(now.d x hx).2.2.2 hr
   have:=(h.n.mr x hr).2.2
   omega
  -- the new entry
  have top1 : ∀ x d,VE P.mem (P.step i t).1.ts x (P.clock + 1) d->x = t.work.stand/\d = Ld P.mem t.work.ahead:=by
   rintro x d (q | ⟨⟨j,u,hj,hu⟩,hd⟩)
   ·have:=(h.e.ms x _ d q).2.2.2.1; omega
   ·rw [hts,List.getElem?_set] at hj;by_cases e : i = j
    ·subst e;simp [hi] at hj; subst hj;have hx : t.work.stand = x:=hu.2.2.2.2.1;refine ⟨hx.symm,?_⟩;rw [<- hx,p1] at hd;injection hd with hd; exact hd.symm
    ·rw [if_neg e] at hj
     have:=((h.th j u hj).s9 hu.1 hu.2.2.1 hu.2.2.2.1).2.2.1
     rw [hu.2.2.2.2.2] at this; omega
  have hnew : VE P.mem (P.step i t).1.ts t.work.stand (P.clock + 1) (Ld P.mem t.work.ahead):=by
   refine .inr ⟨?_,p1⟩;rw [hts];exact Ex.new ht ⟨hb,.inr hk,by show 9<=9; omega,by show 9<=11; omega,rfl,rfl⟩
  have hfr : ∀ x s d,VE P.mem (P.step i t).1.ts x s d->VE P.mem P.ts x s d\/s = P.clock + 1:=by
   intro x s d hv
   have:=hve.fr x s d
   rw [hmem] at this;exact this hv
  have hto : ∀ x s d,VE P.mem P.ts x s d->VE P.mem (P.step i t).1.ts x s d:=by
   intro x s d hv
   have:=hve.to x s d hv
   rw [hmem] at this; exact this
  refine ⟨?_,?_,?_,?_,Srt.del now.srt _⟩
  ·intro p;rw [mem_shDel,now.a];constructor
   ·rintro ⟨⟨x,hx,rfl⟩,q⟩;refine ⟨x,⟨hx,?_⟩,rfl⟩;rintro rfl; exact q hka
   ·rintro ⟨x,⟨hx,hxa⟩,rfl⟩;refine ⟨⟨x,hx,rfl⟩,?_⟩;intro q;exact hxa (now.b x _ hx fa (by rw [hka]; exact q))
  ·intro x y hx hy e; exact now.b x y hx.1 hy.1 e
  ·intro x hx;obtain ⟨q1,q2,q3,_⟩:=now.d x hx.1;exact ⟨q1,q2,q3,fun hr=>absurd hr (nre x hx.1)⟩
  ·intro x hx;by_cases e : x = t.work.stand
   ·subst e;refine ⟨P.clock + 1,Ld P.mem t.work.ahead,hnew,Int.le_refl _,?_,?_,?_,?_⟩
    ·intro s' d' hv hs;rcases hfr _ _ _ hv with q | q
     ·have:=(h.ve_le q).2; left; omega
     ·right;rw [q] at hv;exact ⟨q,(top1 _ _ hv).2⟩
    ·rcases sa2 with q | q
     ·exact .inl q
     ·refine .inr ⟨q,?_⟩;intro e2
      have:=(h.n.mc _ hCa).2.2.2.2.2.resolve_left a4
      rw [e2] at this; omega
    ·have h1:=(h.n.mc _ m1).2.2.2.2.2;have h2:=(h.n.mc _ hCa).2.2.2.2.2.resolve_left a4;rw [c10] at h1;rcases h1 with q | q
     ·exact .inl q
     ·right; omega
    ·intro p hp h0;rw [mem_shDel] at hp;have h1:=(hsrow p hp.1 h0).2;have h2:=hp.2;exact sa3 p hp.1 (.inr (by omega))
   ·have hx' : x = 0\/Vt P.clock x:=by rcases hx with q | q; exact .inl q; exact .inr q.1
    obtain ⟨s,y,g1,g2,g3,g4,g5,g6⟩:=now.g x hx';refine ⟨s,y,hto x s y g1,by omega,?_,?_,g5,?_⟩
    ·intro s' d' hv hs;rcases hfr _ _ _ hv with q | q
     ·exact g3 s' d' q (h.ve_le q).2
     ·rw [q] at hv;exact absurd (top1 _ _ hv).1 e
    ·rcases g4 with q | q
     ·exact .inl q
     ·refine .inr ⟨q,?_⟩
      -- only the stand is followed by the node ahead
      rintro rfl;by_cases hs0 : t.work.stand = 0
      ·have hx0 : x≠0:=fun q=>e (by rw [q,hs0])
       have hvx:=hx'.resolve_left hx0;have hp : (Ky P.mem x,(P.mem.node x).value) ∈ Rt P.clock:=(now.a _).2 ⟨x,hvx,rfl⟩
       have:=(hsrow _ hp (.inl hs0)).2
       have:=g5.resolve_left hx0
       simp only at *;omega
      ·have hvs:=hst.resolve_left hs0;have hps : (Ky P.mem t.work.stand,(P.mem.node t.work.stand).value) ∈ Rt P.clock:=(now.a _).2 ⟨_,hvs,rfl⟩;have hla:=(h.n.mc _ m1).2.2.2.2.2.resolve_left hs0;rw [c10] at hla;by_cases hx0 : x = 0
       ·have:=(g6 _ hps (.inl hx0)).2
        simp only at this;omega
       ·have hvx:=hx'.resolve_left hx0;have hp : (Ky P.mem x,(P.mem.node x).value) ∈ Rt P.clock:=(now.a _).2 ⟨x,hvx,rfl⟩;have hxa:=g5.resolve_left hx0;rcases (show Ky P.mem x < Ky P.mem t.work.stand\/Ky P.mem x = Ky P.mem t.work.stand\/Ky P.mem t.work.stand < Ky P.mem x by omega) with q | q | q
        ·have:=(g6 _ hps (.inr q)).2
         simp only at this;omega
        ·exact e (now.b x _ hvx hvs q)
        ·have:=(hsrow _ hp (.inr q)).2
         simp only at this;omega
    ·intro p hp h0;rw [mem_shDel] at hp;exact g6 p hp.1 h0
 ·intro x;rw [hV'];show (Vt P.clock x/\x≠t.work.ahead) ↔ _;rw [hV.set,hts];have hrem : Ex (P.ts.set i { t with work:={ t.work with ans:={ did:=true,stamp:=P.clock + 1,value:=(P.mem.node t.work.ahead).value },next:=9 } }) (Removing x) ↔ Ex P.ts (Removing x)\/x = t.work.ahead:=by
   constructor
   ·rintro ⟨j,u,hj,hu⟩;rw [List.getElem?_set] at hj;by_cases e : i = j
    ·subst e; simp [hi] at hj; subst hj; exact .inr hu.2.2.2.symm
    ·rw [if_neg e] at hj; exact .inl ⟨j,u,hj,hu⟩
   ·rintro (q | q)
    ·exact q.set ht (fun r=>by have:=r.2.2.1; omega)
    ·exact Ex.new ht ⟨hb,hk,.inl rfl,q.symm⟩
  have hfr : Ex (P.ts.set i { t with work:={ t.work with ans:={ did:=true,stamp:=P.clock + 1,value:=(P.mem.node t.work.ahead).value },next:=9 } }) (Fresh10 x) ↔ Ex P.ts (Fresh10 x):=by
   refine ex_iff ht ⟨?_,?_⟩
   ·rintro ⟨_,q,_⟩;have : t.work.kind = 1:=q;omega
   ·rintro ⟨_,q,_⟩; omega
  rw [hrem,hfr];constructor
  ·rintro ⟨q | q,qa⟩
   ·refine .inl ⟨q.1,q.2.1,?_⟩;rintro (r | r)
    ·exact q.2.2 r
    ·exact qa r
   ·exact .inr q
  ·rintro (q | q)
   ·exact ⟨.inl ⟨q.1,q.2.1,fun r=>q.2.2 (.inl r)⟩,fun r=>q.2.2 (.inr r)⟩
   ·refine ⟨.inr q,?_⟩;rintro rfl;obtain ⟨j,u,hj,f1,f2,f3,f4⟩:=q;obtain ⟨n,g1,_,_,_,g5,_⟩:=(h.th j u hj).f8 f1 f2 (.inr f3);rw [mem_one g1 f4] at hCa; exact g5 hCa
end
end
section
section
variable {C : Int->Prop} {Rt : Int->List (Int × Int)} {Vt : Int->Int->Prop} {i j : Nat} {t t' : PThread} {P : PSt} {x s d : Int} {ts : List PThread}
theorem InvV.tookI (hV : InvV C Rt Vt P) (h : Inv C P) (ht : P.ts[i]? = some t) (hb : t.busy = true) (hn : t.work.next = 8) (hl : ¬ P.limit<=P.clock) (hk : t.work.kind = 1) : InvV C (nextR Rt P t) (nextV Vt P t) (P.step i t).1/\shUpd (Rt P.clock) t.work.kind t.work.key = true/\shVal (Rt P.clock) t.work.key = (0,false):=by
 have hT:=h.th i t ht;have hi:=(List.getElem?_eq_some_iff.1 ht).1;obtain ⟨_,m1,m2,m3,m4,m5,_⟩:=h.mine ht hb (by omega) (by omega);obtain ⟨c1,c2,c3⟩:=hT.c7 hb (by omega) (by omega);have c10:=hT.c10 hb (by omega) (by omega);obtain ⟨n,f1,f2,f3,f4,f5,f6,f7,f8,f9,f10,f11⟩:=hT.f8 hb hk (.inl hn);obtain ⟨f12,f13⟩:=f11 hn;have hka : Ky P.mem t.work.ahead≠t.work.key:=fun e=>by have:=c3.1 e; omega
 obtain ⟨fa,fc⟩:=(hV.found h ht hb (by omega) (by omega) m1 c10).2 hka;have hst : t.work.stand = 0\/Vt P.clock t.work.stand:=(hV.succ h ht m3 m1 (by omega)).1;have hah:=(hV.succ h ht m3 m1 (by omega)).2.1;have hsrow:=(hV.succ h ht m3 m1 (by omega)).2.2;rw [c10] at hsrow hah;have hsk:=(hT.xs hb (by omega) (by omega) (by omega)).2.2;have hcs:=hT.cs hb (by omega) (by omega);have hlt : t.work.key < Ky P.mem t.work.ahead:=by have:=hcs.2.2.2; omega
 have hfn : Fresh8 n t:=⟨hb,hk,hn,by rw [f1]; simp⟩;have hval:=hV.fv i t ht n ⟨hb,hk,.inl hn,by rw [f1]; simp⟩;have hupd : shUpd (Rt P.clock) t.work.kind t.work.key = true:=by unfold shUpd; rw [fc,hk]; rfl
 refine ⟨?_,hupd,fc⟩;have heq:=(take_eq P ht hn hl (.inl hk)).2 hk;have hck : (P.step i t).1.clock = P.clock + 1:=by rw [heq]
 have hmem : (P.step i t).1.mem = P.mem.stampsNew (P.clock + 1) t.work.made:=by rw [heq]
 have hts : (P.step i t).1.ts = P.ts.set i { t with work:={ t.work with ans:={ did:=true,stamp:=P.clock + 1 },next:=10 } }:=by rw [heq]
 obtain ⟨g1,g2,g3,g4⟩:=stamp_e (P.clock + 1) h.wm f12;have hsn : P.mem.stampsNew (P.clock + 1) t.work.made = P.mem.stamp n false (P.clock + 1):=by
  rw [f1];show (P.mem.stampNew n (P.clock + 1)) = _;unfold PMem.stampNew;rw [stamp_no g2]
 rw [hsn] at hmem;have hnd : ∀ x,(P.step i t).1.mem.node x = P.mem.node x:=fun x=>by rw [hmem]; exact node_ns g1 x
 have hve:=h.veStep ht hb;have hR' : nextR Rt P t (P.clock + 1) = shPut (Rt P.clock) t.work.key t.work.value:=by
  unfold nextR shNew;rw [if_pos rfl,hupd,if_pos rfl,if_pos hk]
 have hmn : ∀ x,x ∈ t.work.made ↔ x = n:=fun x=>by rw [f1]; simp
 have hV' : nextV Vt P t (P.clock + 1) = fun x=>Vt P.clock x\/x = n:=by
  unfold nextV; rw [if_pos rfl,if_neg (by omega)]
  funext x
  rw [hmn]
 have hnV : ¬ Vt P.clock n:=by
  intro hv;obtain ⟨s,y,q1,_⟩:=hV.now.g n (.inr hv);exact h.ve8 ht q1 hfn
 have hstn : t.work.stand≠n:=fun e=>f5 (e ▸ m1)
 refine hV.tookRest h ht hb hck ?_ ?_
 ·rw [hR',hV'];have now:=hV.now;have nre : ∀ x,Vt P.clock x->¬ Re P.mem x:=fun x hx hr=>by
   have:=(now.d x hx).2.2.2 hr
   have:=(h.n.mr x hr).2.2
   omega
  have top1 : ∀ x d,VE (P.step i t).1.mem (P.step i t).1.ts x (P.clock + 1) d->(x = t.work.stand/\d = n)\/(x = n/\d = t.work.ahead):=by
   rintro x d (q | ⟨⟨j,u,hj,hu⟩,hd⟩)
   ·rw [hmem] at q;rcases (g4 x _ d).1 q with q | ⟨q1,_,q3⟩
    ·have:=(h.e.ms x _ d q).2.2.2.1; omega
    ·exact .inr ⟨q1,q3⟩
   ·left;rw [hts,List.getElem?_set] at hj;by_cases e : i = j
    ·subst e;simp [hi] at hj; subst hj;have hx : t.work.stand = x:=hu.2.2.2.2.1;refine ⟨hx.symm,?_⟩;rw [hmem,<- hx,g3,if_neg hstn,f10] at hd;injection hd with hd; exact hd.symm
    ·rw [if_neg e] at hj
     have:=((h.th j u hj).s9 hu.1 hu.2.2.1 hu.2.2.2.1).2.2.1
     rw [hu.2.2.2.2.2] at this; omega
  have hnew : VE (P.step i t).1.mem (P.step i t).1.ts t.work.stand (P.clock + 1) n:=by
   refine .inr ⟨?_,?_⟩
   ·rw [hts];exact Ex.new ht ⟨hb,.inl hk,by show 9<=10; omega,by show 10<=11; omega,rfl,rfl⟩
   ·rw [hmem,g3,if_neg hstn]; exact f10
  have hnew2 : VE (P.step i t).1.mem (P.step i t).1.ts n (P.clock + 1) t.work.ahead:=by
   left; rw [hmem]; exact (g4 _ _ _).2 (.inr ⟨rfl,rfl,rfl⟩)
  have non : ∀ s d,¬ VE P.mem P.ts n s d:=fun s d q=>h.ve8 ht q hfn
  refine ⟨?_,?_,?_,?_,Srt.put now.srt _ _⟩
  ·intro p;rw [mem_shPut,now.a];simp only [Ky,hnd];constructor
   ·rintro (⟨⟨x,hx,rfl⟩,_⟩ | q)
    ·exact ⟨x,.inl hx,rfl⟩
    ·exact ⟨n,.inr rfl,by rw [q,hval]; show _ = (Ky P.mem n,_); rw [f7]⟩
   ·rintro ⟨x,hx | hx,rfl⟩
    ·exact .inl ⟨⟨x,hx,rfl⟩,fa _ ((now.a _).2 ⟨x,hx,rfl⟩)⟩
    ·right;rw [hx,hval];show (Ky P.mem n,_) = _;rw [f7]
  ·intro x y hx hy e;simp only [Ky,hnd] at e;rcases hx with hx | hx
   ·rcases hy with hy | hy
    ·exact now.b x y hx hy e
    ·exfalso;refine fa _ ((now.a _).2 ⟨x,hx,rfl⟩) ?_;show Ky P.mem x = _;rw [hy] at e;rw [<- f7]; exact e
   ·rcases hy with hy | hy
    ·exfalso;refine fa _ ((now.a _).2 ⟨y,hy,rfl⟩) ?_;show Ky P.mem y = _;rw [hx] at e;rw [<- f7]; exact e.symm
    ·rw [hx,hy]
  ·intro x hx;simp only [Us,Re,Ra,hnd];rcases hx with hx | hx
   ·obtain ⟨q1,q2,q3,_⟩:=now.d x hx;exact ⟨q1,q2,q3,fun hr=>absurd hr (nre x hx)⟩
   ·rw [hx];refine ⟨f4,f2,f3,fun hr=>?_⟩
    have:=(h.n.mr n hr).1
    simp only [De] at this; rw [f6] at this; cases this
  ·intro x hx;simp only [Lt,Ky,hnd];by_cases e : x = t.work.stand
   ·subst e;refine ⟨P.clock + 1,n,hnew,Int.le_refl _,?_,.inr (.inr rfl),?_,?_⟩
    ·intro s' d' hv hs;rcases hve.fr _ _ _ hv with q | q
     ·have:=(h.ve_le q).2; left; omega
     ·right;rw [q] at hv;rcases top1 _ _ hv with z | z
      ·exact ⟨q,z.2⟩
      ·exact absurd z.1 hstn
    ·rcases hsk with q | q
     ·exact .inl q
     ·right;show Ky P.mem _ < Ky P.mem n;rw [f7]; exact q
    ·intro p hp h0;rw [mem_shPut] at hp;refine ⟨f3,?_⟩;show Ky P.mem n<=p.1;rw [f7];rcases hp with ⟨hp,_⟩ | hp
     ·have:=(hsrow p hp h0).2; omega
     ·rw [hp]; exact Int.le_refl _
   ·by_cases en : x = n
    ·subst en;refine ⟨P.clock + 1,t.work.ahead,hnew2,Int.le_refl _,?_,?_,.inr (by show Ky P.mem x < Ky P.mem _; rw [f7]; exact hlt),?_⟩
     ·intro s' d' hv hs;rcases hve.fr _ _ _ hv with q | q
      ·exact absurd q (non s' d')
      ·right;rw [q] at hv;rcases top1 _ _ hv with z | z
       ·exact absurd z.1 e
       ·exact ⟨q,z.2⟩
     ·rcases hah with q | q
      ·exact .inl q
      ·exact .inr (.inl q)
     ·intro p hp h0;have h0' : t.work.key < p.1:=by
       rcases h0 with q | q
       ·exact absurd q f2
       ·have q' : Ky P.mem x < p.1:=q;rw [f7] at q'; exact q'
      rw [mem_shPut] at hp;rcases hp with ⟨hp,_⟩ | hp
      ·exact hsrow p hp (by rcases hsk with q | q; exact .inl q; right; omega)
      ·rw [hp] at h0'; simp only at h0'; omega
    ·have hx' : x = 0\/Vt P.clock x:=by
      rcases hx with q | q | q
      ·exact .inl q
      ·exact .inr q
      ·exact absurd q en
     obtain ⟨s,y,k1,k2,k3,k4,k5,k6⟩:=now.g x hx';refine ⟨s,y,hve.to x s y k1,by omega,?_,?_,k5,?_⟩
     ·intro s' d' hv hs;rcases hve.fr _ _ _ hv with q | q
      ·exact k3 s' d' q (h.ve_le q).2
      ·rw [q] at hv;rcases top1 _ _ hv with z | z
       ·exact absurd z.1 e
       ·exact absurd z.1 en
     ·rcases k4 with q | q
      ·exact .inl q
      ·exact .inr (.inl q)
     ·intro p hp h0;rw [mem_shPut] at hp;rcases hp with ⟨hp,_⟩ | hp
      ·exact k6 p hp h0
      ·-- the new key lies behind the stand,and the stand behind x
       rw [hp] at h0 ⊢;simp only at h0 ⊢;show y≠1/\Ky P.mem y<=t.work.key;have h0' : x = 0\/Ky P.mem x < t.work.key:=h0;by_cases hs0 : t.work.stand = 0
       ·have hx0 : x≠0:=fun q=>e (by rw [q,hs0])
        have hvx:=hx'.resolve_left hx0
        have:=(hsrow _ ((now.a _).2 ⟨x,hvx,rfl⟩) (.inl hs0)).2
        have:=h0'.resolve_left hx0
        simp only at *;omega
       ·have hvs:=hst.resolve_left hs0;have hps : (Ky P.mem t.work.stand,(P.mem.node t.work.stand).value) ∈ Rt P.clock:=(now.a _).2 ⟨_,hvs,rfl⟩;have hsk':=hsk.resolve_left hs0;by_cases hx0 : x = 0
        ·have:=k6 _ hps (.inl hx0)
         exact ⟨this.1,by have:=this.2; simp only at this; omega⟩
        ·have hvx:=hx'.resolve_left hx0;have h0'':=h0'.resolve_left hx0;rcases (show Ky P.mem x < Ky P.mem t.work.stand\/Ky P.mem x = Ky P.mem t.work.stand\/Ky P.mem t.work.stand < Ky P.mem x by omega) with q | q | q
         ·have:=k6 _ hps (.inr q)
          exact ⟨this.1,by have:=this.2; simp only at this; omega⟩
         ·exact absurd (now.b x _ hvx hvs q) e
         ·exfalso
          have:=(hsrow _ ((now.a _).2 ⟨x,hvx,rfl⟩) (.inr q)).2
          simp only at this;omega
 ·intro x;rw [hV'];show (Vt P.clock x\/x = n) ↔ _;rw [hV.set,hts];have hrem : Ex (P.ts.set i { t with work:={ t.work with ans:={ did:=true,stamp:=P.clock + 1 },next:=10 } }) (Removing x) ↔ Ex P.ts (Removing x):=by
   refine ex_iff ht ⟨?_,?_⟩
   ·rintro ⟨_,q,_⟩;have : t.work.kind = 2:=q;omega
   ·rintro ⟨_,q,_⟩; omega
  have hfr : Ex (P.ts.set i { t with work:={ t.work with ans:={ did:=true,stamp:=P.clock + 1 },next:=10 } }) (Fresh10 x) ↔ Ex P.ts (Fresh10 x)\/x = n:=by
   constructor
   ·rintro ⟨j,u,hj,hu⟩;rw [List.getElem?_set] at hj;by_cases e : i = j
    ·subst e; simp [hi] at hj; subst hj; exact .inr ((hmn x).1 hu.2.2.2)
    ·rw [if_neg e] at hj; exact .inl ⟨j,u,hj,hu⟩
   ·rintro (q | q)
    ·exact q.set ht (fun r=>by have:=r.2.2.1; omega)
    ·exact Ex.new ht ⟨hb,hk,rfl,(hmn x).2 q⟩
  rw [hrem,hfr];exact or_assoc
theorem InvV.step (hV : InvV C Rt Vt P) (h : Inv C P) (ht : P.ts[i]? = some t) (hb : t.busy = true) :
  ((P.step i t).1.clock = P.clock/\InvV (nextC C t) Rt Vt (P.step i t).1) \/
  (t.work.next = 8/\(t.work.kind = 1\/t.work.kind = 2)/\¬ P.limit<=P.clock/\(P.step i t).1.clock = P.clock + 1/\InvV (nextC C t) (nextR Rt P t) (nextV Vt P t) (P.step i t).1/\shUpd (Rt P.clock) t.work.kind t.work.key = true):=by
 obtain ⟨t',hto⟩:=h.goTo ht hb;by_cases hc : t.work.next = 8/\¬ P.limit<=P.clock/\(t.work.kind = 1\/t.work.kind = 2)
 ·right;have hck:=hto.ck;rw [if_pos hc] at hck;refine ⟨hc.1,hc.2.2,hc.2.1,hck,?_⟩;rw [nextC_ne (by omega)];rcases hc.2.2 with hk | hk
  ·obtain ⟨q1,q2,_⟩:=hV.tookI h ht hb hc.1 hc.2.1 hk; exact ⟨q1,q2⟩
  ·obtain ⟨q1,q2,_⟩:=hV.tookR h ht hb hc.1 hc.2.1 hk; exact ⟨q1,q2⟩
 ·left;have hck:=hto.ck;rw [if_neg hc] at hck;exact ⟨hck,hV.still h ht hb hck⟩
end
end
section
def Run (P : PSt) (i m : Nat) (P' : PSt) : Prop:=P' = P.iter i m/\∀ j,j < m->P.how i j = 1
theorem iter_add (P : PSt) (i m : Nat) : ∀ j,P.iter i (m + j) = (P.iter i m).iter i j
 | 0=>rfl
 | j + 1=>by
  show ((P.iter i (m + j)).step i ((P.iter i (m + j)).th i)).1 = (((P.iter i m).iter i j).step i (((P.iter i m).iter i j).th i)).1;rw [iter_add P i m j]
theorem how_add (P : PSt) (i m j : Nat) : P.how i (m + j) = (P.iter i m).how i j:=by
 unfold PSt.how; rw [iter_add]
theorem Run.trans {P P1 P2 : PSt} {i m m' : Nat} (h : Run P i m P1) (k : Run P1 i m' P2) : Run P i (m + m') P2:=by
 obtain ⟨rfl,h2⟩:=h;obtain ⟨rfl,k2⟩:=k;refine ⟨by rw [iter_add],?_⟩;intro j hj;by_cases hlt : j < m
 ·exact h2 j hlt
 ·have:=k2 (j - m) (by omega)
  rw [<- how_add] at this;rw [show j = m + (j - m) by omega]; exact this
theorem Run.one {P P' : PSt} {i : Nat} (h : P.step i (P.th i) = (P',1)) : Run P i 1 P':=by
 refine ⟨by show P' = (P.step i (P.th i)).1; rw [h],?_⟩;intro j hj;obtain rfl : j = 0:=by omega
 show (P.step i (P.th i)).2 = 1;rw [h]
def st (P : PSt) (i : Nat) (t : PThread) (M : PMem) (c : Int) (sl : Int) (k : PWork) : PSt:={ P with mem:=M,clock:=c,ts:=P.ts.set i { t with busy:=true,slot:=sl,work:=k } }
section
variable {P : PSt} {i : Nat} {t : PThread} {M : PMem} {c sl : Int} {k : PWork}
theorem st_th (hi : i < P.ts.length) : (st P i t M c sl k).th i = { t with busy:=true,slot:=sl,work:=k }:=by
 simp [st,PSt.th,hi]
theorem st_setW (hi : i < P.ts.length) (k' : PWork) : (st P i t M c sl k).setW i k' = st P i t M c sl k':=by
 simp only [st,PSt.setW]
 congr 1
 apply List.ext_getElem?;intro j;by_cases hj : j = i
 ·subst hj; simp [hi]
 ·rw [List.getElem?_modify,List.getElem?_set_ne (Ne.symm hj),List.getElem?_set_ne (Ne.symm hj)];simp [Ne.symm hj]
theorem st_setM (M' : PMem) : (st P i t M c sl k).setM M' = st P i t M' c sl k:=rfl
theorem st_setT (_hi : i < P.ts.length) (t' : PThread) : (st P i t M c sl k).setT i t' = { P with mem:=M,clock:=c,ts:=P.ts.set i t' }:=by
 simp [st,PSt.setT]
theorem st_begin (hb : t.slot = 0) (_hi : i < P.ts.length) (k : PWork) : P.setT i { t with busy:=true,work:=k } = st P i t P.mem P.clock 0 k:=by
 unfold PSt.setT st;rw [show ({ t with busy:=true,work:=k } : PThread) = { t with busy:=true,slot:=0,work:=k } by rw [<- hb]]
theorem run_open (hi : i < P.ts.length) (h1 : k.next = 1) : Run (st P i t M c sl k) i 3 (st P i t M c 2 { k with time:=c,stand:=0,next:=4 }):=by
 have e1 : Run (st P i t M c sl k) i 1 (st P i t M c 1 { k with next:=2 }):=by
  refine Run.one ?_;rw [st_th hi];unfold PSt.step;simp only [h1];rw [st_setT hi]; rfl
 have e2 : Run (st P i t M c 1 { k with next:=2 }) i 1 (st P i t M c 1 { k with time:=c,next:=3 }):=by
  refine Run.one ?_;rw [st_th hi];unfold PSt.step;simp only;rw [st_setT hi]; rfl
 have e3 : Run (st P i t M c 1 { k with time:=c,next:=3 }) i 1 (st P i t M c 2 { k with time:=c,stand:=0,next:=4 }):=by
  refine Run.one ?_;rw [st_th hi];unfold PSt.step;simp only;rw [st_setT hi]; rfl
 exact (e1.trans e2).trans e3
theorem run_upd (hi : i < P.ts.length) (hk : k.kind = 1\/k.kind = 2) (hn : 4<=k.next/\k.next<=12) {P' : PSt} (h : (st P i t M c sl k).update i k = (P',1)) : Run (st P i t M c sl k) i 1 P':=by
 refine Run.one ?_;rw [st_th hi];have h3 : ¬ (k.kind = 3\/k.kind = 4):=by omega
 unfold PSt.step;split <;> first | (rename_i hh; simp only at hh; omega) | skip
 rw [if_neg h3]; exact h
theorem how_end (hi : i < P.ts.length) (hn : k.next = 13) : (st P i t M c sl k).how i 0 = 3/\(st P i t M c sl k).iter i 1 = { P with mem:=M,clock:=c,ts:=P.ts.set i { t with busy:=false,slot:=0,last:=k.ans,hasEnded:=true,work:=PWork.zero } }:=by
 have hs : (st P i t M c sl k).step i ((st P i t M c sl k).th i) = ({ P with mem:=M,clock:=c,ts:=P.ts.set i { t with busy:=false,slot:=0,last:=k.ans,hasEnded:=true,work:=PWork.zero } },3):=by
  rw [st_th hi];unfold PSt.step;simp only [hn];rw [st_setT hi]; rfl
 exact ⟨by show ((st P i t M c sl k).step i ((st P i t M c sl k).th i)).2 = 3; rw [hs],by show ((st P i t M c sl k).step i ((st P i t M c sl k).th i)).1 = _; rw [hs]⟩
end
end
section
abbrev Spot3:=Nat × Int × Int
def anchor3 : Spot3:=(0,0,0)
def heads : List Spot3->Nat
 | []=>1
 | y :: _=>y.1
def lastOf (x : Spot3) : List Spot3->Spot3
 | []=>x
 | y :: r=>lastOf y r
def edges (x : Spot3) : List Spot3->List (Spot3 × Nat)
 | []=>[(x,1)]
 | y :: r=>(x,y.1) :: edges y r
def preE (x : Spot3) : List Spot3->List (Spot3 × Nat)
 | []=>[]
 | y :: r=>(x,y.1) :: preE y r
def postE : List Spot3->List (Spot3 × Nat)
 | []=>[]
 | y :: r=>edges y r
theorem edges_head (x : Spot3) (b : List Spot3) : edges x b = (x,heads b) :: postE b:=by cases b <;> rfl
theorem edges_app : ∀ (a : List Spot3) (x : Spot3) (b : List Spot3),edges x (a ++ b) = preE x a ++ (lastOf x a,heads b) :: postE b
 | [],x,b=>edges_head x b
 | y :: r,x,b=>by
  show (x,y.1) :: edges y (r ++ b) = (x,y.1) :: (preE y r ++ _);rw [edges_app r y b]; rfl
def Live (M : PMem) (q : Spot3 × Nat) : Prop:=∃ nd,M.ns[q.1.1]? = some nd/\nd.used = true/\nd.dead = false/\nd.retired = false/\nd.holder = -1/\nd.links = 1/\nd.key = q.1.2.1/\nd.value = q.1.2.2/\nd.leads false = q.2
def Newest (es : List PEntry) (x to : Nat) : Prop:=∃ en ∈ es,en.used = true/\en.src = x/\en.dst = to/\∀ e' ∈ es,e'.used = true->e'.src = x->e'.stamp<=en.stamp
def EndIs (M : PMem) : Prop:=∃ nd,M.ns[1]? = some nd/\nd.used = true/\nd.dead = false/\nd.retired = false/\nd.holder = -1/\nd.links = 0/\nd.key = 1099511627777
structure QM (M : PMem) (c : Int) (ch : List Spot3) : Prop where
 end_ : EndIs M
 live : ∀ q ∈ edges anchor3 ch,Live M q
 newest : ∀ q ∈ edges anchor3 ch,Newest M.es q.1.1 q.2
 sorted : ch.Pairwise (fun a b=>a.2.1 < b.2.1)
 keys : ∀ q ∈ ch,0<=q.2.1/\q.2.1<=1099511627776
 nodup : (0 :: 1 :: ch.map (·.1)).Nodup
 used : ∀ (i : Nat) nd,M.ns[i]? = some nd->nd.used = true->i ∈ 0 :: 1 :: ch.map (·.1)\/(nd.retired = true/\nd.dead = true)
 unused : ∀ nd ∈ M.ns,nd.used = false->nd.retired = false
 hold : ∀ nd ∈ M.ns,nd.used = true->nd.holder = -1
 calm : ∀ en ∈ M.es,en.pending = false
 ents : ∀ en ∈ M.es,en.used = true->en.side = false/\0<=en.stamp/\en.stamp<=c/\∃ (x : Nat) (nd : PNode),en.src = x/\x≠1/\M.ns[x]? = some nd/\nd.used = true
 uniq : ∀ (i j : Nat) a b,M.es[i]? = some a->M.es[j]? = some b->a.used = true->b.used = true->a.src = b.src->a.stamp = b.stamp->i = j
section
variable {M : PMem} {P : PSt} {i : Nat} {t : PThread} {c sl : Int} {k : PWork}
theorem hasNode_of {x : Nat} {nd : PNode} (h : M.ns[x]? = some nd) : M.hasNode x = true:=by
 have:=(List.getElem?_eq_some_iff.1 h).1
 unfold PMem.hasNode;rw [isIn_iff]; omega
theorem node_of {x : Nat} {nd : PNode} (h : M.ns[x]? = some nd) : M.node x = nd:=by
 unfold PMem.node;rw [if_pos (hasNode_of h)];simp [h]
theorem Live.leads {q : Spot3 × Nat} (h : Live M q) (hm : P.mem = M) (key : Int) : P.leadsFrom q.1.1 key = q.2/\M.sideFor q.1.1 key = false:=by
 obtain ⟨nd,h1,h2,h3,h4,h5,h6,h7,h8,h9⟩:=h;have hs : M.sideFor q.1.1 key = false:=by
  unfold PMem.sideFor;rw [node_of h1,h6]; rfl
 refine ⟨?_,hs⟩;unfold PSt.leadsFrom;rw [hm,hs];unfold PMem.leadsTo PMem.hasLink;rw [hasNode_of h1,node_of h1,h6,h9]
 rfl
theorem Live.key {q : Spot3 × Nat} (h : Live M q) : (M.node q.1.1).key = q.1.2.1/\(M.node q.1.1).value = q.1.2.2/\(M.node q.1.1).dead = false/\(M.node q.1.1).links = 1:=by
 obtain ⟨nd,h1,h2,h3,h4,h5,h6,h7,h8,h9⟩:=h;rw [node_of h1]; exact ⟨h7,h8,h3,h6⟩
theorem mem_edges_self (x : Spot3) (b : List Spot3) : (x,heads b) ∈ edges x b:=by rw [edges_head]; simp
theorem run_walk (hi : i < P.ts.length) (h0 : P.kind = 0) (hk : k.kind = 1\/k.kind = 2) (b : List Spot3) (hb : k.key<=(M.node (heads b)).key) : ∀ (a : List Spot3) (x : Spot3) (ab : Int),(∀ q ∈ edges x (a ++ b),Live M q)->(∀ q ∈ a,q.2.1 < k.key) ->
  ∃ ab',Run (st P i t M c sl { k with above:=ab,stand:=x.1,next:=4 }) i (a.length + 1) (st P i t M c sl { k with above:=ab',stand:=(lastOf x a).1,ahead:=heads b,next:=5 })
 | [],x,ab,hl,_=>by
  refine ⟨ab,run_upd (k:={ k with above:=ab,stand:=x.1,next:=4 }) hi hk ⟨by show 4<=4; omega,by show 4<=12; omega⟩ ?_⟩;have hL:=hl (x,heads b) (by simp [mem_edges_self]);unfold PSt.update;simp only
  congr 1
  rw [st_setW hi];unfold PSt.walk;rw [(hL.leads (P:=st P i t M c sl { k with above:=ab,stand:=x.1,next:=4 }) rfl k.key).1];have hp : (st P i t M c sl { k with above:=ab,stand:=x.1,next:=4 }).isPassed ((x,heads b).2 : Nat) k.key = false:=by
   unfold PSt.isPassed;rw [if_neg (by show ¬ P.kind = 1; omega)];simp only [decide_eq_false_iff_not];show ¬ (M.node (heads b)).key < k.key;omega
  simp only [hp]
  rfl
 | y :: r,x,ab,hl,ha=>by
  have hL:=hl (x,y.1) (by simp [edges]);have hl' : ∀ q ∈ edges y (r ++ b),Live M q:=fun q hq=>hl q (by show q ∈ (x,y.1) :: edges y (r ++ b); simp [hq])
  have hy : (M.node y.1).key = y.2.1:=((hl' (y,heads (r ++ b)) (mem_edges_self _ _)).key).1;obtain ⟨ab',hr⟩:=run_walk hi h0 hk b hb r y x.1 hl' (fun q hq=>ha q (by simp [hq]));refine ⟨ab',?_⟩;have e1 : Run (st P i t M c sl { k with above:=ab,stand:=x.1,next:=4 }) i 1 (st P i t M c sl { k with above:=x.1,stand:=y.1,next:=4 }):=by
   refine run_upd (k:={ k with above:=ab,stand:=x.1,next:=4 }) hi hk ⟨by show 4<=4; omega,by show 4<=12; omega⟩ ?_;unfold PSt.update;simp only
   congr 1
   rw [st_setW hi];unfold PSt.walk;rw [(hL.leads (P:=st P i t M c sl { k with above:=ab,stand:=x.1,next:=4 }) rfl k.key).1];have hp : (st P i t M c sl { k with above:=ab,stand:=x.1,next:=4 }).isPassed ((x,y.1).2 : Nat) k.key = true:=by
    unfold PSt.isPassed;rw [if_neg (by show ¬ P.kind = 1; omega)];simp only [decide_eq_true_eq];show (M.node y.1).key < k.key;rw [hy]; exact ha y (by simp)
   simp only [hp]
   rfl
  have:=e1.trans hr
  rw [show (y :: r).length + 1 = 1 + (r.length + 1) by simp; omega];exact this
end
end
section
section
variable {M M1 : PMem} {P : PSt} {i : Nat} {t : PThread} {c sl : Int} {k : PWork} {g : Nat->PNode->PNode}
def Turns (M M1 : PMem) (g : Nat->PNode->PNode) : Prop:=∀ j,M1.ns[j]? = (M.ns[j]?).map (g j)
theorem Turns.refl (M : PMem) : Turns M M (fun _ y=>y):=fun j=>by simp
theorem Turns.modN (h : Turns M M1 g) (x : Nat) (f : PNode->PNode) : Turns M (M1.modN x f) (fun j y=>if x = j then f (g j y) else g j y):=by
 intro j;have hget : (M1.modN x f).ns[j]? = (M1.ns[j]?).map (fun y=>if x = j then f y else y):=by
  unfold PMem.modN;split
  ·simp only [Int.toNat_natCast,List.getElem?_modify];by_cases hx : x = j
   ·simp [hx]
   ·simp [hx]
  ·rename_i hn
   have hx : ¬ x < M1.ns.length:=by
    intro hlt;exact hn (hasNode_of (List.getElem?_eq_getElem hlt))
   by_cases hj : x = j
   ·subst hj; rw [List.getElem?_eq_none (by omega)]; rfl
   ·simp [hj]
 rw [hget,h j];cases M.ns[j]? with
 | none=>rfl
 | some y=>by_cases hx : x = j <;> simp [hx]
theorem Turns.unlock (h : Turns M M1 g) (i : Nat) : Turns M (M1.unlock i) (fun j y=>unlocked i (g j y)):=by
 intro j;show (M1.ns.map (unlocked i))[j]? = _;rw [List.getElem?_map,h j];cases M.ns[j]? <;> rfl
theorem Turns.same (h : Turns M M1 g) (he : M1.es = M.es) (hg : ∀ (j : Nat) y,M.ns[j]? = some y->g j y = y) : M1 = M:=by
 obtain ⟨ns,es⟩:=M;obtain ⟨ns1,es1⟩:=M1;simp only at he;subst he
 congr 1
 apply List.ext_getElem?;intro j;have h1:=h j;simp only at h1 hg;rw [h1];cases hy : ns[j]? with
 | none=>rfl
 | some y=>simp [hg j y hy]
theorem modN_es (x : Int) (f : PNode->PNode) : (M.modN x f).es = M.es:=by unfold PMem.modN; split <;> rfl
theorem lock_ok {x : Nat} {nd : PNode} (h : M.ns[x]? = some nd) (hh : nd.holder = -1) : M.lock x i = (M.modN x (fun y=>{ y with holder:=i }),true):=by
 unfold PMem.lock;rw [if_pos (hasNode_of h),node_of h,hh]
 simp
theorem run_lock1 (hi : i < P.ts.length) (hk : k.kind = 1\/k.kind = 2) (hn : k.next = 5) (hl : k.locks = 0) {x : Nat} (hx : k.stand = x) {nd : PNode} (h : M.ns[x]? = some nd) (hh : nd.holder = -1) (ht : (st P i t M c sl k).takesOut k = false) :
  Run (st P i t M c sl k) i 1 (st P i t (M.modN x (fun y=>{ y with holder:=i })) c sl { k with locks:=1,next:=6 }):=by
 refine run_upd hi hk (by omega) ?_;unfold PSt.update;rw [hn];simp only;unfold PSt.lock PSt.wanted;rw [ht,hl];simp only [Bool.false_eq_true,if_false,List.length_singleton,Nat.zero_lt_one,if_true,List.getElem?_cons_zero,Option.getD_some];rw [show (st P i t M c sl k).mem = M from rfl,hx,lock_ok h hh];simp only [if_true,Nat.zero_add,Nat.le_refl];rw [st_setM,st_setW hi]
theorem leads_of (S : PSt) {x : Nat} {nd : PNode} (hx : S.mem.ns[x]? = some nd) (h1 : nd.links = 1) (key : Int) : S.leadsFrom x key = nd.leads false/\S.mem.sideFor x key = false:=by
 have hs : S.mem.sideFor x key = false:=by unfold PMem.sideFor; rw [node_of hx,h1]; rfl
 refine ⟨?_,hs⟩;unfold PSt.leadsFrom;rw [hs];unfold PMem.leadsTo PMem.hasLink;rw [hasNode_of hx,node_of hx,h1]
 rfl
theorem meets_of (S : PSt) (k : PWork) {y : Nat} {nb : PNode} (ha : k.ahead = y) (hb : S.mem.ns[y]? = some nb) : S.meetsKey k = (nb.key == k.key):=by
 unfold PSt.meetsKey;rw [ha,node_of hb]
theorem outdated_no (S : PSt) (k : PWork) (h0 : S.kind = 0) {x y : Nat} {nd nb : PNode} (hst : k.stand = x) (ha : k.ahead = y) (hx : S.mem.ns[x]? = some nd) (hd : nd.dead = false) (hl : nd.links = 1) (hle : nd.leads false = y) (hb : S.mem.ns[y]? = some nb) (hbd : nb.dead = false) : S.outdated k = false:=by
 unfold PSt.outdated PSt.asFound;rw [hst,ha,(leads_of S hx hl k.key).1,node_of hx,node_of hb,hd,hle,hbd,h0]
 simp
theorem run_not (hi : i < P.ts.length) (h0 : P.kind = 0) (hk : k.kind = 1\/k.kind = 2) (hn : k.next = 5) (hl : k.locks = 0) {x : Spot3} {b : List Spot3} (hx : k.stand = x.1) (ha : k.ahead = heads b) (hL : Live M (x,heads b)) {nb : PNode} (hb : M.ns[heads b]? = some nb) (hbd : nb.dead = false) (hne : x.1≠heads b)
  (hm : (nb.key == k.key) = (k.kind == 1)) (hu : ∀ nd ∈ M.ns,nd.used = true->nd.holder = -1) :
  Run (st P i t M c sl k) i 3 (st P i t M c sl { k with locks:=0,ans:={ stamp:=c },next:=13 }):=by
 obtain ⟨nd,l1,l2,l3,l4,l5,l6,l7,l8,l9⟩:=hL;simp only at l1 l9;obtain ⟨M1,hM1⟩ : ∃ M1,M1 = M.modN x.1 (fun y=>{ y with holder:=(i : Int) }):=⟨_,rfl⟩;have hT:=(Turns.refl M).modN x.1 (fun y=>{ y with holder:=(i : Int) });rw [<- hM1] at hT;have hes : M1.es = M.es:=by rw [hM1]; exact modN_es _ _
 have hmeet : (st P i t M c sl k).meetsKey k = (k.kind == 1):=(meets_of _ k ha hb).trans hm;have e1:=run_lock1 (P:=P) (t:=t) (c:=c) (sl:=sl) hi hk hn hl hx l1 l5 (by unfold PSt.takesOut; rw [hmeet]; rcases hk with h | h <;> rw [h] <;> rfl);rw [<- hM1] at e1;have hx1 : M1.ns[x.1]? = some { nd with holder:=i }:=by rw [hT,l1]; simp
 have hb1 : M1.ns[heads b]? = some nb:=by rw [hT,hb]; simp [hne]
 have e2 : Run (st P i t M1 c sl { k with locks:=1,next:=6 }) i 1 (st P i t M1 c sl { k with locks:=1,ans:={ stamp:=c },next:=12 }):=by
  refine run_upd (k:={ k with locks:=1,next:=6 }) hi hk ⟨by show 4<=6; omega,by show 6<=12; omega⟩ ?_;unfold PSt.update;simp only
  congr 1
  unfold PSt.check;have ho : (st P i t M1 c sl { k with locks:=1,next:=6 }).outdated { k with locks:=1,next:=6 } = false:=outdated_no _ _ h0 hx ha hx1 l3 l6 l9 hb1 hbd;rw [ho];have hm1 : (st P i t M1 c sl { k with locks:=1,next:=6 }).meetsKey { k with locks:=1,next:=6 } = (k.kind == 1):=(meets_of _ { k with locks:=1,next:=6 } ha hb1).trans hm;simp only [Bool.false_eq_true,if_false,hm1,beq_self_eq_true,if_true];rw [st_setW hi]
  rfl
 have hun : M1.unlock i = M:=by
  refine Turns.same (hT.unlock i) hes ?_;intro j y hy;by_cases hj : x.1 = j
  ·subst hj;rw [l1] at hy;obtain rfl:=Option.some.inj hy;simp only [if_true,unlocked,l2,beq_self_eq_true,Bool.and_self];rw [<- l5,<- l2]
  ·simp only [hj,if_false];unfold unlocked;split
   ·rename_i hc
    simp only [Bool.and_eq_true,beq_iff_eq] at hc
    have:=hu y (List.mem_of_getElem? hy) hc.1
    omega
   ·rfl
 have e3 : Run (st P i t M1 c sl { k with locks:=1,ans:={ stamp:=c },next:=12 }) i 1 (st P i t M c sl { k with locks:=0,ans:={ stamp:=c },next:=13 }):=by
  refine run_upd (k:={ k with locks:=1,ans:={ stamp:=c },next:=12 }) hi hk ⟨by show 4<=12; omega,by show 12<=12; omega⟩ ?_;unfold PSt.update;simp only
  congr 1
  unfold PSt.unlock;simp only;rw [if_neg (by simp),show (st P i t M1 c sl { k with locks:=1,ans:={ stamp:=c },next:=12 }).mem = M1 from rfl,hun,st_setM,st_setW hi]
 exact (e1.trans e2).trans e3
end
end
section
section
variable {M M1 : PMem} {g : Nat->PNode->PNode}
theorem find_only {α : Type} {p : α->Bool} {l : List α} {q : Nat} {x : α} (hx : l[q]? = some x) (hp : p x = true) (h : ∀ (j : Nat) y,l[j]? = some y->p y = true->j = q) : find p l 0 = q:=by
 refine find_hit p l q x hx ?_ hp;intro j hj y hy;cases hpy : p y with
 | false=>rfl
 | true=>have:=h j y hy hpy; omega
theorem count_zero {α : Type} {p : α->Bool} {l : List α} (h : ∀ x ∈ l,p x = false) : count p l = 0:=by
 unfold count;rw [List.filter_eq_nil_iff.2 (fun x hx=>by simp [h x hx])]; rfl
theorem free_entry (h : 1<=M.room.2) : ∃ (q : Nat) (e : PEntry),M.freeEntry = q/\M.es[q]? = some e/\e.used = false:=by
 rcases find_bd (fun x : PEntry=>!x.used) M.es 0 with ⟨_,h2⟩ | ⟨k,x,h1,h2,h3,_⟩
 ·have : M.room.2 = 0:=by unfold PMem.room; simp only; rw [count_zero h2]; rfl
  omega
 ·exact ⟨k,x,by unfold PMem.freeEntry; rw [h3]; simp,h1,by simpa using h2⟩
theorem free_node (h : 1<=M.room.1) : ∃ (q : Nat) (e : PNode),M.freeNode = q/\M.ns[q]? = some e/\e.used = false:=by
 rcases find_bd (fun x : PNode=>!x.used) M.ns 0 with ⟨_,h2⟩ | ⟨k,x,h1,h2,h3,_⟩
 ·have : M.room.1 = 0:=by unfold PMem.room; simp only; rw [count_zero h2]; rfl
  omega
 ·exact ⟨k,x,by unfold PMem.freeNode; rw [h3]; simp,h1,by simpa using h2⟩
theorem count_set {α : Type} (p : α->Bool) : ∀ (l : List α) (q : Nat) (x y : α),l[q]? = some x->count p (l.set q y) + (if p x then 1 else 0) = count p l + (if p y then 1 else 0)
 | [],q,x,y,h=>by simp at h
 | z :: r,0,x,y,h=>by
  simp at h;subst h;simp only [List.set_cons_zero,count,List.filter_cons];cases p z <;> cases p y <;> simp
 | z :: r,q + 1,x,y,h=>by
  have ih:=count_set p r q x y (by simpa using h);simp only [List.set_cons_succ,count,List.filter_cons] at ih ⊢;cases p z <;> simp <;> omega
theorem hasEntry_of {q : Nat} {e : PEntry} (h : M.es[q]? = some e) : M.hasEntry q = true:=by
 have:=(List.getElem?_eq_some_iff.1 h).1
 unfold PMem.hasEntry;rw [isIn_iff]; omega
theorem ent_of {q : Nat} {e : PEntry} (h : M.es[q]? = some e) : M.ent q = e:=by
 unfold PMem.ent;simp [h]
theorem pend_ok {n q : Nat} {nd : PNode} {e : PEntry} (hq : M.freeEntry = q) (he : M.es[q]? = some e) (hn : M.ns[n]? = some nd) (hl : nd.links = 1) (to : Int) : M.pend n false to = { M with es:=M.es.set q ⟨true,true,n,false,to,0⟩ }:=by
 unfold PMem.pend PMem.hasLink;rw [hq,hasEntry_of he,hasNode_of hn,node_of hn,hl];simp only [Bool.true_and];rw [if_pos (by decide)];unfold PMem.setE
 simp
theorem make_ok {f : Nat} {nf : PNode} (hf : M.freeNode = f) (hn : M.ns[f]? = some nf) (key value : Int) : M.make key value = ({ M with ns:=M.ns.set f (PNode.made key value) },(f : Int)):=by
 unfold PMem.make;rw [hf,if_pos (hasNode_of hn)]
 simp
theorem addLink_ok {n q : Nat} {nd : PNode} {e : PEntry} (hq : M.freeEntry = q) (he : M.es[q]? = some e) (hn : M.ns[n]? = some nd) (hl : nd.links = 0) (to : Int) : M.addLink n to = { ns:=M.ns.set n (linked false to nd),es:=M.es.set q ⟨true,true,n,false,to,0⟩ }:=by
 have hlt:=(List.getElem?_eq_some_iff.1 hn).1;have hmod : M.modN n (linked false to) = { M with ns:=M.ns.set n (linked false to nd) }:=by
  unfold PMem.modN;rw [if_pos (hasNode_of hn)]
  congr 1
  apply List.ext_getElem?;intro j;rw [List.getElem?_modify];by_cases hj : n = j
  ·subst hj; rw [List.getElem?_set_self hlt,hn]; simp
  ·simp [hj]
 unfold PMem.addLink;rw [hasNode_of hn,hq];rw [if_pos (by simp),node_of hn,hl];simp only;rw [hmod]
 have:=pend_ok (M:={ M with ns:=M.ns.set n (linked false to nd) }) (n:=n) (nd:=linked false to nd) hq he (by simp [hlt]) (by show nd.links + 1 = 1; rw [hl]) to
 rw [this]
theorem stamp_ok {n q : Nat} {e : PEntry} (hp : M.pending n false = q) (he : M.es[q]? = some e) (s : Int) : M.stamp n false s = { M with es:=M.es.set q { e with pending:=false,stamp:=s } }:=by
 unfold PMem.stamp;rw [hp,hasEntry_of he,ent_of he];simp [PMem.setE]
theorem stamp_none {n : Int} {s : Bool} (hp : M.pending n s = -1) (st : Int) : M.stamp n s st = M:=by
 unfold PMem.stamp;rw [hp];rw [if_neg];unfold PMem.hasEntry;rw [isIn_iff]; omega
theorem lead_ok {n q : Nat} {e : PEntry} {nd : PNode} (hp : M.pending n false = q) (he : M.es[q]? = some e) (hn : M.ns[n]? = some nd) (hl : nd.links = 1) : M.lead n false = M.modN n (fun x=>{ x with leads:=upd x.leads false e.dst }):=by
 unfold PMem.lead PMem.hasLink;rw [hp,hasEntry_of he,hasNode_of hn,node_of hn,hl,ent_of he]
 rfl
theorem unpend_ok {n q : Nat} {e : PEntry} (hp : M.pending n false = q) (he : M.es[q]? = some e) : M.unpend n false = { M with es:=M.es.set q PEntry.zero }:=by
 unfold PMem.unpend;rw [hp,hasEntry_of he];simp [PMem.setE]
theorem Turns.set (h : Turns M M1 g) (f : Nat) (v : PNode) : Turns M { M1 with ns:=M1.ns.set f v } (fun j y=>if f = j then v else g j y):=by
 intro j;show (M1.ns.set f v)[j]? = _;rw [List.getElem?_set];by_cases hj : f = j
 ·subst hj;simp only [if_true];have h1:=h f;by_cases hlt : f < M1.ns.length
  ·rw [if_pos hlt];rw [List.getElem?_eq_getElem hlt] at h1;cases hm : M.ns[f]? with
   | none=>rw [hm] at h1; simp at h1
   | some y=>rfl
  ·rw [if_neg hlt];rw [List.getElem?_eq_none (by omega)] at h1;cases hm : M.ns[f]? with
   | none=>rfl
   | some y=>rw [hm] at h1; simp at h1
 ·simp only [hj,if_false]; exact h j
theorem Turns.es (h : Turns M M1 g) (es : List PEntry) : Turns M { M1 with es:=es } g:=h
end
end
end Go.Proofs.YtfccelbmacjifaaGreat
