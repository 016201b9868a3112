import Derived.Test.YtfccelbmacjifabGreatP0
import Derived.Test.YtfccelbmacjifabGreatP7
set_option linter.unusedSimpArgs false
set_option maxRecDepth 100000
set_option maxHeartbeats 4000000
namespace Go.Proofs.YtfccelbmacjifabGreat
section
namespace T
section
variable {g g' : Gh} {M M' : PMem} {c c' : Int} {r : PSweep} {i j : Nat} {t t' u : PThread} {ts ts' : List PThread} {P : PSt} {x d : Int} {s : Bool} {key : Int} {k : PWork}
theorem notSide {s b : Bool} (h : ¬ s = b) : s = !b:=by cases s <;> cases b <;> simp_all
def Thru (M : PMem) (tr : Tr) (q x : Int) (u : PThread) : Prop:=u.busy = true/\u.work.kind = 2/\(u.work.next = 9\/u.work.next = 10)/\u.work.stand = x/\(u.work.above = 0\/tr.Pth q u.work.above)/\sd M u.work.above q = u.work.tside
def delG (g : Gh) (M : PMem) (c : Int) (ts' : List PThread) (k : PWork) : Gh where
 V:=fun T=>if T = c + 1 then (g.V c).del k.key else g.V T
 B:=g.B
 R:=fun x q=>g.R x q\/((g.V c).del k.key).Pth q x\/Ex ts' (Thru M ((g.V c).del k.key) q x)
 O:=fun x=>g.O x\/x = k.stand\/x = k.ahead
theorem Inv.cut (h : Inv g P) (ht : P.ts[i]? = some t) (hb : t.busy = true) (h7 : 7<=t.work.next) (h8 : t.work.next<=8) (k2 : t.work.kind = 2) : Tr.Cut 0 false (g.V P.clock) t.work.key t.work.stand t.work.above (Ld P.mem t.work.stand (!sd P.mem t.work.stand t.work.key)) (sd P.mem t.work.stand t.work.key) (sd P.mem t.work.above t.work.key):=by
 have hT:=h.th i t ht;have m:=h.mine ht hb h7 (by omega);have hA:=m.ab (m.mt k2 (.inl (by omega)));obtain ⟨e1,e2,e3⟩:=hT.e7 hb h7 h8;have hf:=h.found ht hb h7 h8;have hi : (g.V P.clock).Inn t.work.stand:=by
  rcases (Tr.ed_has e1).2 with e | e
  ·exact absurd e hA.2.2.1
  ·exact e
 exact ⟨by rw [hf]; exact e1,(e3 k2).1,h.edge ht m.us m.hs h8 (.inr hi)⟩
theorem Inv.takeDel (h : Inv g P) (ht : P.ts[i]? = some t) (hb : t.busy = true) (hn : t.work.next = 8) (k2 : t.work.kind = 2) (v : Int) :
  Inv (delG g P.mem P.clock (P.ts.set i { t with work:={ t.work with ans:={ did:=true,stamp:=P.clock + 1,value:=v },next:=9 } }) t.work) { P with clock:=P.clock + 1,ts:=P.ts.set i { t with work:={ t.work with ans:={ did:=true,stamp:=P.clock + 1,value:=v },next:=9 } } }:=by
 have hT:=h.th i t ht;have m:=h.mine ht hb (by omega) (by omega);obtain ⟨m1,m2,m3,m4,m5,m6⟩:=m.ts (by omega) (by omega);have e1:=m6 k2;have hM:=m.mt k2 (.inl (by omega));have hA:=m.ab hM;obtain ⟨e7,e8,e9⟩:=hT.e7 hb (by omega) (by omega);obtain ⟨e10,e11⟩:=e9 k2;have q8:=hT.q8 hb k2 (by omega) (by omega);have htm:=hT.tm hb (by omega);have hky:=hT.ky hb (by omega);have hc0:=h.o.sc;have hgo:=h.found ht hb (by omega) (by omega);have hcut:=h.cut ht hb (by omega) (by omega) k2;obtain ⟨k',hk'⟩ : ∃ k' : PWork,k' = { t.work with ans:={ did:=true,stamp:=P.clock + 1,value:=v },next:=9 }:=⟨_,rfl⟩;have hkk : k'.kind = 2:=by rw [hk']; exact k2
 have hkn : k'.next = 9:=by rw [hk']
 rw [show ({ t.work with ans:={ did:=true,stamp:=P.clock + 1,value:=v },next:=9 } : PWork) = k' from hk'.symm];obtain ⟨tr,htr⟩ : ∃ tr,tr = g.V P.clock:=⟨_,rfl⟩;obtain ⟨ts',hts'⟩ : ∃ ts',ts' = P.ts.set i { t with work:=k' }:=⟨_,rfl⟩;obtain ⟨G,hG⟩ : ∃ G,G = delG g P.mem P.clock (P.ts.set i { t with work:=k' }) t.work:=⟨_,rfl⟩;rw [<- hG];have hV : G.V (P.clock + 1) = tr.del t.work.key:=by rw [hG]; unfold delG; simp [htr]
 have hO : ∀ x,G.O x ↔ g.O x\/x = t.work.stand\/x = t.work.ahead:=fun x=>by rw [hG]; exact Iff.rfl
 have hB : ∀ x,G.B x = g.B x:=fun x=>by rw [hG]; rfl
 have hR : ∀ x q,G.R x q ↔ g.R x q\/(tr.del t.work.key).Pth q x\/Ex ts' (Thru P.mem (tr.del t.work.key) q x):=fun x q=>by rw [hG,hts',htr]; exact Iff.rfl
 have hVd:=h.n.gt;have hag:=h.n.ag;rw [<- htr] at hVd hag hgo e7 e10 hcut;obtain ⟨mm,hmm⟩ : ∃ mm,mm = Ld P.mem t.work.stand (!sd P.mem t.work.stand t.work.key):=⟨_,rfl⟩;rw [<- hmm] at hcut;have hdj:=hVd.dj;have hz:=hVd.z;have hci:=hcut.inn hdj hz;rw [hgo] at hci;simp only at hci;have iHas : ∀ x,(tr.del t.work.key).Has x ↔ tr.Has x/\x≠t.work.stand/\x≠t.work.ahead:=by
  intro x; have:=Tr.del_has (z:=x) hdj hz hcut; rw [hgo] at this; exact this
 have iInn : ∀ x,(tr.del t.work.key).Inn x ↔ tr.Inn x/\x≠t.work.stand:=fun x=>Tr.del_inn hdj hz hcut
 have iEd : ∀ x s d,A (tr.del t.work.key) x s d ↔ (A tr x s d/\x≠t.work.stand/\d≠t.work.stand)\/(x = t.work.above/\s = sd P.mem t.work.above t.work.key/\d = mm):=fun x s d=>Tr.del_ed hdj hz hcut
 have hHs : tr.Has t.work.stand:=Tr.inn_has hci.1;have hHa : tr.Has t.work.ahead:=(Tr.ed_has e7).1;have nOs : ¬ g.O t.work.stand:=fun e=>(h.n.ou _ e).2.1 (htr ▸ hHs)
 have nOa : ¬ g.O t.work.ahead:=fun e=>(h.n.ou _ e).2.1 (htr ▸ hHa)
 have parS : ∀ x s,A tr x s t.work.stand->x = t.work.above/\s = sd P.mem t.work.above t.work.key:=fun x s hx=>Tr.ed_par hdj hz hx e10
 have parA : ∀ x s,A tr x s t.work.ahead->x = t.work.stand/\s = sd P.mem t.work.stand t.work.key:=fun x s hx=>Tr.ed_par hdj hz hx e7
 have off : ∀ {p : PThread->Prop},(p { t with work:=k' }->False)->(p t->False)->(Ex (P.ts.set i { t with work:=k' }) p ↔ Ex P.ts p):=fun a b=>ex_iff ht (iff_of_false a b)
 have fr8 : ∀ x,Ex (P.ts.set i { t with work:=k' }) (Fr8 x) ↔ Ex P.ts (Fr8 x):=fun x=>off (by rintro ⟨_,e,_⟩; have : k'.kind = 1:=e; omega) (by rintro ⟨_,e,_⟩; omega)
 have fr : ∀ x,Ex (P.ts.set i { t with work:=k' }) (Fr x) ↔ Ex P.ts (Fr x):=fun x=>off (by rintro ⟨_,e,_⟩; have : k'.kind = 1:=e; omega) (by rintro ⟨_,e,_⟩; omega)
 have own : ∀ x,Ex (P.ts.set i { t with work:=k' }) (Own x) ↔ Ex P.ts (Own x):=fun x=>off (by rintro ⟨_,_,e,_⟩; have : k'.next = 10\/k'.next = 11\/(k'.next = 12/\_):=e; omega) (by rintro ⟨_,_,e,_⟩; omega)
 have hgd : ∀ x,Gd G (P.clock + 1) (P.ts.set i { t with work:=k' }) x ↔ Gd g P.clock P.ts x:=by
  intro x;unfold Gd;rw [fr,hV,hO,iHas,<- htr];refine and_congr ⟨?_,?_⟩ Iff.rfl
  ·rintro ((e | rfl | rfl) | e)
   ·exact .inl e
   ·exact .inr hHs
   ·exact .inr hHa
   ·exact .inr e.1
  ·rintro (e | e)
   ·exact .inl (.inl e)
   ·by_cases q1 : x = t.work.stand
    ·exact .inl (.inr (.inl q1))
    ·by_cases q2 : x = t.work.ahead
     ·exact .inl (.inr (.inr q2))
     ·exact .inr ⟨e,q1,q2⟩
 have hgr : Gro g G P.mem P.mem P.clock (P.clock + 1) P.ts (P.ts.set i { t with work:=k' }) i:=by
  refine ⟨by omega,fun x hx=>(hgd x).2 hx,?_,?_⟩
  ·intro x hx;exact ⟨h.usedGd hx,rfl,rfl,hB x,fun k hk=>(hR x k).2 (.inl hk),fun hr=>.inl ⟨hr,rfl⟩⟩
  ·intro x hx;exact ⟨fun h=>⟨hx,h⟩,fun h=>h.2⟩
 have hz' : ¬ (tr.del t.work.key).Has 0:=fun e=>hz ((iHas 0).1 e).1
 have own2 : ∀ x,Ho P.mem x = i->∀ (j : Nat),Ho P.mem x = j->j = i:=fun x e1 j e2=>by rw [e1] at e2; omega
 -- what another Remove has cut stays
 have others : ∀ (j : Nat) u,j≠i->P.ts[j]? = some u->u.busy = true->u.work.kind = 2->(u.work.next = 9\/u.work.next = 10\/u.work.next = 11\/(u.work.next = 12/\u.work.ans.did = true))->A (tr.del t.work.key) u.work.above (sd P.mem u.work.above u.work.key) (Ld P.mem u.work.stand (!sd P.mem u.work.stand u.work.key))/\Ld P.mem u.work.stand (!sd P.mem u.work.stand u.work.key)≠t.work.stand/\Ld P.mem u.work.stand (!sd P.mem u.work.stand u.work.key)≠t.work.ahead:=by
  intro j u hne hj b hk hn';have hTj:=h.th j u hj;have q:=(hTj.q9 b hk hn').1;have hab:=hTj.hAbove h.n.one.1 b (by omega) (by omega) ⟨hk,q.ky⟩;have qa:=q.a;rw [<- htr] at qa;have n1 : u.work.above≠t.work.stand:=fun e=>hne (own2 _ m.hs j (e ▸ hab.2))
  have n2 : Ld P.mem u.work.stand (!sd P.mem u.work.stand u.work.key)≠t.work.stand:=by
   intro e;rw [e] at qa
   have:=(parS _ _ qa).1
   exact hne (own2 _ hA.2.1 j (this ▸ hab.2))
  have n3 : Ld P.mem u.work.stand (!sd P.mem u.work.stand u.work.key)≠t.work.ahead:=by
   intro e;rw [e] at qa;exact n1 (parA _ _ qa).1
  exact ⟨(iEd _ _ _).2 (.inl ⟨qa,n1,n2⟩),n2,n3⟩
 have mine : A (tr.del t.work.key) t.work.above (sd P.mem t.work.above t.work.key) mm:=(iEd _ _ _).2 (.inr ⟨rfl,rfl,rfl⟩);refine h.build (M':=P.mem) (t':={ t with work:=k' }) ht ?_ h.wm ?_ ?_ ?_ ?_
 ·-- the others
  intro j u hne hj;refine ⟨by omega,hgr.ga,hgr.gn,fun x hx=>(hO x).2 (.inl hx),?_,?_,fun x y _=>rfl,?_,by rw [hV]; exact hz'⟩
  ·intro x hx;have ns : x≠t.work.stand:=fun e=>h.notOther ht hj hne ⟨m.us,m.hs⟩ (e ▸ hx)
   have na : x≠t.work.above:=fun e=>h.notOther ht hj hne ⟨hA.1,hA.2.1⟩ (e ▸ hx)
   refine ⟨rfl,fun s=>rfl,fun s st d hd=>hd,fun s d hd=>?_,hB x⟩;rw [hV,iEd];rw [<- htr] at hd;exact .inl ⟨hd,ns,fun e=>na (parS x s (e ▸ hd)).1⟩
  ·rintro x ⟨b,hk,hn',hm⟩;obtain ⟨a',n',q'⟩:=(h.th j u hj).f8 b hk hn';have hF : Ex P.ts (Fr x):=⟨j,u,hj,b,hk,.inl hn',hm⟩;have n1 : x≠t.work.ahead:=fun e=>m.ah.2 (e ▸ hF)
   have n2 : x≠t.work.stand:=fun e=>by
    have:=(h.freshUs hj ⟨b,hk,.inl hn',hm⟩).2.2
    rw [e,m.hs] at this; omega
   rw [q'.md] at hm
   have:=q'.h
   rw [<- htr] at this;rw [hV,hO,iHas];simp at hm; grind
  ·intro x hx;exact ⟨fun h=>⟨hx,h⟩,fun h=>h.2⟩
 ·-- the nodes
  have hinn:=fun x=>h.n.inn (x:=x)
  have hqs : ∀ (j : Nat) u,P.ts[j]? = some u->u.busy = true->u.work.kind = 2->(u.work.next = 9\/u.work.next = 10\/u.work.next = 11\/(u.work.next = 12/\u.work.ans.did = true))->Outs g P.mem P.clock u.work:=fun j u hj b hk hn'=>((h.th j u hj).q9 b hk hn').1
  obtain ⟨gt,⟨ag1,ag2⟩,n0,tn,us,ou,od,ot,re,ro,lk,ph,pr,pp,rg,bd⟩:=h.n;rw [<- htr] at *;have hgt' : Gt (tr.del t.work.key):=by
   refine ⟨Tr.del_dj hdj hz hcut,hz',Tr.del_ok hdj hz hcut hVd.ok,?_,?_⟩
   ·rw [Tr.del_lea hdj hz hcut];refine ⟨hVd.one,fun e=>?_⟩;rw [hgo] at e;have e : 1 = t.work.ahead:=e;have e2:=(ag2 _ _ _ hVd.one).2.2.1
    have:=hM.2
    rw [<- e,e2] at this; omega
   ·intro x k v hx hx1;exact hVd.kr x k v ((Tr.del_lea hdj hz hcut).1 hx).1 hx1
  have hag' : Ag P.mem (tr.del t.work.key):=⟨fun x q hx=>ag1 x q ((Tr.del_nod hdj hz hcut).1 hx).1,fun x q w hx=>ag2 x q w ((Tr.del_lea hdj hz hcut).1 hx).1⟩
  -- on by the new tree
  have on' : ∀ x s d q,A (tr.del t.work.key) x s d->(x = 0\/(tr.del t.work.key).Pth q x)->sd P.mem x q = s->Ln P.mem d = 2->(tr.del t.work.key).Pth q d:=by
   intro x s d q hAd hx hs hl;have hd : (tr.del t.work.key).Inn d:=by
    have:=(iHas d).1 (Tr.ed_has hAd).1
    rw [iInn];exact ⟨(hinn d this.1).1.1 hl,this.2.1⟩
   have hg : ∀ y,((tr.del t.work.key).goal q).1 = y->¬ (tr.del t.work.key).Inn y:=by
    rintro y rfl hi;exact Tr.inn_lea hgt'.dj hi _ _ (Tr.goal_lea _)
   rcases hx with rfl | hx
   ·have:=(Tr.ed_root hgt'.dj hgt'.z hAd).2
    subst this;rcases Tr.pth_root (k:=q) (tr.del t.work.key) with e | e
    ·exact e
    ·exact absurd hd (hg _ e.1)
   ·obtain ⟨qq,hq⟩:=Tr.pth_nod hx;have hsd : sd P.mem x q = decide (qq<=q):=by
     have:=hag'.n x qq hq
     unfold sd PMem.sideFor;simp only [Ln,Ky] at this;rw [this.2.1,this.2.2]; simp
    rw [<- hs,hsd] at hAd;rcases Tr.pth_step hgt'.dj hgt'.z hx hq hAd with e | e
    ·exact e
    ·exact absurd hd (hg _ e)
  have lk' : ∀ x s d,A (tr.del t.work.key) x s d->Ld P.mem x s = d\/Ex (P.ts.set i { t with work:=k' }) (Xl x s):=by
   intro x s d hd;rcases (iEd x s d).1 hd with ⟨e,_⟩ | ⟨rfl,rfl,_⟩
   ·rcases lk x s d e with e | e
    ·exact .inl e
    ·right;rcases e.or ht with ⟨_,_,e,_⟩ | ⟨j,u,e1,e2,e3⟩
     ·omega
     ·exact Ex.other e2 e3 e1
   ·exact .inr (Ex.new ht ⟨hb,.inr hkk,.inl hkn,by rw [hk']; exact e1,by rw [hk']; show t.work.tside = _; rw [m4,e1]⟩)
  -- what an odd link leads to
  have odd : ∀ x s,Ex (P.ts.set i { t with work:=k' }) (Xl x s)->Ln P.mem (Ld P.mem x s) = 2->Ex ts' (fun u=>u.busy = true/\u.work.kind = 2/\(u.work.next = 9\/u.work.next = 10)/\u.work.stand = Ld P.mem x s/\u.work.above = x/\u.work.tside = s):=by
   intro x s hx hl;rw [hts'];rcases (Ex.get ht).1 hx with ⟨_,_,_,x1,x2⟩ | ⟨j,u,hne,hj,b,hk,hn',x1,x2⟩
   ·refine Ex.new ht ⟨hb,hkk,.inl hkn,?_,?_,x2⟩
    ·have x1 : k'.tsrc = x:=x1;have x2 : k'.tside = s:=x2;rw [hk'] at x1 x2 ⊢;have x1 : t.work.tsrc = x:=x1;have x2 : t.work.tside = s:=x2;show t.work.stand = Ld P.mem x s;rw [<- x1,<- x2,m4,e1]; exact e11.symm
    ·have x1 : k'.tsrc = x:=x1;rw [hk'] at x1 ⊢;have x1 : t.work.tsrc = x:=x1;show t.work.above = x;rw [<- x1,e1]
   ·have hTj:=h.th j u hj;obtain ⟨q1,q2⟩:=hTj.tt b (by omega) (by omega);rcases hk with hk | hk
    ·exfalso;rw [if_neg (by omega)] at q1;have hn' : u.work.next = 10:=by
      rcases hn' with hn' | hn'
      ·have:=hTj.n9 b hn'; omega
      ·exact hn'
     obtain ⟨a,n,q⟩:=hTj.f10 b hk hn';have h1:=q.ls;rw [<- q1,<- q2,x1,x2] at h1;rw [h1] at hl
     have:=(hTj.cs b (by omega) (by omega)).2.2.1
     omega
    ·rw [if_pos hk] at q1;have h1:=(hTj.q8 b hk (by omega) (by omega)).2.1;rw [<- q1,<- q2,x1,x2] at h1;exact Ex.other hj ⟨b,hk,hn',h1.symm,q1.symm.trans x1,x2⟩ hne
  refine ⟨by rw [hV]; exact hgt',by rw [hV]; exact hag',n0,?_,?_,?_,?_,?_,?_,?_,?_,?_,?_,?_,?_,?_⟩
  ·intro x hx; rw [hV,iHas] at hx; exact tn x hx.1
  ·intro x hx;rw [hV,iHas,hO,fr8];rcases us x hx with e | e | e | e
   ·exact .inl e
   ·by_cases q1 : x = t.work.stand
    ·exact .inr (.inr (.inl (.inr (.inl q1))))
    ·by_cases q2 : x = t.work.ahead
     ·exact .inr (.inr (.inl (.inr (.inr q2))))
     ·exact .inr (.inl ⟨e,q1,q2⟩)
   ·exact .inr (.inr (.inl (.inl e)))
   ·exact .inr (.inr (.inr e))
  ·intro x hx;rw [hV,iHas];rcases (hO x).1 hx with e | rfl | rfl
   ·have:=ou x e; exact ⟨this.1,fun q=>this.2.1 q.1,this.2.2⟩
   ·exact ⟨m.us,fun q=>q.2.1 rfl,hA.2.2.1,.inr hA.2.2.2.2⟩
   ·exact ⟨h.usedGd (.inr m.ah),fun q=>q.2.2 rfl,m.a0,.inl m.al⟩
  ·intro x hx; exact (hO x).2 (.inl (od x hx))
  ·intro x hx;rcases (hO x).1 hx with e | e
   ·rcases ot x e with e | e
    ·exact .inl e
    ·right;rcases e.or ht with ⟨_,_,e,_⟩ | ⟨j,u,e1,e2,e3⟩
     ·omega
     ·exact Ex.other e2 e3 e1
   ·exact .inr (Ex.new ht ⟨hb,hkk,hkn,by show x = k'.stand\/x = k'.ahead; rw [hk']; exact e⟩)
  ·intro x hx; have:=re x hx; exact ⟨this.1,by omega⟩
  ·intro x hx; rw [own]; exact ro x hx
  ·intro x s d hd; rw [hV] at hd; exact lk' x s d hd
  ·intro x s hx hs;rw [hgd] at hx ⊢;rw [hB,hB]; exact ph x s hx hs
  ·-- the keys that come by
   intro x s q hx hRx hsd hl;rw [hgd] at hx;have viaT : x = 0\/(tr.del t.work.key).Pth q x->G.R (Ld P.mem x s) q:=by
    intro hxp;obtain ⟨d',hd'⟩ : ∃ d',A (tr.del t.work.key) x s d':=by
     rcases hxp with rfl | hxp
     ·have : s = false:=by rw [<- hsd]; exact sd0 n0.2.1 q
      rw [this]; exact ⟨_,Tr.ed_pl 0 false _⟩
     ·exact Tr.inn_ed 0 false s (Tr.pth_inn hxp)
    rw [hR];rcases lk' x s d' hd' with e | e
    ·right; left;exact on' x s _ q (e ▸ hd') hxp hsd hl
    ·right; right;obtain ⟨j,u,hj,b,hk,hn',x1,x2,x3⟩:=odd x s e hl;exact ⟨j,u,hj,b,hk,hn',x1,by rw [x2]; exact hxp,by rw [x2,x3]; exact hsd⟩
   rcases hRx with e | e
   ·exact viaT (.inl e)
   ·rcases (hR x q).1 e with e | e | e
    ·exact (hR _ q).2 (.inl (pr x s q hx (.inr e) hsd hl))
    ·exact viaT (.inr e)
    ·rw [hR];right; left;rw [hts'] at e
     -- by a place that is just cut
     have key : ∀ (above key0 : Int),sd P.mem above q = sd P.mem above key0->(above = 0\/(tr.del t.work.key).Pth q above)->A (tr.del t.work.key) above (sd P.mem above key0) (Ld P.mem x s)->(tr.del t.work.key).Pth q (Ld P.mem x s):=fun above key0 y1 y2 y3=>on' above _ _ q y3 y2 y1 hl
     rcases (Ex.get ht).1 e with ⟨_,_,_,y1,y2,y3⟩ | ⟨j,u,hne,hj,b,hk,hn',y1,y2,y3⟩
     ·have ks : k'.stand = t.work.stand:=by rw [hk']
      have ka : k'.above = t.work.above:=by rw [hk']
      have kt : k'.tside = sd P.mem t.work.above t.work.key:=by rw [hk']; show t.work.tside = _; rw [m4,e1]
      have y1 : k'.stand = x:=y1;have y2 : k'.above = 0\/(tr.del t.work.key).Pth q k'.above:=y2;have y3 : sd P.mem k'.above q = k'.tside:=y3;rw [ks] at y1;rw [ka] at y2 y3;rw [kt] at y3;subst y1;have hs : s = !sd P.mem t.work.stand t.work.key:=by
       refine notSide (fun hh=>?_);rw [hh,e8] at hl
       have:=m.al; omega
      refine key _ t.work.key y3 y2 ?_;rw [hs,<- hmm]; exact mine
     ·have q9:=hqs j u hj b hk (by omega);have hTj:=h.th j u hj;have htj:=hTj.tt b (by omega) (by omega);rw [if_pos hk] at htj;rw [htj.1] at htj;subst y1;have hs : s = !sd P.mem u.work.stand u.work.key:=by
       refine notSide (fun hh=>?_);rw [hh,q9.ld] at hl
       have:=(hTj.cs b (by omega) (by omega)).2.2.1; omega
      refine key _ u.work.key (y3.trans htj.2) y2 ?_;rw [hs]; exact (others j u hne hj b hk (by omega)).1
  ·-- places cut one below the other
   intro x s hOx hl hOd;rcases (hO x).1 hOx with e | rfl | rfl
   ·rcases (hO _).1 hOd with e2 | e2
    ·rcases pp x s e hl e2 with e3 | e3
     ·exact .inl e3
     ·right;rcases e3.or ht with ⟨_,_,e,_⟩ | ⟨j,u,e1,e2,e3⟩
      ·omega
      ·exact Ex.other e2 e3 e1
    ·left
     -- its own cutter would hold what we hold
     have fin : ∀ (j : Nat) u,P.ts[j]? = some u->u.busy = true->u.work.kind = 2->(u.work.next = 9\/u.work.next = 10\/u.work.next = 11\/(u.work.next = 12/\u.work.ans.did = true))->(x = u.work.stand\/x = u.work.ahead)->Re P.mem x:=by
      intro j u hj b hk hn' hx;exfalso;have hTj:=h.th j u hj;have q9:=hqs j u hj b hk hn';have hne : j≠i:=by
       rintro rfl;rw [ht] at hj; injection hj with hj; subst hj
       omega
      rcases hx with rfl | rfl
      ·obtain ⟨o1,o2,o3⟩:=others j u hne hj b hk hn';by_cases hs : s = sd P.mem u.work.stand u.work.key
       ·rw [hs,q9.ld] at e2;rcases e2 with e2 | e2
        ·exact nOs (e2 ▸ q9.o.2)
        ·exact nOa (e2 ▸ q9.o.2)
       ·have hs:=notSide hs;rw [hs] at e2;rcases e2 with e2 | e2
        ·exact o2 e2
        ·exact o3 e2
      ·have:=(hTj.cs b (by omega) (by omega)).2.2.1; omega
     rcases ot x e with e3 | ⟨j,u,hj,b,hk,hn',hx⟩
     ·rcases ro x e3 with e4 | ⟨j,u,hj,b,hk,hn',hx⟩
      ·exact e4
      ·exact fin j u hj b hk (.inr hn') hx
     ·exact fin j u hj b hk (.inl hn') hx
   ·right;by_cases hs : s = sd P.mem t.work.stand t.work.key
    ·rw [hs,e8];exact Ex.new ht ⟨hb,hkk,.inl hkn,by rw [hk'],by rw [hk']⟩
    ·exfalso;have hs:=notSide hs;rw [hs,<- hmm] at hOd;rcases (hO _).1 hOd with q | q | q
     ·exact (ou _ q).2.1 hci.2.1
     ·exact hci.2.2.1 q.symm
     ·exact hci.2.2.2.2.1 q.symm
   ·have:=m.al; omega
  ·intro x q hx;rw [hV] at hx ⊢;rw [iInn] at hx;rw [hR];constructor
   ·rintro (e | e | e)
    ·exact Tr.del_pth hdj hz hcut ((rg x q hx.1).1 e) hx.2
    ·exact e
    ·exfalso;rw [hts'] at e;rcases (Ex.get ht).1 e with ⟨_,_,_,y1,_⟩ | ⟨j,u,hne,hj,b,hk,hn',y1,_⟩
     ·have y1 : k'.stand = x:=y1;rw [hk'] at y1;exact hx.2 y1.symm
     ·have q9:=hqs j u hj b hk (by omega);exact (ou x (y1 ▸ q9.o.1)).2.1 (Tr.inn_has hx.1)
   ·intro e; exact .inr (.inl e)
  ·intro x; rw [hB]; have:=bd x; omega
 ·-- the entries
  refine ⟨?_,?_⟩
  ·intro x s st d hd
   have:=h.e.ms x s st d hd; exact ⟨this.1,this.2.1,by omega,this.2.2.2⟩
  ·intro x s d hd;rcases (h.e.pd x s d hd).or ht with (e | e) | ⟨j,u,e1,e2,e3⟩
   ·obtain ⟨a1,a2,a3,a4,a5,a6⟩:=e;exact Ex.new ht (.inl ⟨a1,.inr hkk,by show 8<=k'.next; omega,by show k'.next<=11; omega,by rw [hk']; exact a5,by rw [hk']; exact a6⟩)
   ·obtain ⟨_,e,_⟩:=e; omega
   ·exact Ex.other e2 e3 e1
 ·refine h.o.keep ht (by omega) (fun x hx=>?_) (fun x y hx=>?_) ?_ ?_
  ·obtain ⟨_,e,_⟩:=hx; have : k'.kind = 1:=e; omega
  ·right;obtain ⟨_,_,_,_,y2⟩:=hx;have y2 : k'.ahead = y:=y2;rw [hk'] at y2;have y2 : t.work.ahead = y:=y2;intro j u x' hj hp
   have:=(h.pairNot ht hj hp).2.2.2.2.1
   exact nOa (y2 ▸ this)
  ·intro x hx; exact .inr ⟨hx,rfl⟩
  ·intro x _ hr; exact ⟨hr,rfl⟩
 ·refine hT.own (k:=k') h.n.one.1 hb (by omega) (by omega) hgr (by rw [hk']; exact ⟨rfl,rfl,rfl,rfl,rfl,rfl,rfl,rfl,rfl⟩) (by omega) (by omega) (by omega) (fun _=>hkk) ?_ (by omega) ?_ (by omega) (by omega) ?_ ?_ (by omega) ?_
  ·intro _ _; rw [hk']; exact hT.c7 hb (by omega) (by omega)
  ·intro _ _; rw [hk']; exact hT.tt hb (by omega) (by omega)
  ·intro _ _ _; rw [hk']; exact q8
  ·intro _ _;refine ⟨⟨?_,?_,?_,?_,?_,?_⟩,fun e=>absurd hkn e⟩
   ·rw [hk']; exact ⟨(hO _).2 (.inr (.inl rfl)),(hO _).2 (.inr (.inr rfl))⟩
   ·rw [hk']; exact ⟨(h.n.tn _ (htr ▸ hHs)).2,(h.n.tn _ (htr ▸ hHa)).2⟩
   ·rw [hk']; exact e8
   ·rw [hV,hk']; show A _ t.work.above (sd P.mem t.work.above t.work.key) (Ld P.mem t.work.stand (!sd P.mem t.work.stand t.work.key)); rw [<- hmm]; exact mine
   ·rw [hk']; exact hM.2
   ·rw [hk']; exact hA.2.2.2.2
  ·intro _ _;refine ⟨by rw [hk'],?_,?_,?_,?_⟩
   ·rw [hk']; show t.work.time < P.clock + 1; omega
   ·rw [hk']; show 0<=P.clock + 1; omega
   ·rw [hk']; show P.clock + 1<=P.clock + 1; omega
   ·intro s d hh;have : k'.ans.stamp = P.clock + 1:=by rw [hk']
    rw [this]
    have:=h.e.ms _ _ s d hh; omega
end
end T
end
section
namespace T
section
variable {g g' : Gh} {M M' : PMem} {c c' : Int} {r : PSweep} {i j : Nat} {t t' u : PThread} {ts ts' : List PThread} {P : PSt} {x d : Int} {s : Bool} {key : Int} {k : PWork}
def Took (P : PSt) (t : PThread) : Prop:=t.work.next = 8/\(t.work.kind = 1\/t.work.kind = 2)/\¬ P.limit<=P.clock
instance (P : PSt) (t : PThread) : Decidable (Took P t):=inferInstanceAs (Decidable (_/\_))
def nextG (g : Gh) (P : PSt) (i : Nat) (t : PThread) : Gh :=
 if Took P t then (if t.work.kind = 2 then delG g P.mem P.clock (P.step i t).1.ts t.work else insG g P.clock t.work (t.work.made[0]?.getD 0) (t.work.made[1]?.getD 0)) else g
theorem nextG_no (h : ¬ Took P t) : nextG g P i t = g:=by unfold nextG; rw [if_neg h]
theorem step_mid (P : PSt) (h4 : 4<=t.work.next) (h12 : t.work.next<=12) : P.step i t = if t.work.kind = 3\/t.work.kind = 4 then P.read i t.work else P.update i t.work:=by
 unfold PSt.step;split <;> first | (rename_i hh; omega) | rfl
theorem Inv.unlock (h : Inv g P) (ht : P.ts[i]? = some t) (hb : t.busy = true) (hn : t.work.next = 12) : Inv g (P.unlock i t.work):=by
 unfold PSt.unlock;simp only;by_cases hh : t.work.kind = 2/\t.work.ans.did = true
 ·rw [if_pos hh,setMW_to P ht]; exact h.retire ht hb hn hh.1 hh.2
 ·rw [if_neg hh,setMW_to P ht]; exact h.unlock0 ht hb hn hh
theorem Inv.read (h : Inv g P) (ht : P.ts[i]? = some t) (hb : t.busy = true) (hn : t.work.next = 4) (hk : t.work.kind = 3\/t.work.kind = 4) : Inv g (P.read i t.work).1:=by
 unfold PSt.read;simp only;split
 ·exact h
 ·rw [setW_to P ht];rcases hk with hk | hk
  ·rw [if_pos hk];unfold PSt.lookUp;split
   ·exact h.readTo ht hb hn (.inl hk) rfl (.inl hn) rfl rfl rfl rfl rfl (fun _=>rfl)
   ·exact h.readTo ht hb hn (.inl hk) rfl (.inr rfl) rfl rfl rfl rfl rfl (fun _=>rfl)
  ·rw [if_neg (by omega)];unfold PSt.scan;simp only;split
   ·exact h.readTo ht hb hn (.inr hk) rfl (.inr rfl) rfl rfl rfl rfl rfl (fun e=>absurd hk e)
   ·exact h.readTo ht hb hn (.inr hk) rfl (.inl hn) rfl rfl rfl rfl rfl (fun e=>absurd hk e)
theorem take_ts (P : PSt) (ht : P.ts[i]? = some t) (hn : t.work.next = 8) (hl : ¬ P.limit<=P.clock) (hk : t.work.kind = 1\/t.work.kind = 2) :
  P.step i t = (if t.work.kind = 2 then ({ P with clock:=P.clock + 1,ts:=P.ts.set i { t with work:={ t.work with ans:={ did:=true,stamp:=P.clock + 1,value:=(P.mem.node t.work.ahead).value },next:=9 } } },1)
   else ({ P with mem:=P.mem.stampsNew (P.clock + 1) t.work.made,clock:=P.clock + 1,ts:=P.ts.set i { t with work:={ t.work with ans:={ did:=true,stamp:=P.clock + 1 },next:=10 } } },1)):=by
 rw [step_mid P (by omega) (by omega),if_neg (by omega)];unfold PSt.update;simp only [hn];unfold PSt.take;rw [if_neg hl];by_cases k2 : t.work.kind = 2
 ·simp only [k2,if_true];rw [setW_to _ (show ({ P with clock:=P.clock + 1 } : PSt).ts[i]? = some t from ht)]
 ·simp only [k2,if_false];rw [setMW_to _ (show ({ P with clock:=P.clock + 1 } : PSt).ts[i]? = some t from ht)]
theorem Inv.step (h : Inv g P) (ht : P.ts[i]? = some t) (hb : t.busy = true) : Inv (nextG g P i t) (P.step i t).1:=by
 have hT:=h.th i t ht;have hnx:=hT.nx hb;have hkd:=hT.kd hb;have hrd:=hT.rd hb;by_cases hT8 : Took P t
 ·obtain ⟨hn,hk,hl⟩:=id hT8;unfold nextG;rw [if_pos hT8,take_ts P ht hn hl hk];by_cases k2 : t.work.kind = 2
  ·rw [if_pos k2,if_pos k2];exact h.takeDel ht hb hn k2 _
  ·rw [if_neg k2,if_neg k2];have k1 : t.work.kind = 1:=by omega
   obtain ⟨a,n,q⟩:=hT.f8 hb k1 hn;have e1 : t.work.made[0]?.getD 0 = a:=by rw [q.md]; rfl
   have e2 : t.work.made[1]?.getD 0 = n:=by rw [q.md]; rfl
   rw [e1,e2];exact h.takeIns ht hb hn k1 q
 ·rw [nextG_no hT8];rcases (show t.work.next = 1\/t.work.next = 2\/t.work.next = 3\/t.work.next = 13\/(4<=t.work.next/\t.work.next<=12) by omega) with hn | hn | hn | hn | hn
  ·unfold PSt.step; simp only [hn];exact h.step1 ht hb hn
  ·unfold PSt.step; simp only [hn];exact h.step2 ht hb hn
  ·unfold PSt.step; simp only [hn];exact h.step3 ht hb hn
  ·unfold PSt.step; simp only [hn];exact h.step13 ht hn
  ·rw [step_mid P hn.1 hn.2];by_cases hk : t.work.kind = 3\/t.work.kind = 4
   ·rw [if_pos hk]
    have:=hrd hk
    exact h.read ht hb (by omega) hk
   ·rw [if_neg hk];have hk : t.work.kind = 1\/t.work.kind = 2:=by omega
    unfold PSt.update;rcases (show t.work.next = 4\/t.work.next = 5\/t.work.next = 6\/t.work.next = 7\/t.work.next = 8\/t.work.next = 9\/t.work.next = 10\/t.work.next = 11\/t.work.next = 12 by omega) with hn | hn | hn | hn | hn | hn | hn | hn | hn
    ·simp only [hn]; exact h.walk ht hb hn hk
    ·simp only [hn];rcases h.lock ht hb hn with ⟨_,_,q⟩ | ⟨_,q⟩
     ·exact q
     ·rw [q]; exact h
    ·simp only [hn]; exact h.check ht hb hn
    ·simp only [hn]; exact h.prepare ht hb hn
    ·simp only [hn];have hl : P.limit<=P.clock:=Classical.not_not.1 (fun hl=>hT8 ⟨hn,hk,hl⟩);unfold PSt.take;rw [if_pos hl];exact h.takeLate ht hb hn
    ·simp only [hn]; rw [setMW_to P ht]; exact h.kill ht hb hn
    ·simp only [hn]; rw [setMW_to P ht]; exact h.link ht hb hn
    ·simp only [hn]; rw [setMW_to P ht]; exact h.stamp ht hb hn
    ·simp only [hn]; exact h.unlock ht hb hn
end
end T
end
section
namespace T
section
variable {g g' : Gh} {M M' : PMem} {c c' : Int} {r r' : PSweep} {i j : Nat} {t t' u : PThread} {ts ts' : List PThread} {P : PSt} {x d : Int} {s : Bool} {key : Int} {k : PWork}
theorem Th.resweep (h : Th g M c r ts i t) (htm : t.busy = true->3<=t.work.next->i + 1 < r'.made->(r'.hasTime = true/\r'.time<=t.work.time)\/r'.clock<=t.work.time) (hs : t.busy = true->4<=t.work.next->∀ x,Safe M r i t.work.time x->Safe M r' i t.work.time x) : Th g M c r' ts i t:=by
 obtain ⟨kd,nx,rd,sl,tm,hd,l4,l5,l6,ky,hi,lk,l3,m7,xs,xa,cs,n9,c7,e7,tt,f8,f10,q8,q9,p11,s9⟩:=h;refine ⟨kd,nx,rd,sl,fun b h3=>⟨(tm b h3).1,htm b h3⟩,hd,l4,l5,l6,ky,hi,lk,l3,m7,?_,?_,?_,n9,c7,e7,tt,f8,f10,q8,q9,p11,s9⟩
 ·intro b hk h4 h12; have:=xs b hk h4 h12; exact ⟨this.1,hs b h4 _ this.2⟩
 ·intro b hk h4 h12 h0; have:=xa b hk h4 h12 h0; exact ⟨this.1,hs b h4 _ this.2.1,this.2.2⟩
 ·intro b h5 h12; have:=cs b h5 h12; exact ⟨this.1,hs b (by omega) _ this.2.1,this.2.2⟩
theorem InvN.resweep (h : InvN g M c r ts) (hs : ∀ x d,(Re M d->Re M x)->(InSw r d->InSw r x)->(InSw r' d->InSw r' x)) : InvN g M c r' ts:=by
 obtain ⟨gt,ag,n0,tn,us,ou,od,ot,re,ro,lk,ph,pr,pp,rg,bd⟩:=h;refine ⟨gt,ag,n0,tn,us,ou,od,ot,re,ro,lk,?_,pr,pp,rg,bd⟩;intro x s hx h0;obtain ⟨p1,p2,p3,p4⟩:=ph x s hx h0;exact ⟨p1,p2,p3,hs x _ (fun q=>(p3 q).1) p4⟩
theorem Inv.sweep0 (h : Inv g P) : Inv g { P with sweep:={ P.sweep with made:=1,clock:=P.clock,retired:=retiredFrom P.mem.ns 0 } }:=by
 have hin:=inSw_new P.mem { P.sweep with made:=1,clock:=P.clock,retired:=retiredFrom P.mem.ns 0 } rfl;generalize hr : ({ P.sweep with made:=1,clock:=P.clock,retired:=retiredFrom P.mem.ns 0 } : PSweep) = r1 at *;have hm1 : r1.made = 1:=by rw [<- hr]
 have hc1 : r1.clock = P.clock:=by rw [<- hr]
 refine ⟨h.kind,h.wm,h.n.resweep ?_,h.e,?_,?_⟩
 ·intro x d h1 _ h3; exact (hin x).2 (h1 ((hin d).1 h3))
 ·obtain ⟨ho,pw,pq,sw,sc,sm,sz⟩:=h.o;refine ⟨ho,pw,pq,?_,?_,?_,?_⟩
  ·intro x hx
   have:=(hin x).1 hx
   rw [hc1]; exact ⟨this,(h.n.re x this).2⟩
  ·show r1.clock<=P.clock/\0<=P.clock; omega
  ·show r1.made<=P.ts.length + 2; omega
  ·intro e; have : r1.made = 0:=e; omega
 ·intro i t ht;show Th g P.mem P.clock r1 P.ts i t;exact (h.th i t ht).resweep (fun _ _ q=>by omega) (fun _ _ x hx=>⟨hx.1,hx.2.1,fun q=>by omega⟩)
theorem Inv.sweepLook (h : Inv g P) (_hm : P.sweep.made≠0) (hl : P.sweep.made - 1 < P.ts.length) (hs : (P.th (P.sweep.made - 1)).slot≠1) : Inv g { P with sweep:={ P.sweep.lookAt (P.th (P.sweep.made - 1)) with made:=P.sweep.made + 1 } }:=by
 generalize hr : ({ P.sweep.lookAt (P.th (P.sweep.made - 1)) with made:=P.sweep.made + 1 } : PSweep) = r1 at *;have hm1 : r1.made = P.sweep.made + 1:=by rw [<- hr]
 have hc1 : r1.clock = P.sweep.clock:=by rw [<- hr]; unfold PSweep.lookAt; split <;> rfl
 have hre : r1.retired = P.sweep.retired:=by rw [<- hr]; unfold PSweep.lookAt; split <;> rfl
 have hin : ∀ x,InSw r1 x ↔ InSw P.sweep x:=fun x=>by unfold InSw; rw [hre]
 have hkeep : P.sweep.hasTime = true->r1.hasTime = true/\r1.time<=P.sweep.time:=by
  intro ht;rw [<- hr];unfold PSweep.lookAt;split
  ·refine ⟨rfl,?_⟩;show (if (!P.sweep.hasTime || decide ((P.th (P.sweep.made - 1)).work.time < P.sweep.time)) = true then (P.th (P.sweep.made - 1)).work.time else P.sweep.time)<=_;split
   ·next q=>simp [ht] at q; omega
   ·omega
  ·exact ⟨ht,by show P.sweep.time<=P.sweep.time; omega⟩
 have hnew : (P.th (P.sweep.made - 1)).slot = 2->r1.hasTime = true/\r1.time<=(P.th (P.sweep.made - 1)).work.time:=by
  intro ht;rw [<- hr];unfold PSweep.lookAt;rw [if_pos ht];refine ⟨rfl,?_⟩;show (if (!P.sweep.hasTime || decide ((P.th (P.sweep.made - 1)).work.time < P.sweep.time)) = true then (P.th (P.sweep.made - 1)).work.time else P.sweep.time)<=_;split
  ·omega
  ·next q=>simp at q; omega
 refine ⟨h.kind,h.wm,h.n.resweep ?_,h.e,?_,?_⟩
 ·intro x d _ h2 h3; exact (hin x).2 (h2 ((hin d).1 h3))
 ·obtain ⟨ho,pw,pq,sw,sc,sm,sz⟩:=h.o;refine ⟨ho,pw,pq,?_,?_,?_,?_⟩
  ·intro x hx;rw [hc1]; exact sw x ((hin x).1 hx)
  ·show r1.clock<=P.clock/\0<=P.clock; omega
  ·show r1.made<=P.ts.length + 2; omega
  ·intro e; have : r1.made = 0:=e; omega
 ·intro i t ht;have ht : P.ts[i]? = some t:=ht;show Th g P.mem P.clock r1 P.ts i t;have hT:=h.th i t ht;have htime : t.busy = true->3<=t.work.next->i + 1 < r1.made->¬ i + 1 < P.sweep.made->r1.hasTime = true/\r1.time<=t.work.time:=by
   intro b h3 q1 q2;have e : P.sweep.made - 1 = i:=by omega
   have e2 : P.th (P.sweep.made - 1) = t:=by unfold PSt.th; rw [e,ht]; rfl
   have hsl:=hT.sl;rw [e2] at hnew hs;refine hnew ?_;rw [hsl] at hs ⊢;have n1 : t.work.next≠1:=by omega
   simp only [b,true_and,n1,ne_eq,not_false_eq_true,if_true] at hs ⊢;split at hs
   ·exact absurd rfl hs
   ·next q=>rw [if_neg q]
  refine hT.resweep ?_ ?_
  ·intro b h3 q;by_cases q2 : i + 1 < P.sweep.made
   ·rcases (hT.tm b h3).2 q2 with e | e
    ·have:=hkeep e.1; exact .inl ⟨this.1,by omega⟩
    ·exact .inr (by omega)
   ·exact .inl (htime b h3 q q2)
  ·intro b h4 x hx;refine ⟨hx.1,hx.2.1,fun q=>?_⟩;by_cases q2 : i + 1 < P.sweep.made
   ·rcases hx.2.2 q2 with e | e
    ·have:=hkeep e.1; exact .inl ⟨this.1,by omega⟩
    ·exact .inr ⟨by omega,fun hh=>e.2 ((hin x).1 hh)⟩
   ·exact .inl (htime b (by omega) q q2)
theorem Inv.sweepDrop (h : Inv g P) (hm : P.sweep.made = P.ts.length + 1) (e : Int) : Inv g { P with mem:=P.mem.drop e,sweep:={ P.sweep with made:=P.sweep.made + 1 } }:=by
 obtain ⟨g1,g2,g3,g4⟩:=drop_ok h.wm e;have hnd:=node_ns g1;generalize P.mem.drop e = M1 at *;have hn : InvN g M1 P.clock P.sweep P.ts:=h.n.same hnd (fun _=>Iff.rfl) (fun _=>Iff.rfl) (fun _=>Iff.rfl) (fun _=>Iff.rfl) (fun _ _=>Iff.rfl) (fun _ _=>Iff.rfl);refine ⟨h.kind,g2,hn.resweep (fun x d _ h2 h3=>h2 h3),?_,?_,?_⟩
 ·refine ⟨?_,?_⟩
  ·intro x s st d hd;simp only [Us,Ln,hnd];exact h.e.ms x s st d ((g4 x s st d).1 hd).1
  ·intro x s d hd;rw [g3] at hd; exact h.e.pd x s d hd
 ·obtain ⟨ho,pw,pq,sw,sc,sm,sz⟩:=h.o;refine ⟨?_,pw,pq,?_,sc,?_,?_⟩
  ·intro x hx; simp only [Us,Ho,hnd] at hx ⊢; exact ho x hx
  ·intro x hx; simp only [Re,Ra,hnd]; exact sw x hx
  ·show P.sweep.made + 1<=P.ts.length + 2; omega
  ·intro q; have : P.sweep.made + 1 = 0:=q; omega
 ·intro i t ht;have ht : P.ts[i]? = some t:=ht;have hil:=(List.getElem?_eq_some_iff.1 ht).1;show Th g M1 P.clock { P.sweep with made:=P.sweep.made + 1 } P.ts i t;have hT:=h.th i t ht;have hT1 : Th g M1 P.clock P.sweep P.ts i t:=by
   refine hT.rely h.n.one.1 ⟨Int.le_refl _,fun x hx=>hx,?_,fun x hx=>hx,?_,?_,fun x y _=>hnd y,?_,h.n.gt.z⟩
   ·intro x hx;simp only [Us,Ky,Ln,Re,Ra,hnd];exact ⟨h.usedGd hx,trivial,trivial,trivial,fun _ h=>h,fun hr=>.inl ⟨hr,trivial⟩⟩
   ·intro x _;exact ⟨hnd x,fun s=>g3 x s,fun s st d hd=>((g4 x s st d).1 hd).1,fun _ _ h=>h,rfl⟩
   ·rintro x ⟨b,hk,hn,hm⟩;obtain ⟨a,n,q⟩:=hT.f8 b hk hn;rw [q.md] at hm
    have:=q.h
    simp at hm; grind
   ·intro x hx;simp only [Us,Ho,hnd] at hx ⊢;exact ⟨fun h=>⟨hx,h⟩,fun h=>h.2⟩
  refine hT1.resweep ?_ ?_
  ·intro b h3 _; exact (hT1.tm b h3).2 (by omega)
  ·intro b h4 x hx;exact ⟨hx.1,hx.2.1,fun _=>hx.2.2 (by omega)⟩
def stayG (g : Gh) (gone : Int->Prop) : Gh:={ g with O:=fun x=>g.O x/\¬ gone x }
theorem Th.reO {gone : Int->Prop} (h : Th g M c r ts i t) (hs : t.busy = true->4<=t.work.next->∀ x,Safe M r i t.work.time x->¬ gone x) (hr : ∀ x,gone x->Re M x) : Th (stayG g gone) M c r ts i t:=by
 have ga : ∀ x,¬ gone x->Gd g c ts x->Gd (stayG g gone) c ts x:=by
  rintro x hx ⟨e | e,q⟩
  ·exact ⟨.inl ⟨e,hx⟩,q⟩
  ·exact ⟨.inr e,q⟩
 have wk : ∀ x,¬ gone x->Wk g M c ts t.work.key x->Wk (stayG g gone) M c ts t.work.key x:=by
  rintro x hx (e | e)
  ·exact .inl e
  ·exact .inr ⟨e.1,e.2.1,ga x hx e.2.2⟩
 obtain ⟨kd,nx,rd,sl,tm,hd,l4,l5,l6,ky,hi,lk,l3,m7,xs,xa,cs,n9,c7,e7,tt,f8,f10,q8,q9,p11,s9⟩:=h;refine ⟨kd,nx,rd,sl,tm,hd,l4,l5,l6,ky,hi,lk,l3,m7,?_,?_,?_,n9,c7,e7,tt,?_,?_,q8,?_,p11,s9⟩
 ·intro b hk h4 h12; have:=xs b hk h4 h12; exact ⟨wk _ (hs b h4 _ this.2) this.1,this.2⟩
 ·intro b hk h4 h12 h0; have:=xa b hk h4 h12 h0; exact ⟨wk _ (hs b h4 _ this.2.1) this.1,this.2⟩
 ·intro b h5 h12; have:=cs b h5 h12; exact ⟨ga _ (hs b (by omega) _ this.2.1) this.1,this.2⟩
 ·intro b hk hn;obtain ⟨a,n,q⟩:=f8 b hk hn;obtain ⟨x1,x2,x3,x4,x5,x6,x7,x8,x9,x10,x11,x12,x13⟩:=q;exact ⟨a,n,x1,x2,x3,x4,⟨x5.1,x5.2.1,fun q=>x5.2.2.1 q.1,fun q=>x5.2.2.2 q.1⟩,x6,x7,x8,x9,x10,x11,x12,x13⟩
 ·intro b hk hn;obtain ⟨a,n,q⟩:=f10 b hk hn;obtain ⟨x1,x2,x3,x4,x5,x6,x7,x8,x9,x10⟩:=q;exact ⟨a,n,x1,x2,x3,x4,x5,x6,x7,x8,x9,x10⟩
 ·intro b hk hn;obtain ⟨⟨x1,x2,x3,x4,x5,x6⟩,qd⟩:=q9 b hk hn;refine ⟨⟨⟨⟨x1.1,fun q=>?_⟩,⟨x1.2,fun q=>?_⟩⟩,x2,x3,x4,x5,x6⟩,qd⟩
  ·have:=hr _ q; simp only [Re] at this; rw [x2.1] at this; cases this
  ·have:=hr _ q; simp only [Re] at this; rw [x2.2] at this; cases this
theorem Inv.sweepFree (h : Inv g P) (hm : P.sweep.made = P.ts.length + 2) : Inv (stayG g (Gone P.mem P.sweep.hasTime P.sweep.time P.sweep.retired)) { P with mem:=P.mem.freesIf P.sweep.hasTime P.sweep.time P.sweep.retired,sweep:=PSweep.zero }:=by
 have hre : ∀ x,InSw P.sweep x->Re P.mem x/\g.O x:=by
  intro x hx;have h1:=(h.o.sw x hx).1;exact ⟨h1,h.n.od x (h.n.re x h1).1⟩
 obtain ⟨g1,g2,g3⟩:=freesIf_ok P.sweep.hasTime P.sweep.time P.sweep.retired P.mem h.wm (by
  intro n hn
  have:=h.n.ou _ (hre (n : Int) ⟨n,hn,rfl⟩).2
  exact ⟨hasN_used this.1,this.2.2.1,fun e=>this.2.1 (e ▸ Tr.lea_has h.n.gt.one)⟩)
 have hgr : ∀ x,Gone P.mem P.sweep.hasTime P.sweep.time P.sweep.retired x->Re P.mem x/\g.O x:=fun x hx=>hre x hx.1
 obtain ⟨gone,hgone⟩ : ∃ gone,gone = Gone P.mem P.sweep.hasTime P.sweep.time P.sweep.retired:=⟨_,rfl⟩;have hsafe : ∀ (i : Nat) t x,P.ts[i]? = some t->Safe P.mem P.sweep i t.work.time x->¬ gone x:=by
  intro i t x ht hx hg;have hil:=(List.getElem?_eq_some_iff.1 ht).1;rw [hgone] at hg;have h1:=hgr x hg;rcases hx.2.2 (by omega) with e | e
  ·have h2:=hg.2 e.1;have h3:=hx.2.1 h1.1;omega
  ·exact e.2 hg.1
 have hnext : ∀ x s,x = 0\/(Ln P.mem x = 2/\Gd g P.clock P.ts x)->(x = 0->s = false)->¬ gone x->¬ gone (Ld P.mem x s):=by
  intro x s hx hs hng hg;rw [hgone] at hg hng;obtain ⟨p1,p2,p3,p4⟩:=h.n.ph x s hx hs;have h1:=hgr _ hg;have h2:=p3 h1.1;exact hng ⟨p4 hg.1,fun q=>by have:=hg.2 q; omega⟩
 rw [<- hgone] at g3 hgr ⊢;generalize P.mem.freesIf P.sweep.hasTime P.sweep.time P.sweep.retired = M1 at *;have nd : ∀ x,¬ gone x->M1.node x = P.mem.node x:=fun x hx=>((g3 x).2 hx).1
 have ng : ∀ x,gone x->M1.node x = PNode.zero:=fun x hx=>((g3 x).1 hx).1
 have usG : ∀ x,Us M1 x->¬ gone x:=by
  intro x hx hg; simp only [Us] at hx; rw [ng x hg] at hx; cases hx
 have hasG : ∀ x,(g.V P.clock).Has x->¬ gone x:=fun x hx hg=>(h.n.ou x (hgr x hg).2).2.1 hx
 have zG : ¬ gone 0:=fun hg=>(h.n.ou 0 (hgr 0 hg).2).2.2.1 rfl
 have gdG : ∀ x,x = 0\/Gd (stayG g gone) P.clock P.ts x->(x = 0\/Gd g P.clock P.ts x)/\¬ gone x:=by
  rintro x (rfl | ⟨e | e,q⟩)
  ·exact ⟨.inl rfl,zG⟩
  ·exact ⟨.inr ⟨.inl e.1,q⟩,e.2⟩
  ·exact ⟨.inr ⟨.inr e,q⟩,hasG x e⟩
 have gdS : ∀ x,Gd g P.clock P.ts x->¬ gone x->Gd (stayG g gone) P.clock P.ts x:=by
  rintro x ⟨e | e,q⟩ hx
  ·exact ⟨.inl ⟨e,hx⟩,q⟩
  ·exact ⟨.inr e,q⟩
 have inz : ∀ x,¬ InSw PSweep.zero x:=by rintro x ⟨n,hn,_⟩; cases hn
 refine ⟨h.kind,g1,?_,?_,?_,?_⟩
 ·obtain ⟨gt,⟨ag1,ag2⟩,n0,tn,us,ou,od,ot,re,ro,lk,ph,pr,pp,rg,bd⟩:=h.n;refine ⟨gt,⟨?_,?_⟩,?_,?_,?_,?_,?_,?_,?_,?_,?_,?_,?_,?_,rg,bd⟩
  ·intro x q hq; simp only [Us,Ln,Ky]; rw [nd x (hasG x (Tr.nod_has hq))]; exact ag1 x q hq
  ·intro x q w hq; simp only [Us,Ln,Ky]; rw [nd x (hasG x (Tr.lea_has hq))]; exact ag2 x q w hq
  ·simp only [Us,Ln]; rw [nd 0 zG]; exact n0
  ·intro x hx; rw [nd x (hasG x hx)]; exact tn x hx
  ·intro x hx;have hg:=usG x hx;simp only [Us] at hx; rw [nd x hg] at hx;rcases us x hx with e | e | e | e
   ·exact .inl e
   ·exact .inr (.inl e)
   ·exact .inr (.inr (.inl ⟨e,hg⟩))
   ·exact .inr (.inr (.inr e))
  ·intro x hx;simp only [Us,Ln]; rw [nd x hx.2]; exact ou x hx.1
  ·intro x hx;have hg : ¬ gone x:=fun hg=>by simp only [De] at hx; rw [ng x hg] at hx; cases hx
   simp only [De] at hx; rw [nd x hg] at hx;exact ⟨od x hx,hg⟩
  ·intro x hx; simp only [De]; rw [nd x hx.2]; exact ot x hx.1
  ·intro x hx;have hg : ¬ gone x:=fun hg=>by simp only [Re] at hx; rw [ng x hg] at hx; cases hx
   simp only [Re,De,Ra] at hx ⊢; rw [nd x hg] at hx ⊢; exact re x hx
  ·intro x hx;have hg : ¬ gone x:=fun hg=>by simp only [De] at hx; rw [ng x hg] at hx; cases hx
   simp only [Re,De] at hx ⊢; rw [nd x hg] at hx ⊢; exact ro x hx
  ·intro x s d hd;have hg : ¬ gone x:=by
    rcases (Tr.ed_has hd).2 with rfl | e
    ·exact zG
    ·exact hasG x (Tr.inn_has e)
   simp only [Ld]; rw [nd x hg]; exact lk x s d hd
  ·intro x s hx hs;obtain ⟨h1,h2⟩:=gdG x (by rcases hx with e | e; exact .inl e; exact .inr e.2);simp only [Ln,Ld] at hx ⊢;rw [nd x h2] at hx ⊢;have hx' : x = 0\/(Ln P.mem x = 2/\Gd g P.clock P.ts x):=by
    rcases hx with e | e
    ·exact .inl e
    ·rcases h1 with q | q
     ·exact .inl q
     ·exact .inr ⟨e.1,q⟩
   have h3:=hnext x s hx' hs h2;obtain ⟨p1,p2,p3,p4⟩:=ph x s hx' hs;simp only [Re,Ra];simp only [Ld] at h3;rw [nd _ h3,nd x h2];exact ⟨gdS _ p1 h3,p2,p3,fun q=>absurd q (inz _)⟩
  ·intro x s k hx hR hsd;obtain ⟨h1,h2⟩:=gdG x (by rcases hx with e | e; exact .inl e; exact .inr e.2);have esd : sd M1 x k = sd P.mem x k:=sd_congr (by simp only [Ky]; rw [nd x h2]) (by simp only [Ln]; rw [nd x h2]);rw [esd] at hsd;simp only [Ln,Ld] at hx ⊢;rw [nd x h2] at hx ⊢;have hx' : x = 0\/(Ln P.mem x = 2/\Gd g P.clock P.ts x):=by
    rcases hx with e | e
    ·exact .inl e
    ·rcases h1 with q | q
     ·exact .inl q
     ·exact .inr ⟨e.1,q⟩
   have hs0 : x = 0->s = false:=fun e0=>by rw [<- hsd,e0]; exact sd0 n0.2.1 k
   have h3:=hnext x s hx' hs0 h2;simp only [Ld] at h3;rw [nd _ h3];exact pr x s k hx' hR hsd
  ·intro x s hO;simp only [Ln,Ld,Re];rw [nd x hO.2];intro hl hd;exact pp x s hO.1 hl hd.1
 ·refine ⟨?_,?_⟩
  ·intro x s st d hd;have hg : ¬ gone x:=fun hg=>((g3 x).1 hg).2.2 s st d hd
   simp only [Us,Ln]; rw [nd x hg];exact h.e.ms x s st d ((((g3 x).2 hg).2.2 s st d).1 hd)
  ·intro x s d hd;have hg : ¬ gone x:=fun hg=>by rw [((g3 x).1 hg).2.1 s] at hd; cases hd
   rw [((g3 x).2 hg).2.1 s] at hd;exact h.e.pd x s d hd
 ·obtain ⟨ho,pw,pq,sw,sc,sm,sz⟩:=h.o;refine ⟨?_,pw,pq,fun x hx=>absurd hx (inz x),?_,?_,fun _=>⟨rfl,rfl⟩⟩
  ·intro x hx;have hg:=usG x hx;simp only [Us,Ho] at hx ⊢; rw [nd x hg] at hx ⊢; exact ho x hx
  ·show (0 : Int)<=P.clock/\0<=P.clock; omega
  ·show 0<=P.ts.length + 2; omega
 ·intro i t ht;have ht : P.ts[i]? = some t:=ht;show Th (stayG g gone) M1 P.clock PSweep.zero P.ts i t;have hT:=(h.th i t ht).reO (gone:=gone) (fun _ _ x hx=>hsafe i t x ht hx) (fun x hx=>(hgr x hx).1);have hT1 : Th (stayG g gone) M1 P.clock P.sweep P.ts i t:=by
   refine hT.rely h.n.one.1 ⟨Int.le_refl _,fun x hx=>hx,?_,fun x hx=>hx,?_,?_,?_,?_,h.n.gt.z⟩
   ·intro x hx;obtain ⟨h1,h2⟩:=gdG x hx;have hu:=h.usedGd h1;simp only [Us,Ky,Ln,Re,Ra]; rw [nd x h2];exact ⟨hu,by first | rfl | trivial,by first | rfl | trivial,by first | rfl | trivial,fun _ h=>h,fun hr=>.inl ⟨hr,by first | rfl | trivial⟩⟩
   ·intro x hx;have hg : ¬ gone x:=by
     rcases hx with e | e
     ·obtain ⟨b,h5,h12,hk,h6,_⟩:=hT.held h.n.one.1 e.1 e.2;rcases h6 with rfl | ⟨hmt,rfl⟩
      ·exact hsafe i t _ ht (hT.xs b hk (by omega) h12).2
      ·exact hsafe i t _ ht (hT.xa b hk (by omega) h12 (hT.ns h.n.one.1 b h5 h12 hmt)).2.1
     ·intro hg;have hO:=(hgr x hg).2;obtain ⟨b,hk,hn,hm⟩:=e;rcases hn with hn | hn
      ·obtain ⟨a,n,q⟩:=(h.th i t ht).f8 b hk hn;rw [q.md] at hm
       have:=q.h
       simp at hm; grind
      ·obtain ⟨a,n,q⟩:=(h.th i t ht).f10 b hk hn;rw [q.md] at hm;have h1:=(h.n.ou x hO).2.1;have h2:=q.ua;have h3:=Tr.inn_has h2.2.2.2;simp at hm;rcases hm with rfl | rfl
       ·exact h1 h2.2.2.1
       ·exact h1 h3
    have:=(g3 x).2 hg
    exact ⟨this.1,this.2.1,fun s st d hd=>(this.2.2 s st d).1 hd,fun _ _ h=>h,rfl⟩
   ·rintro x ⟨b,hk,hn,hm⟩;obtain ⟨a,n,q⟩:=hT.f8 b hk hn;rw [q.md] at hm
    have:=q.h
    simp at hm; grind
   ·rintro x y ⟨b,hk,hn,e1,e2⟩
    have:=(hT.q9 b hk hn).1.o.2
    rw [e2] at this;exact nd y this.2
   ·intro x hx;have hg:=usG x hx;simp only [Us,Ho] at hx ⊢; rw [nd x hg] at hx ⊢;exact ⟨fun h=>⟨hx,h⟩,fun h=>h.2⟩
  refine hT1.resweep ?_ ?_
  ·intro b h3 q; have : i + 1 < 0:=q; omega
  ·intro b h4 x hx;exact ⟨hx.1,hx.2.1,fun q=>by have : i + 1 < 0:=q; omega⟩
def sweepG (g : Gh) (P : PSt) : Gh:=if P.sweep.made = P.ts.length + 2 then stayG g (Gone P.mem P.sweep.hasTime P.sweep.time P.sweep.retired) else g
theorem Inv.sweep (h : Inv g P) : Inv (sweepG g P) P.doSweep.1:=by
 have hsm:=h.o.sm;unfold PSt.doSweep sweepG;simp only;by_cases h0 : P.sweep.made = 0
 ·rw [if_pos h0,if_neg (by omega)]; exact h.sweep0
 ·rw [if_neg h0];by_cases h1 : P.sweep.made - 1 < P.ts.length
  ·rw [if_pos h1,if_neg (by omega)];by_cases h2 : (P.th (P.sweep.made - 1)).slot = 1
   ·rw [if_pos h2]; exact h
   ·rw [if_neg h2]; exact h.sweepLook h0 h1 h2
  ·rw [if_neg h1];by_cases h2 : P.sweep.made - 1 = P.ts.length
   ·rw [if_pos h2,if_neg (by omega)];exact h.sweepDrop (by omega) _
   ·rw [if_neg h2,if_pos (by omega)];exact h.sweepFree (by omega)
end
end T
end
end Go.Proofs.YtfccelbmacjifabGreat
