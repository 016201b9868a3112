import Derived.Test.YtfccelbmacjifabGreatP0
import Derived.Test.YtfccelbmacjifabGreatP5
set_option linter.unusedSimpArgs false
set_option maxRecDepth 100000
set_option maxHeartbeats 4000000
namespace Go.Proofs.YtfccelbmacjifabGreat
section
namespace T
section
variable {g g' : Gh} {M M' : PMem} {c c' : Int} {r : PSweep} {i j : Nat} {t t' u : PThread} {ts ts' : List PThread} {P : PSt} {x d : Int} {s : Bool} {key : Int} {k : PWork}
theorem sd_nod (h : Ag M (g.V c)) {q : Int} (hx : (g.V c).Nod x q) (k : Int) : sd M x k = decide (q<=k):=by
 have:=h.n x q hx
 unfold sd PMem.sideFor;simp only [Ln,Ky] at this;rw [this.2.1,this.2.2]; simp
theorem InvN.on (h : InvN g M c r ts) (hA : A (g.V c) x s d) (hx : x = 0\/(g.V c).Pth key x) (hs : sd M x key = s) (hd : (g.V c).Inn d) : (g.V c).Pth key d:=by
 have hg : ∀ y,((g.V c).goal key).1 = y->¬ (g.V c).Inn y:=by
  rintro y rfl hi;exact Tr.inn_lea h.gt.dj hi _ _ (Tr.goal_lea _)
 rcases hx with rfl | hx
 ·have:=(Tr.ed_root h.gt.dj h.gt.z hA).2
  subst this;rcases Tr.pth_root (k:=key) (g.V c) with e | e
  ·exact e
  ·exact absurd hd (hg _ e.1)
 ·obtain ⟨q,hq⟩:=Tr.pth_nod hx;rw [<- hs,sd_nod h.ag hq] at hA;rcases Tr.pth_step h.gt.dj h.gt.z hx hq hA with e | e
  ·exact e
  ·exact absurd hd (hg _ e)
theorem InvN.inn (h : InvN g M c r ts) (hx : (g.V c).Has x) : (Ln M x = 2 ↔ (g.V c).Inn x)/\Us M x/\(Ln M x = 0\/Ln M x = 2):=by
 rcases Tr.has_or hx with ⟨q,hq⟩ | ⟨q,w,hq⟩
 ·have:=h.ag.n x q hq; have:=Tr.nod_inn hq; grind
 ·have:=h.ag.l x q w hq
  have e : ¬ (g.V c).Inn x:=fun hi=>Tr.inn_lea h.gt.dj hi _ _ hq
  grind
theorem InvN.hasRe (h : InvN g M c r ts) (ho : InvO M c r ts) (hx : (g.V c).Has x) : ¬ Re M x/\¬ InSw r x:=by
 have:=h.tn x hx
 have e : ¬ Re M x:=by simp only [Re]; grind
 exact ⟨e,fun hh=>e (ho.sw x hh).1⟩
theorem Inv.link (h : Inv g P) (ht : P.ts[i]? = some t) (hb : t.busy = true) (hn : t.work.next = 10) : Inv g { P with mem:=P.mem.lead t.work.tsrc t.work.tside,ts:=P.ts.set i { t with work:={ t.work with next:=11 } } }:=by
 have hT:=h.th i t ht;have m:=h.mine ht hb (by omega) (by omega);obtain ⟨m1,m2,m3,m4,m5,m6⟩:=m.ts (by omega) (by omega);have hs9:=hT.s9 hb (by omega) (by omega);have htt:=hT.tt hb (by omega) (by omega);have hH:=h.heldGd ht m1 m2;have hlk:=h.hasLink (s:=t.work.tside) hH (by intro e; rw [m4,e]; exact sd0 h.n.n0.2.1 _)
 -- where it leads
 obtain ⟨d0,hp,ha,hB,hd⟩ : ∃ d0,Pd P.mem t.work.tsrc t.work.tside = [d0]/\A (g.V P.clock) t.work.tsrc t.work.tside d0/\(Ln P.mem d0 = 2->g.B t.work.tsrc < g.B d0)/\(¬ Ex P.ts (Fr d0)\/Fr d0 t):=by
  rcases m.kd with k1 | k2
  ·obtain ⟨a,n,q⟩:=hT.f10 hb k1 hn;have e1:=m5 k1;refine ⟨n,?_,?_,?_,.inr ⟨hb,k1,.inr hn,by rw [q.md]; simp⟩⟩
   ·rw [m4,e1]; exact q.ps
   ·rw [m4,e1]; exact q.as
   ·intro _; rw [e1]; exact q.bn
  ·obtain ⟨q1,q2,q3⟩:=hT.q8 hb k2 (by omega) (by omega);have q:=(hT.q9 hb k2 (.inr (.inl hn))).1;have e1:=m6 k2;have hA:=m.ab (m.mt k2 (.inl (by omega)));have hSt:=h.heldGd ht m.us m.hs;have p1:=h.n.ph t.work.stand (!sd P.mem t.work.stand t.work.key) hSt (fun e=>absurd e hA.2.2.1);have hAb:=h.heldGd ht hA.1 hA.2.1;have p2:=h.n.ph t.work.above (sd P.mem t.work.above t.work.key) hAb (by intro e; rw [e]; exact sd0 h.n.n0.2.1 _);rw [q2] at p2;refine ⟨Ld P.mem t.work.stand (!sd P.mem t.work.stand t.work.key),?_,?_,?_,.inl p1.1.2⟩
   ·rw [m4,e1]; exact q1
   ·rw [m4,e1]; exact q.a
   ·intro hl; rw [e1]; have e2:=p2.2.1 hA.2.2.2.2; have e3:=p1.2.1 hl; omega
 rw [lead_e hp hlk];have hnd:=node_modN (hasN_used m1) (fun x=>{ x with leads:=upd x.leads t.work.tside d0 });have w1 : Wm (P.mem.modN t.work.tsrc fun x=>{ x with leads:=upd x.leads t.work.tside d0 }):=h.wm.modN m1 _ m1;have w2:=modN_ents P.mem t.work.tsrc (fun x=>{ x with leads:=upd x.leads t.work.tside d0 });generalize (P.mem.modN t.work.tsrc fun x=>{ x with leads:=upd x.leads t.work.tside d0 }) = M1 at *;have u1 : ∀ x,(M1.node x).used = (P.mem.node x).used:=fun x=>by rw [hnd]; split; (next e=>rw [e]); rfl
 have u2 : ∀ x,(M1.node x).retired = (P.mem.node x).retired:=fun x=>by rw [hnd]; split; (next e=>rw [e]); rfl
 have u3 : ∀ x,(M1.node x).retiredAt = (P.mem.node x).retiredAt:=fun x=>by rw [hnd]; split; (next e=>rw [e]); rfl
 have u4 : ∀ x,(M1.node x).key = (P.mem.node x).key:=fun x=>by rw [hnd]; split; (next e=>rw [e]); rfl
 have u6 : ∀ x,(M1.node x).links = (P.mem.node x).links:=fun x=>by rw [hnd]; split; (next e=>rw [e]); rfl
 have u7 : ∀ x,(M1.node x).value = (P.mem.node x).value:=fun x=>by rw [hnd]; split; (next e=>rw [e]); rfl
 have u8 : ∀ x,(M1.node x).holder = (P.mem.node x).holder:=fun x=>by rw [hnd]; split; (next e=>rw [e]); rfl
 have u9 : ∀ x,(M1.node x).dead = (P.mem.node x).dead:=fun x=>by rw [hnd]; split; (next e=>rw [e]); rfl
 have u5 : ∀ x s,Ld M1 x s = if x = t.work.tsrc/\s = t.work.tside then d0 else Ld P.mem x s:=by
  intro x s;simp only [Ld];rw [hnd];by_cases e : x = t.work.tsrc
  ·subst e;rw [if_pos rfl];show upd _ _ _ s = _;unfold upd;by_cases e2 : s = t.work.tside <;> simp [e2]
  ·rw [if_neg e,if_neg (fun q=>e q.1)]
 have usd : ∀ x k,sd M1 x k = sd P.mem x k:=fun x k=>sd_congr (u4 x) (u6 x)
 have hpd:=fun x s=>pd_es (M:=P.mem) (M':=M1) w2 x s
 have hsd:=fun x s st d=>sd_es (M:=P.mem) (M':=M1) w2 x s st d
 have fr8 : ∀ x,Ex (P.ts.set i { t with work:={ t.work with next:=11 } }) (Fr8 x) ↔ Ex P.ts (Fr8 x):=fun x=>ex_iff ht (iff_of_false (by rintro ⟨_,_,e,_⟩; have : (11 : Nat) = 8:=e; omega) (by rintro ⟨_,_,e,_⟩; omega))
 have nf' : ∀ x,¬ Fr x { t with work:={ t.work with next:=11 } }:=by rintro x ⟨_,_,e,_⟩; have : (11 : Nat) = 8\/(11 : Nat) = 10:=e; omega
 have fr : ∀ x,Ex (P.ts.set i { t with work:={ t.work with next:=11 } }) (Fr x)->Ex P.ts (Fr x)/\¬ Fr x t:=by
  intro x hx;rcases (Ex.get ht).1 hx with e | ⟨j,u,e1,e2,e3⟩
  ·exact absurd e (nf' x)
  ·exact ⟨⟨j,u,e2,e3⟩,fun hf=>e1 (h.o.pw j i u t x e2 ht e3 hf)⟩
 have tk : ∀ x,Ex (P.ts.set i { t with work:={ t.work with next:=11 } }) (Tk x) ↔ Ex P.ts (Tk x):=fun x=>ex_iff ht (iff_of_false (by rintro ⟨_,_,e,_⟩; have : (11 : Nat) = 9:=e; omega) (by rintro ⟨_,_,e,_⟩; omega))
 have own : ∀ x,Ex (P.ts.set i { t with work:={ t.work with next:=11 } }) (Own x) ↔ Ex P.ts (Own x):=fun x=>ex_iff ht ⟨fun ⟨a1,a2,a3,a4⟩=>⟨a1,a2,.inl hn,a4⟩,fun ⟨a1,a2,a3,a4⟩=>⟨a1,a2,.inr (.inl rfl),a4⟩⟩
 have pair : ∀ x y,Ex (P.ts.set i { t with work:={ t.work with next:=11 } }) (Pair x y) ↔ Ex P.ts (Pair x y):=fun x y=>ex_iff ht ⟨fun ⟨a1,a2,a3,a4⟩=>⟨a1,a2,.inr (.inl hn),a4⟩,fun ⟨a1,a2,a3,a4⟩=>⟨a1,a2,.inr (.inr (.inl rfl)),a4⟩⟩
 have pn : ∀ x s,Ex (P.ts.set i { t with work:={ t.work with next:=11 } }) (fun t=>Pn x s t\/Fr8 x t) ↔ Ex P.ts (fun t=>Pn x s t\/Fr8 x t):=by
  intro x s;refine ex_iff ht ⟨?_,?_⟩
  ·rintro (⟨a1,a2,a3,a4,a5⟩ | ⟨_,_,e,_⟩)
   ·exact .inl ⟨a1,a2,by omega,by omega,a5⟩
   ·have : (11 : Nat) = 8:=e; omega
  ·rintro (⟨a1,a2,a3,a4,a5⟩ | ⟨_,_,e,_⟩)
   ·exact .inl ⟨a1,a2,by show 8<=11; omega,by show 11<=11; omega,a5⟩
   ·omega
 have hga : ∀ x,Gd g P.clock P.ts x->Gd g P.clock (P.ts.set i { t with work:={ t.work with next:=11 } }) x:=fun x hx=>⟨hx.1,fun hh=>hx.2 (fr x hh).1⟩
 have hgf : ∀ x,Gd g P.clock (P.ts.set i { t with work:={ t.work with next:=11 } }) x->Gd g P.clock P.ts x\/Fr x t:=by
  intro x hx;by_cases e : Fr x t
  ·exact .inr e
  ·left;refine ⟨hx.1,fun hh=>?_⟩;rcases hh.or ht with q | ⟨j,u,q1,q2,q3⟩
   ·exact e q
   ·exact hx.2 (Ex.other q2 q3 q1)
 have hgd0 : Gd g P.clock (P.ts.set i { t with work:={ t.work with next:=11 } }) d0:=by
  refine ⟨.inr (Tr.ed_has ha).1,fun hh=>?_⟩;obtain ⟨q1,q2⟩:=fr d0 hh;rcases hd with e | e
  ·exact e q1
  ·exact q2 e
 have hx0 : t.work.tsrc = 0\/(g.V P.clock).Inn t.work.tsrc:=(Tr.ed_has ha).2;have hgr : Gro g g P.mem M1 P.clock P.clock P.ts (P.ts.set i { t with work:={ t.work with next:=11 } }) i:=by
  refine ⟨Int.le_refl _,hga,?_,?_⟩
  ·intro x hx;simp only [Us,Ky,Ln,Re,Ra,u1,u2,u3,u4,u6];exact ⟨h.usedGd hx,trivial,trivial,trivial,fun _ h=>h,fun hr=>.inl ⟨hr,trivial⟩⟩
  ·intro x hx;simp only [Us,Ho,u1,u8] at hx ⊢;exact ⟨fun h=>⟨hx,h⟩,fun h=>h.2⟩
 refine h.build (c':=P.clock) ht ?_ w1 ?_ ?_ ?_ ?_
 ·-- the others
  intro j u hne hj;have nd : ∀ x,x≠t.work.tsrc->M1.node x = P.mem.node x:=fun x e=>by rw [hnd,if_neg e]
  refine h.rel hj (fun x hx=>.inl (fr x hx).1) ?_ ?_ ?_ ?_
  ·intro x hx
   have:=hgr.gn x hx
   exact ⟨this.1,this.2.1,this.2.2.1,this.2.2.2.2.2⟩
  ·intro x hx;exact ⟨nd x (fun e=>h.notOther ht hj hne ⟨m1,m2⟩ (e ▸ hx)),fun s=>hpd x s,fun s st d=>(hsd x s st d).1⟩
  ·intro x y hp;exact nd y (fun e=>(h.pairNot ht hj hp).1 (e ▸ ⟨m1,m2⟩))
  ·intro x hx;simp only [Us,Ho,u1,u8] at hx ⊢;exact ⟨fun h=>⟨hx,h⟩,fun h=>h.2⟩
 ·-- the nodes
  have hon:=fun k=>h.n.on (key:=k) ha
  have hinn:=fun x=>h.n.inn (x:=x)
  have hre:=fun x=>h.n.hasRe (x:=x) h.o
  -- a new inner node's links
  have hnew : ∀ x,Fr x t->Ln P.mem x = 2->x≠t.work.tsrc/\∀ s,(g.V P.clock).Has (Ld P.mem x s)/\Ln P.mem (Ld P.mem x s) = 0/\Gd g P.clock (P.ts.set i { t with work:={ t.work with next:=11 } }) (Ld P.mem x s):=by
   rintro x ⟨_,k1,_,hm⟩ hl;obtain ⟨a,n,q⟩:=hT.f10 hb k1 hn;have qh:=q.h;rw [q.md] at hm;have hxn : x = n:=by
    simp at hm;rcases hm with e | e
    ·rw [e] at hl; omega
    ·exact e
   subst hxn;refine ⟨fun e=>?_,fun s=>?_⟩
   ·have:=qh.2.2.1
    rw [e,m2] at this; omega
   ·have h1:=q.ld s;have h2:=q.an s;rw [h1];refine ⟨(Tr.ed_has h2).1,?_,⟨.inr (Tr.ed_has h2).1,fun hh=>?_⟩⟩
    ·unfold kid; split
     ·exact qh.1
     ·exact m.al
    ·obtain ⟨e1,e2⟩:=fr _ hh;unfold kid at e1 e2;split at e1
     ·next e=>rw [if_pos e] at e2; exact e2 ⟨hb,k1,.inr hn,by rw [q.md]; simp⟩
     ·exact m.ah.2 e1
  have hOsrc : ¬ g.O t.work.tsrc:=by
   intro hO;have e:=h.n.ou _ hO;rcases hx0 with e2 | e2
   ·exact e.2.2.1 e2
   ·exact e.2.1 (Tr.inn_has e2)
  obtain ⟨gt,⟨ag1,ag2⟩,n0,tn,us,ou,od,ot,re,ro,lk,ph,pr,pp,rg,bd⟩:=h.n;refine ⟨gt,⟨?_,?_⟩,?_,?_,?_,?_,?_,?_,?_,?_,?_,?_,?_,?_,rg,bd⟩
  ·simp only [Us,Ln,Ky,u1,u4,u6] at *; exact ag1
  ·simp only [Us,Ln,Ky,u1,u4,u6,u7] at *; exact ag2
  ·simp only [Us,Ln,u1,u6,u2,u9] at *; exact n0
  ·intro x hx; simp only [u9,u2]; exact tn x hx
  ·intro x hx;simp only [Us,u1] at hx;rw [fr8]; exact us x hx
  ·intro x hx;simp only [Us,Ln,u1,u6]; exact ou x hx
  ·intro x hx;simp only [De,u9] at hx; exact od x hx
  ·intro x hx;simp only [De,u9]; rw [tk]; exact ot x hx
  ·intro x hx;simp only [De,Re,Ra,u9,u2,u3] at hx ⊢; exact re x hx
  ·intro x hx;simp only [De,Re,u9,u2] at hx ⊢; rw [own]; exact ro x hx
  ·intro x s d hd';rw [u5];by_cases e : x = t.work.tsrc/\s = t.work.tside
   ·rw [if_pos e];left;obtain ⟨rfl,rfl⟩:=e;exact Tr.ed_fn gt.dj gt.z ha hd'
   ·rw [if_neg e];rcases lk x s d hd' with q | q
    ·exact .inl q
    ·right;rcases q.or ht with q | ⟨j,u,q1,q2,q3⟩
     ·obtain ⟨_,_,_,e1,e2⟩:=q;exact absurd ⟨e1.symm,e2.symm⟩ e
     ·exact Ex.other q2 q3 q1
  ·intro x s hx hs;rw [u5];simp only [Ln,u6] at hx ⊢;simp only [Re,Ra,u2,u3];by_cases e : x = t.work.tsrc/\s = t.work.tside
   ·rw [if_pos e];obtain ⟨rfl,rfl⟩:=e
    have:=hre d0 (Tr.ed_has ha).1
    exact ⟨hgd0,hB,fun hr=>absurd hr this.1,fun hr=>absurd hr this.2⟩
   ·rw [if_neg e];rcases (show (x = 0\/(Ln P.mem x = 2/\Gd g P.clock P.ts x))\/(Fr x t/\Ln P.mem x = 2) by
     rcases hx with hx | hx
     ·exact .inl (.inl hx)
     ·rcases hgf x hx.2 with q | q
      ·exact .inl (.inr ⟨hx.1,q⟩)
      ·exact .inr ⟨q,hx.1⟩) with hx | hx
    ·have:=ph x s hx hs
     exact ⟨hga _ this.1,this.2⟩
    ·obtain ⟨n1,n2⟩:=hnew x hx.1 hx.2;obtain ⟨n3,n4,n5⟩:=n2 s
     have:=hre _ n3
     exact ⟨n5,fun q=>by simp only [Ln] at n4; omega,fun hr=>absurd hr this.1,fun hr=>absurd hr this.2⟩
  ·intro x s k hx hR hs;rw [u5];rw [usd] at hs;simp only [Ln,u6] at hx ⊢;by_cases e : x = t.work.tsrc/\s = t.work.tside
   ·rw [if_pos e];obtain ⟨rfl,rfl⟩:=e;intro hl;have hi:=(hinn d0 (Tr.ed_has ha).1).1.1 hl;rw [rg d0 k hi];refine hon k ?_ hs hi;rcases hx0 with q | q
    ·exact .inl q
    ·rcases hR with q2 | q2
     ·exact .inl q2
     ·exact .inr ((rg _ k q).1 q2)
   ·rw [if_neg e];intro hl;rcases (show (x = 0\/(Ln P.mem x = 2/\Gd g P.clock P.ts x))\/(Fr x t/\Ln P.mem x = 2) by
     rcases hx with hx | hx
     ·exact .inl (.inl hx)
     ·rcases hgf x hx.2 with q | q
      ·exact .inl (.inr ⟨hx.1,q⟩)
      ·exact .inr ⟨q,hx.1⟩) with hx | hx
    ·exact pr x s k hx hR hs hl
    ·obtain ⟨n1,n2⟩:=hnew x hx.1 hx.2
     have:=(n2 s).2.1
     simp only [Ln] at this; omega
  ·intro x s hO hl;rw [u5,if_neg (fun (e : x = t.work.tsrc/\s = t.work.tside)=>hOsrc (e.1 ▸ hO))];simp only [Ln,Re,u6,u2,pair] at *; exact pp x s hO hl
 ·refine ⟨?_,?_⟩
  ·intro x s st d hd;simp only [Us,Ln,u1,u6]; exact h.e.ms x s st d ((hsd _ _ _ _).1 hd)
  ·intro x s d hd;rw [hpd] at hd;exact (pn x s).2 (h.e.pd x s d hd)
 ·refine h.o.keep ht (Int.le_refl _) (fun x hx=>absurd hx (nf' x)) (fun x y hx=>?_) ?_ ?_
  ·obtain ⟨a1,a2,a3,a4⟩:=hx; exact .inl ⟨a1,a2,.inr (.inl hn),a4⟩
  ·intro x hx; simp only [Us,Ho,u1,u8] at hx ⊢; exact .inr ⟨hx,trivial⟩
  ·intro x _ hr; simp only [Re,Ra,u2,u3] at *; exact ⟨hr,trivial⟩
 ·refine hT.own (k:={ t.work with next:=11 }) h.n.one.1 hb (by omega) (by omega) hgr ⟨rfl,rfl,rfl,rfl,rfl,rfl,rfl,rfl,rfl⟩ (by show 6<=11; omega) (by show 11<=12; omega) (fun e=>by have : 11<=7:=e; omega) (fun e=>by have : 11 = 9:=e; omega) ?_ (fun _ e=>by have : 11<=8:=e; omega) ?_ (fun _ e=>by have : 11 = 8:=e; omega) (fun _ e=>by have : 11 = 10:=e; omega) (fun _ _ e=>by have : 11<=10:=e; omega) ?_ ?_ ?_
  ·intro _ _; simp only [Ky,u4]; exact hT.c7 hb (by omega) (by omega)
  ·intro _ _; simp only [usd]; exact htt
  ·intro k2 _;have k2 : t.work.kind = 2:=k2;obtain ⟨q,qd⟩:=hT.q9 hb k2 (.inr (.inl hn));have qd:=qd (by omega);have hA:=m.ab (m.mt k2 (.inl (by omega)));have ne : t.work.stand≠t.work.tsrc:=by rw [m6 k2]; exact fun e=>hA.2.2.2.1 e.symm
   refine ⟨⟨q.o,?_,?_,?_,?_,?_⟩,fun _=>?_⟩
   ·simp only [u2]; exact q.re
   ·simp only [usd]; rw [u5,if_neg (fun e=>ne e.1)]; exact q.ld
   ·simp only [usd]; rw [u5,if_neg (fun e=>ne e.1)]; exact q.a
   ·simp only [Ky,u4]; exact q.ky
   ·simp only [Ln,u6]; exact q.ln
   ·simp only [De,u9]; exact qd
  ·intro _; show Pd M1 t.work.tsrc t.work.tside = [Ld M1 t.work.tsrc t.work.tside];rw [hpd,u5,if_pos ⟨rfl,rfl⟩]; exact hp
  ·intro _ _; exact ⟨hs9.1,hs9.2.1,hs9.2.2.1,hs9.2.2.2.1,fun s d hh=>hs9.2.2.2.2 s d ((hsd _ _ _ _).1 hh)⟩
end
end T
end
section
namespace T
section
variable {g g' : Gh} {M M' : PMem} {c c' : Int} {r : PSweep} {i j : Nat} {t t' u : PThread} {ts ts' : List PThread} {P : PSt} {x d : Int} {s : Bool} {key : Int} {k : PWork}
theorem Inv.noPend (h : Inv g P) (ht : P.ts[i]? = some t) (h7 : t.work.next<=7) (_hx : Us P.mem x) (hh : Ho P.mem x = i) (s : Bool) : Pd P.mem x s = []:=by
 cases hp : Pd P.mem x s with
 | nil=>rfl
 | cons d l =>
  exfalso;obtain ⟨j,u,hj,q | q⟩:=h.e.pd x s d (by rw [hp]; simp)
  ·obtain ⟨b,hk,h8,h11,e1,e2⟩:=q
   have:=(h.mine hj b (by omega) (by omega)).ts h11 h8
   rw [e1] at this;have e : i = j:=by have:=this.2.1; omega
   subst e;rw [ht] at hj; injection hj with hj; subst hj
   omega
  ·obtain ⟨b,hk,hn,hm⟩:=q
   have:=(h.freshUs hj ⟨b,hk,.inl hn,hm⟩).2.2
   omega
theorem Inv.prepRemove (h : Inv g P) (ht : P.ts[i]? = some t) (hb : t.busy = true) (hn : t.work.next = 7) (k2 : t.work.kind = 2) (hr : 0 < P.mem.room.2) : Inv g ((P.setM (P.prepareRemove t.work).1).setW i { (P.prepareRemove t.work).2 with next:=8 }):=by
 have hT:=h.th i t ht;have m:=h.mine ht hb (by omega) (by omega);have hM:=m.mt k2 (.inl (by omega));have hA:=m.ab hM;obtain ⟨e1,e2,e3⟩:=hT.e7 hb (by omega) (by omega);obtain ⟨e4,e5⟩:=e3 k2;have hSt:=h.heldGd ht m.us m.hs;have hAb:=h.heldGd ht hA.1 hA.2.1;have hl1:=h.hasLink (s:=!sd P.mem t.work.stand t.work.key) hSt (fun e=>absurd e hA.2.2.1);have hl2:=h.hasLink (s:=sd P.mem t.work.above t.work.key) hAb (by intro e; rw [e]; exact sd0 h.n.n0.2.1 _);have hpr : P.prepareRemove t.work = (P.mem.pend t.work.above (sd P.mem t.work.above t.work.key) (Ld P.mem t.work.stand (!sd P.mem t.work.stand t.work.key)),{ t.work with tsrc:=t.work.above,tside:=sd P.mem t.work.above t.work.key }):=by
  unfold PSt.prepareRemove;simp only;rw [if_neg (show ¬ P.kind = 0 by rw [h.kind]; decide)];unfold PMem.leadsTo;unfold sd at hl1 ⊢;rw [hl1]; rfl
 rw [hpr];obtain ⟨e,he,hue⟩:=count_some (l:=P.mem.es) (p:=fun x=>!x.used) (by unfold PMem.room at hr; simpa using hr);have hp0:=h.noPend ht (by omega) hA.1 hA.2.1 (sd P.mem t.work.above t.work.key);obtain ⟨_,_,w0,w2,w3,w4⟩:=pend_e (to:=Ld P.mem t.work.stand (!sd P.mem t.work.stand t.work.key)) h.wm ⟨e,he,by simpa using hue⟩ hl2 hp0;have hns : (P.mem.pend t.work.above (sd P.mem t.work.above t.work.key) (Ld P.mem t.work.stand (!sd P.mem t.work.stand t.work.key))).ns = P.mem.ns:=by rw [w0]
 have hnd:=node_ns hns;simp only;generalize P.mem.pend t.work.above (sd P.mem t.work.above t.work.key) (Ld P.mem t.work.stand (!sd P.mem t.work.stand t.work.key)) = M1 at *;rw [setMW_to P ht];have usd : ∀ x k,sd M1 x k = sd P.mem x k:=fun x k=>sd_congr (by simp only [Ky]; rw [hnd]) (by simp only [Ln]; rw [hnd])
 have nk1 : ∀ {p : Prop},t.work.kind = 1->p:=fun e=>by omega
 obtain ⟨k',hk'⟩ : ∃ k' : PWork,k' = { t.work with tsrc:=t.work.above,tside:=sd P.mem t.work.above t.work.key,next:=8 }:=⟨_,rfl⟩;have hkk : k'.kind = 2:=by rw [hk']; exact k2
 have hkn : k'.next = 8:=by rw [hk']
 rw [show ({ t.work with tsrc:=t.work.above,tside:=sd P.mem t.work.above t.work.key,next:=8 } : PWork) = k' from hk'.symm];have off : ∀ {p : PThread->Prop},(p { t with work:=k' }->False)->(p t->False)->(Ex (P.ts.set i { t with work:=k' }) p ↔ Ex P.ts p):=fun a b=>ex_iff ht (iff_of_false a b)
 have fr8 : ∀ x,Ex (P.ts.set i { t with work:=k' }) (Fr8 x) ↔ Ex P.ts (Fr8 x):=fun x=>off (by rintro ⟨_,e,_⟩; have : k'.kind = 1:=e; omega) (by rintro ⟨_,e,_⟩; omega)
 have fr : ∀ x,Ex (P.ts.set i { t with work:=k' }) (Fr x) ↔ Ex P.ts (Fr x):=fun x=>off (by rintro ⟨_,e,_⟩; have : k'.kind = 1:=e; omega) (by rintro ⟨_,e,_⟩; omega)
 have tk : ∀ x,Ex (P.ts.set i { t with work:=k' }) (Tk x) ↔ Ex P.ts (Tk x):=fun x=>off (by rintro ⟨_,_,e,_⟩; have : k'.next = 9:=e; omega) (by rintro ⟨_,_,e,_⟩; omega)
 have own : ∀ x,Ex (P.ts.set i { t with work:=k' }) (Own x) ↔ Ex P.ts (Own x):=fun x=>off (by rintro ⟨_,_,e,_⟩; have : k'.next = 10\/k'.next = 11\/(k'.next = 12/\_):=e; omega) (by rintro ⟨_,_,e,_⟩; omega)
 have pair : ∀ x y,Ex (P.ts.set i { t with work:=k' }) (Pair x y) ↔ Ex P.ts (Pair x y):=fun x y=>off (by rintro ⟨_,_,e,_⟩; have : k'.next = 9\/k'.next = 10\/k'.next = 11\/(k'.next = 12/\_):=e; omega) (by rintro ⟨_,_,e,_⟩; omega)
 have xl : ∀ x s,Ex (P.ts.set i { t with work:=k' }) (Xl x s) ↔ Ex P.ts (Xl x s):=fun x s=>off (by rintro ⟨_,_,e,_⟩; have : k'.next = 9\/k'.next = 10:=e; omega) (by rintro ⟨_,_,e,_⟩; omega)
 have hgd : ∀ x,Gd g P.clock (P.ts.set i { t with work:=k' }) x ↔ Gd g P.clock P.ts x:=fun x=>by unfold Gd; rw [fr]
 refine h.build (c':=P.clock) ht ?_ w2 ?_ ?_ ?_ ?_
 ·intro j u hne hj;have ne : ∀ x,(Us P.mem x/\Ho P.mem x = j)\/Fr x u->x≠t.work.above:=fun x hx e=>h.notOther ht hj hne ⟨hA.1,hA.2.1⟩ (e ▸ hx)
  refine h.rel hj (fun x hx=>.inl ((fr x).1 hx)) ?_ ?_ (fun x y _=>hnd y) ?_
  ·intro x hx;simp only [Us,Ky,Ln,Re,Ra,hnd];exact ⟨h.usedGd hx,trivial,trivial,fun hr=>.inl ⟨hr,trivial⟩⟩
  ·intro x hx;exact ⟨hnd x,fun s=>by rw [w3,if_neg (fun e=>ne x hx e.1)],fun s st d=>(w4 x s st d).1⟩
  ·intro x hx;simp only [Us,Ho,hnd] at hx ⊢;exact ⟨fun h=>⟨hx,h⟩,fun h=>h.2⟩
 ·exact h.n.same hnd fr8 fr tk own pair xl
 ·refine ⟨?_,?_⟩
  ·intro x s st d hd;simp only [Us,Ln,hnd];exact h.e.ms x s st d ((w4 x s st d).1 hd)
  ·intro x s d hd;rw [w3] at hd;by_cases e : x = t.work.above/\s = sd P.mem t.work.above t.work.key
   ·exact Ex.new ht (.inl ⟨hb,.inr hkk,by show 8<=k'.next; omega,by show k'.next<=11; omega,by rw [hk',e.1],by rw [hk',e.2]⟩)
   ·rw [if_neg e] at hd;exact (h.e.pd x s d hd).set ht (by rintro (⟨_,_,e,_⟩ | ⟨_,_,e,_⟩) <;> omega)
 ·refine h.o.keep ht (Int.le_refl _) (fun x hx=>?_) (fun x y hx=>?_) ?_ ?_
  ·obtain ⟨_,e,_⟩:=hx; have : k'.kind = 1:=e; omega
  ·obtain ⟨_,_,e,_⟩:=hx; have : k'.next = 9\/k'.next = 10\/k'.next = 11\/(k'.next = 12/\_):=e; omega
  ·intro x hx; simp only [Us,Ho,hnd] at hx ⊢; exact .inr ⟨hx,trivial⟩
  ·intro x _ hr; simp only [Re,Ra,hnd] at *; exact ⟨hr,trivial⟩
 ·refine hT.own (k:=k') h.n.one.1 hb (by omega) (by omega) ?_ (by rw [hk']; exact ⟨rfl,rfl,rfl,rfl,rfl,rfl,rfl,rfl,rfl⟩) (by omega) (by omega) (by omega) (by omega) ?_ ?_ ?_ (by omega) (by omega) ?_ (by omega) (by omega) (by omega)
  ·refine ⟨Int.le_refl _,fun x hx=>(hgd x).2 hx,?_,?_⟩
   ·intro x hx;simp only [Us,Ky,Ln,Re,Ra,hnd];exact ⟨h.usedGd hx,trivial,trivial,trivial,fun _ h=>h,fun hr=>.inl ⟨hr,trivial⟩⟩
   ·intro x hx;simp only [Us,Ho,hnd] at hx ⊢;exact ⟨fun h=>⟨hx,h⟩,fun h=>h.2⟩
  ·intro _ _; simp only [Ky,hnd]; rw [hk']; exact hT.c7 hb (by omega) (by omega)
  ·intro _ _; simp only [usd,Ld,hnd]; rw [hk']; exact ⟨e1,e2,e3⟩
  ·intro _ _; simp only [usd]; rw [hk']; simp [k2]
  ·intro _ _ _; simp only [usd,Ld,hnd]; rw [hk',w3,if_pos ⟨rfl,rfl⟩]; exact ⟨rfl,e5,hT.m7 hb (by omega)⟩
theorem make_room {M : PMem} (hf : 0 < M.room.1) (key value : Int) : M.room.1 = (M.make key value).1.room.1 + 1/\(M.make key value).1.room.2 = M.room.2:=by
 obtain ⟨e,he,hu⟩:=count_some (l:=M.ns) (p:=fun x=>!x.used) (by unfold PMem.room at hf; simpa using hf);obtain ⟨k,y,h1,h2,h3⟩:=found (p:=fun x : PNode=>!x.used) he hu;have h4 : M.freeNode = (k : Int):=h3;obtain ⟨h5,h6⟩:=node_get h1;have heq : M.make key value = ({ M with ns:=M.ns.set k (PNode.made key value) },(k : Int)):=by
  unfold PMem.make;rw [h4,if_pos h6]; rfl
 rw [heq]
 have:=count_set_e (p:=fun x : PNode=>!x.used) (y:=PNode.made key value) h1 h2 rfl
 unfold PMem.room;simp only;constructor
 ·omega
 ·trivial
theorem modN_used (M : PMem) (n : Int) (f : PNode->PNode) (hf : ∀ e,(f e).used = e.used) : (M.modN n f).room.1 = M.room.1:=by
 unfold PMem.modN;split
 ·unfold PMem.room;simp only
  congr 1
  have : ∀ (l : List PNode) (k : Nat),count (fun x=>!x.used) (l.modify k f) = count (fun x=>!x.used) l:=by
   intro l
   induction l with
   | nil=>intro k; cases k <;> simp [count]
   | cons a r ih =>
    intro k;cases k with
    | zero =>
     show (List.filter (fun x : PNode=>!x.used) (f a :: r)).length = (List.filter (fun x : PNode=>!x.used) (a :: r)).length;rw [List.filter_cons,List.filter_cons,hf];split <;> rfl
    | succ k =>
     have:=ih k
     simp only [count,List.modify_succ_cons,List.filter_cons] at this ⊢;split <;> simp [this]
  exact this _ _
 ·rfl
theorem addLink_room1 (M : PMem) (n to : Int) : (M.addLink n to).room.1 = M.room.1:=by
 have hp : ∀ (M : PMem) (n : Int) (s : Bool) (to : Int),(M.pend n s to).room.1 = M.room.1:=by
  intro M n s to; unfold PMem.pend; split <;> rfl
 unfold PMem.addLink;split
 ·split
  ·rw [hp]; exact modN_used _ _ _ (fun _=>rfl)
  ·rw [hp]; exact modN_used _ _ _ (fun _=>rfl)
  ·rfl
 ·rfl
theorem Inv.grownR (h : Inv g P) (ht : P.ts[i]? = some t) (hb : t.busy = true) (hn : t.work.next = 7) (_k1 : t.work.kind = 1) (hr1 : 2<=P.mem.room.1) (hr2 : 3<=P.mem.room.2) :
  ∃ a n M1,P.prepareInsert t.work = (M1,{ t.work with made:=[a,n],tsrc:=t.work.stand,tside:=sd P.mem t.work.stand t.work.key })/\¬ Us P.mem a/\¬ Us P.mem n/\a≠n/\Wm M1 /\
   (∀ x,x≠a->x≠n->M1.node x = P.mem.node x)/\M1.node a = PNode.made t.work.key t.work.value/\M1.node n = linked true (kid P.mem t.work a true) (linked false (kid P.mem t.work a false) (PNode.made (if Ky P.mem t.work.ahead < t.work.key then t.work.key else Ky P.mem t.work.ahead) 0)) /\
   (∀ x s,Pd M1 x s = if x = t.work.stand/\s = sd P.mem t.work.stand t.work.key then [n] else if x = n then [kid P.mem t.work a s] else Pd P.mem x s)/\(∀ x s st d,Sd M1 x s st d ↔ Sd P.mem x s st d)/\M1.room.1 + 2 = P.mem.room.1/\M1.room.2 + 3 = P.mem.room.2:=by
 have hT:=h.th i t ht;have m:=h.mine ht hb (by omega) (by omega);have hm7:=hT.m7 hb (by omega);have hus:=h.usedGd (.inr m.ah);obtain ⟨a,p1,p2,p3,p4,p5,p6,p7⟩:=make_e h.wm t.work.key t.work.value (by omega);obtain ⟨r1,r2⟩:=make_room (M:=P.mem) (by omega) t.work.key t.work.value;obtain ⟨M0,hM0⟩ : ∃ M0,M0 = (P.mem.make t.work.key t.work.value).1:=⟨_,rfl⟩;rw [<- hM0] at p4 p5 p6 p7 r1 r2;have haa : t.work.ahead≠a:=fun e=>by rw [e] at hus; simp only [Us] at hus; rw [p1] at hus; cases hus
 have hsa : t.work.stand≠a:=fun e=>by have:=m.us; rw [e] at this; simp only [Us] at this; rw [p1] at this; cases this
 have kA : (M0.node a).key = t.work.key:=by rw [p7,if_pos rfl]; rfl
 have kO : (M0.node t.work.ahead).key = Ky P.mem t.work.ahead:=by rw [p7,if_neg haa]
 obtain ⟨kg,hkg⟩ : ∃ kg,kg = (if Ky P.mem t.work.ahead < t.work.key then t.work.key else Ky P.mem t.work.ahead):=⟨_,rfl⟩;obtain ⟨n,q1,q2,q3,q4,q5,q6,q7⟩:=make_e p6 kg 0 (by omega);obtain ⟨s1,s2⟩:=make_room (M:=M0) (by omega) kg 0;obtain ⟨M2,hM2⟩ : ∃ M2,M2 = (M0.make kg 0).1:=⟨_,rfl⟩;rw [<- hM2] at q4 q5 q6 q7 s1 s2;have hna : n≠a:=fun e=>by rw [e,p7,if_pos rfl] at q1; cases q1
 have hnu : (P.mem.node n).used = false:=by rw [p7,if_neg hna] at q1; exact q1
 have hsn : t.work.stand≠n:=fun e=>by have:=m.us; rw [e] at this; simp only [Us] at this; rw [hnu] at this; cases this
 have pdn : ∀ s,Pd P.mem n s = []:=by
  intro s;cases hp : Pd P.mem n s with
  | nil=>rfl
  | cons d l =>
   exfalso;obtain ⟨j,u,hj,q | q⟩:=h.e.pd n s d (by rw [hp]; simp)
   ·obtain ⟨b,hk,h8,h11,e1,e2⟩:=q
    have:=((h.mine hj b (by omega) (by omega)).ts h11 h8).1
    rw [e1] at this; simp only [Us] at this; rw [hnu] at this; cases this
   ·obtain ⟨b,hk,hn,hm⟩:=q
    have:=(h.freshUs hj ⟨b,hk,.inl hn,hm⟩).1
    simp only [Us] at this; rw [hnu] at this; cases this
 have es2 : M2.es = P.mem.es:=q4.trans p4;have n2 : M2.node n = PNode.made kg 0:=by rw [q7,if_pos rfl]
 obtain ⟨a1,a2,a3,a4,a5,a6⟩:=addLink_e (M:=M2) (n:=n) (to:=kid P.mem t.work a false) (s:=false) q6 (by rw [n2]; rfl) (by rw [n2]; rfl) (by rw [pd_es es2]; exact pdn false) (by omega);obtain ⟨M3,hM3⟩ : ∃ M3,M3 = M2.addLink n (kid P.mem t.work a false):=⟨_,rfl⟩;rw [<- hM3] at a1 a2 a3 a4 a5 a6;have n3 : M3.node n = linked false (kid P.mem t.work a false) (PNode.made kg 0):=by rw [a3,if_pos rfl,n2]
 obtain ⟨b1,b2,b3,b4,b5,b6⟩:=addLink_e (M:=M3) (n:=n) (to:=kid P.mem t.work a true) (s:=true) a2 (by rw [n3]; rfl) (by rw [n3]; rfl) (by rw [a4,if_neg (by simp),pd_es es2]; exact pdn true) (by omega);obtain ⟨M4,hM4⟩ : ∃ M4,M4 = M3.addLink n (kid P.mem t.work a true):=⟨_,rfl⟩;rw [<- hM4] at b1 b2 b3 b4 b5 b6;have nd4 : ∀ x,x≠a->x≠n->M4.node x = P.mem.node x:=by
  intro x e1 e2;rw [b3,if_neg e2,a3,if_neg e2,q7,if_neg e2,p7,if_neg e1]
 have hSt:=h.heldGd ht m.us m.hs;have hlk : M4.hasLink t.work.stand (sd P.mem t.work.stand t.work.key) = true:=by
  have:=h.hasLink (s:=sd P.mem t.work.stand t.work.key) hSt (by intro e; rw [e]; exact sd0 h.n.n0.2.1 _)
  rw [hasLink_iff] at this ⊢;rw [nd4 _ hsa hsn,hasN_len (M:=P.mem) (M':=M4) (by rw [b1,a1,q5,p5])]; exact this
 have hp0:=h.noPend ht (by omega) m.us m.hs (sd P.mem t.work.stand t.work.key);obtain ⟨e,he,hue⟩:=count_some (l:=M4.es) (p:=fun x=>!x.used) (by
  have : 0 < M4.room.2:=by omega
  unfold PMem.room at this; simpa using this)
 obtain ⟨k5,g5,w0,w2,w3,w4⟩:=pend_e (M:=M4) (n:=t.work.stand) (s:=sd P.mem t.work.stand t.work.key) (to:=n) b2 ⟨e,he,by simpa using hue⟩ hlk (by rw [b4,if_neg (fun q=>hsn q.1),a4,if_neg (fun q=>hsn q.1),pd_es es2]; exact hp0);refine ⟨a,n,M4.pend t.work.stand (sd P.mem t.work.stand t.work.key) n,?_,by simp only [Us]; rw [p1]; simp,by simp only [Us]; rw [hnu]; simp,fun e=>hna e.symm,w2,?_,?_,?_,?_,?_,?_,?_⟩
 ·-- what it does
  have hjoin : M0.join a t.work.ahead = (M4,n):=by
   unfold PMem.join;simp only;rw [kA,kO];by_cases hlt : Ky P.mem t.work.ahead < t.work.key
   ·have eg : kg = t.work.key:=by rw [hkg,if_pos hlt]
    have k0 : kid P.mem t.work a false = t.work.ahead:=by unfold kid; rw [if_neg (by simpa using hlt)]
    have k1 : kid P.mem t.work a true = a:=by unfold kid; rw [if_pos (by simpa using hlt)]
    rw [if_pos hlt,if_pos hlt,kA,<- eg,q3,<- hM2,hM4,hM3,k0,k1]
   ·have eg : kg = Ky P.mem t.work.ahead:=by rw [hkg,if_neg hlt]
    have k0 : kid P.mem t.work a false = a:=by unfold kid; rw [if_pos (by simpa using hlt)]
    have k1 : kid P.mem t.work a true = t.work.ahead:=by unfold kid; rw [if_neg (by simpa using hlt)]
    rw [if_neg hlt,if_neg hlt,kO,<- eg,q3,<- hM2,hM4,hM3,k0,k1]
  have hside : M0.sideFor t.work.stand t.work.key = sd P.mem t.work.stand t.work.key:=by
   show sd M0 _ _ = _;exact sd_congr (by simp only [Ky]; rw [p7,if_neg hsa]) (by simp only [Ln]; rw [p7,if_neg hsa])
  unfold PSt.prepareInsert;simp only;rw [if_neg (show ¬ P.kind = 0 by rw [h.kind]; decide),p3,<- hM0,hjoin,hside,hm7]
  rfl
 ·intro x e1 e2;rw [w0]; exact nd4 x e1 e2
 ·rw [w0];show M4.node a = _;rw [b3,if_neg (fun e=>hna e.symm),a3,if_neg (fun e=>hna e.symm),q7,if_neg (fun e=>hna e.symm),p7,if_pos rfl]
 ·rw [w0];show M4.node n = _;rw [b3,if_pos rfl,n3,hkg]
 ·intro x s;rw [w3];split
  ·rfl
  ·rw [b4,a4,pd_es es2];cases s <;> grind
 ·intro x s st d;rw [w4,b5,a5,sd_es es2]
 ·have n3 : M3.room.1 = M2.room.1:=by rw [hM3]; exact addLink_room1 _ _ _
  have n4 : M4.room.1 = M3.room.1:=by rw [hM4]; exact addLink_room1 _ _ _
  rw [w0];show (M4.room).1 + 2 = _;omega
 ·rw [w0];have c5:=count_set_e (p:=fun x : PEntry=>!x.used) (y:=⟨true,true,t.work.stand,sd P.mem t.work.stand t.work.key,n,0⟩) g5 rfl rfl;have e6 : M4.room.2 = (count (fun x : PEntry=>!x.used) M4.es : Nat):=rfl;show ((count (fun x : PEntry=>!x.used) (M4.es.set k5 _) : Nat) : Int) + 3 = _;omega
theorem Inv.grown (h : Inv g P) (ht : P.ts[i]? = some t) (hb : t.busy = true) (hn : t.work.next = 7) (k1 : t.work.kind = 1) (hr1 : 2<=P.mem.room.1) (hr2 : 3<=P.mem.room.2) :
  ∃ a n M1,P.prepareInsert t.work = (M1,{ t.work with made:=[a,n],tsrc:=t.work.stand,tside:=sd P.mem t.work.stand t.work.key })/\¬ Us P.mem a/\¬ Us P.mem n/\a≠n/\Wm M1 /\
   (∀ x,x≠a->x≠n->M1.node x = P.mem.node x)/\M1.node a = PNode.made t.work.key t.work.value/\M1.node n = linked true (kid P.mem t.work a true) (linked false (kid P.mem t.work a false) (PNode.made (if Ky P.mem t.work.ahead < t.work.key then t.work.key else Ky P.mem t.work.ahead) 0)) /\
   (∀ x s,Pd M1 x s = if x = t.work.stand/\s = sd P.mem t.work.stand t.work.key then [n] else if x = n then [kid P.mem t.work a s] else Pd P.mem x s)/\(∀ x s st d,Sd M1 x s st d ↔ Sd P.mem x s st d):=by
 obtain ⟨a,n,M1,q0,q1,q2,q3,q4,q5,q6,q7,q8,q9,_⟩:=h.grownR ht hb hn k1 hr1 hr2;exact ⟨a,n,M1,q0,q1,q2,q3,q4,q5,q6,q7,q8,q9⟩
end
end T
end
end Go.Proofs.YtfccelbmacjifabGreat
