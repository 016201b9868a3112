import Derived.Test.YtfccelbmacjifabGreatP0
import Derived.Test.YtfccelbmacjifabGreatP20
set_option linter.unusedSimpArgs false
set_option maxRecDepth 100000
set_option maxHeartbeats 4000000
namespace Go.Proofs.YtfccelbmacjifabGreat
section
namespace T
section
variable {g g' : Gh} {M M' : PMem} {c c' : Int} {r : PSweep} {i j : Nat} {t t' u : PThread} {ts ts' : List PThread} {P : PSt} {x : Int} {s : Bool} {key : Int} {k : PWork}
theorem Inv.outLed (h : Inv g P) (hx : x = 0/\s = false\/(g.V P.clock).Inn x) (hO : g.O (Ld P.mem x s)) : ∃ (j : Nat) (u : PThread),P.ts[j]? = some u/\u.busy = true/\u.work.kind = 2/\(u.work.next = 9\/u.work.next = 10)/\u.work.stand = Ld P.mem x s/\u.work.above = x/\u.work.tside = s:=by
 obtain ⟨d,hd⟩ : ∃ d,A (g.V P.clock) x s d:=by
  rcases hx with ⟨rfl,rfl⟩ | hi
  ·exact ⟨_,Tr.ed_pl 0 false _⟩
  ·exact Tr.inn_ed 0 false s hi
 rcases h.n.lk x s d hd with e | ⟨j,u,hj,b,hk,hn,e1,e2⟩
 ·exfalso;rw [e] at hO;exact (h.n.ou d hO).2.1 (Tr.ed_has hd).1
 ·have hT:=h.th j u hj;obtain ⟨q1,q2⟩:=hT.tt b (by omega) (by omega);rcases hk with hk | hk
  ·exfalso;rw [if_neg (by omega)] at q1;have hn : u.work.next = 10:=by
    rcases hn with hn | hn
    ·have:=hT.n9 b hn; omega
    ·exact hn
   obtain ⟨a,n,q⟩:=hT.f10 b hk hn;have h1:=q.ls;rw [<- q1,<- q2,e1,e2] at h1;rw [h1] at hO;have h2:=q.an (!decide (Ky P.mem u.work.ahead < u.work.key));unfold kid at h2;rw [if_neg (by simp)] at h2;exact (h.n.ou _ hO).2.1 (Tr.ed_has h2).1
  ·rw [if_pos hk] at q1;have h1:=(hT.q8 b hk (by omega) (by omega)).2.1;rw [<- q1,<- q2,e1,e2] at h1;exact ⟨j,u,hj,b,hk,hn,h1.symm,q1.symm.trans e1,e2⟩
theorem retire_node (M : PMem) {n : Int} (hn : M.hasNode n = true) (c x : Int) : (M.retire n c).node x = if x = n then { M.node n with retired:=true,retiredAt:=c } else M.node x:=node_modN hn _ x
theorem retires_two {M : PMem} {a b c : Int} (ha : Us M a) (hb : Us M b) (hw : Wm M) : Wm (M.retires c [a,b])/\(M.retires c [a,b]).es = M.es/\∀ x,(M.retires c [a,b]).node x = if x = a\/x = b then { M.node x with retired:=true,retiredAt:=c } else M.node x:=by
 show Wm ((M.retire a c).retire b c)/\((M.retire a c).retire b c).es = M.es/\_;have h1:=retire_node M (hasN_used ha) c;have hb' : Us (M.retire a c) b:=by simp only [Us]; rw [h1]; split; exact ha; exact hb
 refine ⟨?_,?_,?_⟩
 ·exact Wm.modN (Wm.modN hw ha _ ha) hb' _ hb'
 ·show ((M.retire a c).modN b _).es = _;rw [modN_ents]; exact modN_ents _ _ _
 ·intro x;show ((M.retire a c).retire b c).node x = _;rw [retire_node _ (hasN_used hb'),h1,h1]
  grind
theorem Inv.retire (h : Inv g P) (ht : P.ts[i]? = some t) (hb : t.busy = true) (hn : t.work.next = 12) (k2 : t.work.kind = 2) (hd : t.work.ans.did = true) : Inv g { P with mem:=(P.mem.unlock i).retires P.clock (P.takenOut t.work),ts:=P.ts.set i { t with work:={ t.work with locks:=0,next:=13 } } }:=by
 have hT:=h.th i t ht;have m:=h.mine ht hb (by omega) (by omega);obtain ⟨q,qd⟩:=hT.q9 hb k2 (.inr (.inr (.inr ⟨hn,hd⟩)));have qd:=qd (by omega);have hM:=m.mt k2 (.inr hd);have hA:=m.ab hM;have hsl:=hT.sl;rw [hn] at hsl;simp [hb] at hsl;have hto : P.takenOut t.work = [t.work.ahead,t.work.stand]:=by unfold PSt.takenOut; rw [if_pos h.kind]
 rw [hto];have hh:=unlock_hold P.mem i;have hsame:=hh.to;obtain ⟨w1,w2,w3⟩:=retires_two (a:=t.work.ahead) (b:=t.work.stand) (c:=P.clock) (M:=P.mem.unlock i) (by simp only [Us]; rw [(hsame _).1]; exact h.usedGd (.inr m.ah)) (by simp only [Us]; rw [(hsame _).1]; exact m.us) (h.wm.unlock i);have w2 : ((P.mem.unlock i).retires P.clock [t.work.ahead,t.work.stand]).es = P.mem.es:=w2;have hho : ∀ x,Us P.mem x->Ho (P.mem.unlock i) x = if Ho P.mem x = i then -1 else Ho P.mem x:=fun x hx=>unlock_ho P.mem i x hx
 have hun : ∀ x,Ho P.mem x≠i->(P.mem.unlock i).node x = P.mem.node x:=by
  intro x hx;rw [unlock_node];unfold Proofs.YtfccelbmacjifabGreat.unlocked;rw [if_neg];simp only [Ho] at hx;simp [hx]
 have hfree : ∀ x,Us (P.mem.unlock i) x->¬ Ho (P.mem.unlock i) x = i:=fun x hx=>unlock_free _ _ _ (by omega) hx
 generalize P.mem.unlock i = M0 at *;generalize M0.retires P.clock [t.work.ahead,t.work.stand] = M1 at *;have u1 : ∀ x,(M1.node x).used = (P.mem.node x).used:=fun x=>by rw [w3]; split <;> exact (hsame x).1
 have u4 : ∀ x,(M1.node x).key = (P.mem.node x).key:=fun x=>by rw [w3]; split <;> exact (hsame x).2.2.2.2.1
 have u5 : ∀ x,(M1.node x).leads = (P.mem.node x).leads:=fun x=>by rw [w3]; split <;> exact (hsame x).2.2.2.2.2.1
 have u6 : ∀ x,(M1.node x).links = (P.mem.node x).links:=fun x=>by rw [w3]; split <;> exact (hsame x).2.2.2.2.2.2.1
 have u7 : ∀ x,(M1.node x).value = (P.mem.node x).value:=fun x=>by rw [w3]; split <;> exact (hsame x).2.2.2.2.2.2.2
 have u9 : ∀ x,(M1.node x).dead = (P.mem.node x).dead:=fun x=>by rw [w3]; split <;> exact (hsame x).2.1
 have uh : ∀ x,Ho M1 x = Ho M0 x:=fun x=>by simp only [Ho]; rw [w3]; split <;> rfl
 have ur1 : ∀ x,x = t.work.ahead\/x = t.work.stand->Re M1 x/\Ra M1 x = P.clock:=fun x hx=>by simp only [Re,Ra]; rw [w3,if_pos hx]; exact ⟨rfl,rfl⟩
 have ur2 : ∀ x,¬ (x = t.work.ahead\/x = t.work.stand)->(M1.node x).retired = (P.mem.node x).retired/\(M1.node x).retiredAt = (P.mem.node x).retiredAt:=fun x hx=>by rw [w3,if_neg hx]; exact ⟨(hsame x).2.2.1,(hsame x).2.2.2.1⟩
 have ur3 : ∀ x,Re P.mem x->¬ (x = t.work.ahead\/x = t.work.stand):=by
  rintro x hx (rfl | rfl)
  ·have:=q.re.2; simp only [Re] at hx; rw [this] at hx; cases hx
  ·have:=q.re.1; simp only [Re] at hx; rw [this] at hx; cases hx
 have usd : ∀ x k,sd M1 x k = sd P.mem x k:=fun x k=>sd_congr (u4 x) (u6 x)
 have hpd:=fun x s=>pd_es (M:=P.mem) (M':=M1) w2 x s
 have hsd:=fun x s st d=>sd_es (M:=P.mem) (M':=M1) w2 x s st d
 have off : ∀ {p : PThread->Prop},(p { t with work:={ t.work with locks:=0,next:=13 } }->False)->(p t->False)->(Ex (P.ts.set i { t with work:={ t.work with locks:=0,next:=13 } }) p ↔ Ex P.ts p):=fun a b=>ex_iff ht (iff_of_false a b)
 have fr8 : ∀ x,Ex (P.ts.set i { t with work:={ t.work with locks:=0,next:=13 } }) (Fr8 x) ↔ Ex P.ts (Fr8 x):=fun x=>off (by rintro ⟨_,_,e,_⟩; have : (13 : Nat) = 8:=e; omega) (by rintro ⟨_,_,e,_⟩; omega)
 have fr : ∀ x,Ex (P.ts.set i { t with work:={ t.work with locks:=0,next:=13 } }) (Fr x) ↔ Ex P.ts (Fr x):=fun x=>off (by rintro ⟨_,_,e,_⟩; have : (13 : Nat) = 8\/(13 : Nat) = 10:=e; omega) (by rintro ⟨_,_,e,_⟩; omega)
 have tk : ∀ x,Ex (P.ts.set i { t with work:={ t.work with locks:=0,next:=13 } }) (Tk x) ↔ Ex P.ts (Tk x):=fun x=>off (by rintro ⟨_,_,e,_⟩; have : (13 : Nat) = 9:=e; omega) (by rintro ⟨_,_,e,_⟩; omega)
 have xl : ∀ x s,Ex (P.ts.set i { t with work:={ t.work with locks:=0,next:=13 } }) (Xl x s) ↔ Ex P.ts (Xl x s):=fun x s=>off (by rintro ⟨_,_,e,_⟩; have : (13 : Nat) = 9\/(13 : Nat) = 10:=e; omega) (by rintro ⟨_,_,e,_⟩; omega)
 have pn : ∀ x s,Ex (P.ts.set i { t with work:={ t.work with locks:=0,next:=13 } }) (fun t=>Pn x s t\/Fr8 x t) ↔ Ex P.ts (fun t=>Pn x s t\/Fr8 x t):=fun x s=>off (by rintro (⟨_,_,_,e,_⟩ | ⟨_,_,e,_⟩); (have : (13 : Nat)<=11:=e; omega); (have : (13 : Nat) = 8:=e; omega)) (by rintro (⟨_,_,_,e,_⟩ | ⟨_,_,e,_⟩) <;> omega)
 have hgd : ∀ x,Gd g P.clock (P.ts.set i { t with work:={ t.work with locks:=0,next:=13 } }) x ↔ Gd g P.clock P.ts x:=fun x=>by unfold Gd; rw [fr]
 have hOs : g.O t.work.stand/\g.O t.work.ahead:=q.o;have hre:=h.n.re;refine h.build (c':=P.clock) ht ?_ w1 ?_ ?_ ?_ ?_
 ·-- the others
  intro j u hne hj;have nd : ∀ x,x≠t.work.ahead->x≠t.work.stand->Ho P.mem x≠i->M1.node x = P.mem.node x:=by
   intro x e1 e2 e3;rw [w3,if_neg (by simp [e1,e2]),hun x e3]
  refine h.rel hj (fun x hx=>.inl ((fr x).1 hx)) ?_ ?_ ?_ ?_
  ·intro x hx;refine ⟨by simp only [Us,u1]; exact h.usedGd hx,u4 x,u6 x,?_⟩;intro hr;by_cases e : x = t.work.ahead\/x = t.work.stand
   ·exact .inr (by rw [(ur1 x e).2]; omega)
   ·left
    have:=ur2 x e
    simp only [Re,Ra] at hr ⊢;rw [this.1] at hr; exact ⟨hr,this.2⟩
  ·intro x hx;refine ⟨nd x (fun e=>h.leafNot hj m.ah m.al (e ▸ hx)) (fun e=>h.notOther ht hj hne ⟨m.us,m.hs⟩ (e ▸ hx)) ?_,fun s=>hpd x s,fun s st d=>(hsd x s st d).1⟩;rcases hx with e | e
   ·rw [e.2]; omega
   ·rw [(h.freshUs hj e).2.2]; omega
  ·intro x y hp;obtain ⟨p1,p2,p3,p4,p5,p6⟩:=h.pairNot ht hj hp;exact nd y (fun e=>hne (h.o.pq j i u t x t.work.stand y hj ht hp ⟨hb,k2,.inr (.inr (.inr ⟨hn,hd⟩)),rfl,e.symm⟩)) (fun e=>p1 (e ▸ ⟨m.us,m.hs⟩)) (fun e=>p1 ⟨p6,e⟩)
  ·intro x hx;have hx' : Us P.mem x:=by simp only [Us,u1] at hx ⊢; exact hx
   rw [uh,hho x hx'];constructor
   ·intro e;refine ⟨hx',?_⟩;split at e <;> omega
   ·rintro ⟨_,e⟩;rw [if_neg (by omega)]; exact e
 ·-- the nodes
  have hled:=fun x s=>h.outLed (x:=x) (s:=s)
  obtain ⟨gt,⟨ag1,ag2⟩,n0,tn,us,ou,od,ot,re,ro,lk,ph,pr,pp,rg,bd⟩:=h.n;refine ⟨gt,⟨?_,?_⟩,?_,?_,?_,?_,?_,?_,?_,?_,?_,?_,?_,?_,rg,bd⟩
  ·simp only [Us,Ln,Ky,u1,u4,u6] at *; exact ag1
  ·simp only [Us,Ln,Ky,u1,u4,u6,u7] at *; exact ag2
  ·have:=ur2 0 (by rintro (e | e); exact m.a0 e.symm; exact hA.2.2.1 e.symm)
   refine ⟨by simp only [Us,u1]; exact n0.1,by simp only [Ln,u6]; exact n0.2.1,by rw [u9]; exact n0.2.2.1,by rw [this.1]; exact n0.2.2.2⟩
  ·intro x hx
   have:=ur2 x (by rintro (e | e); exact (ou _ hOs.2).2.1 (e ▸ hx); exact (ou _ hOs.1).2.1 (e ▸ hx))
   rw [u9,this.1]; exact tn x hx
  ·intro x hx;simp only [Us,u1] at hx;rw [fr8]; exact us x hx
  ·intro x hx;simp only [Us,Ln,u1,u6]; exact ou x hx
  ·intro x hx;simp only [De,u9] at hx; exact od x hx
  ·intro x hx;simp only [De,u9]; rw [tk]; exact ot x hx
  ·intro x hx;simp only [De,u9];by_cases e : x = t.work.ahead\/x = t.work.stand
   ·refine ⟨?_,by rw [(ur1 x e).2]; omega⟩;rcases e with rfl | rfl
    ·exact qd.2
    ·exact qd.1
   ·have:=ur2 x e
    simp only [Re,Ra] at hx ⊢;rw [this.1] at hx;rw [this.2]; exact re x hx
  ·intro x hx;simp only [De,u9] at hx;by_cases e : x = t.work.ahead\/x = t.work.stand
   ·exact .inl (ur1 x e).1
   ·rcases ro x hx with e2 | e2
    ·left; simp only [Re]; rw [(ur2 x e).1]; exact e2
    ·rcases e2.or ht with ⟨_,_,_,e3⟩ | ⟨j,u,e1,e2,e3⟩
     ·exact absurd e3.symm e
     ·exact .inr (Ex.other e2 e3 e1)
  ·intro x s d hd;simp only [Ld,u5]; rw [xl]; exact lk x s d hd
  ·intro x s;rw [hgd,hgd];simp only [Ln,Ld,u5,u6];intro hx hs;obtain ⟨p1,p2,p3,p4⟩:=ph x s hx hs;refine ⟨p1,p2,?_,p4⟩;intro hr;by_cases e : (P.mem.node x).leads s = t.work.ahead\/(P.mem.node x).leads s = t.work.stand
   ·-- it is one of the two
    rw [(ur1 _ e).2];have fin : Re M1 x->Ra M1 x<=P.clock->Re M1 x/\Ra M1 x<=P.clock:=fun a b=>⟨a,b⟩
    by_cases ex : x = t.work.ahead\/x = t.work.stand
    ·exact ⟨(ur1 x ex).1,by rw [(ur1 x ex).2]; omega⟩
    ·have hOd : g.O (Ld P.mem x s):=by
      simp only [Ld];rcases e with e | e
      ·rw [e]; exact hOs.2
      ·rw [e]; exact hOs.1
     have key : Re P.mem x:=by
      by_cases hOx : g.O x
      ·have hx0:=(ou x hOx).2.2.1;have hl2 : Ln P.mem x = 2:=by
        rcases hx with hx | hx
        ·exact absurd hx hx0
        ·exact hx.1
       rcases pp x s hOx hl2 hOd with e1 | ⟨j,u,hj,hp⟩
       ·exact e1
       ·exfalso;have hp':=hp;obtain ⟨b,hk,hn',e1,e2⟩:=hp;have hl:=(h.pairNot ht hj hp').2.2.2.1;rcases e with e | e
        ·have:=h.o.pq j i u t x t.work.stand _ hj ht hp' ⟨hb,k2,.inr (.inr (.inr ⟨hn,hd⟩)),rfl,e.symm⟩
         subst this;rw [ht] at hj; injection hj with hj; subst hj
         exact ex (.inr e1.symm)
        ·simp only [Ld] at hl;rw [e] at hl
         have:=hA.2.2.2.2; omega
      ·exfalso;have hx' : x = 0/\s = false\/(g.V P.clock).Inn x:=by
        rcases hx with hx | hx
        ·exact .inl ⟨hx,hs hx⟩
        ·right;rcases hx.2.1 with q1 | q1
         ·exact absurd q1 hOx
         ·rcases Tr.has_or q1 with ⟨q2,hq⟩ | ⟨q2,w,hq⟩
          ·exact Tr.nod_inn hq
          ·have:=(ag2 x q2 w hq).2.1; have:=hx.1; simp only [Ln] at *; omega
       obtain ⟨j,u,hj,b,hk,hn',e1,e2,e3⟩:=hled x s hx' hOd;have hTj:=h.th j u hj;have hs1:=hTj.hStand b (by omega) (by omega);rw [e1] at hs1;simp only [Ld] at hs1;rcases e with e | e
       ·rw [e] at hs1;rcases h.heldGd hj hs1.1 hs1.2 with e5 | e5
        ·exact m.a0 e5
        ·have:=m.al; omega
       ·rw [e] at hs1
        have:=m.hs
        rw [hs1.2] at this;have hij : j = i:=by omega
        subst hij;rw [ht] at hj; injection hj with hj; subst hj
        omega
     have:=ur2 x ex
     simp only [Re,Ra] at key ⊢;rw [this.1,this.2];exact ⟨key,(re x key).2⟩
   ·have e1:=ur2 _ e;simp only [Re,Ra] at hr ⊢;rw [e1.1] at hr;have e2:=p3 hr;have e3:=ur2 x (ur3 x e2.1);rw [e1.2,e3.1,e3.2]; exact e2
  ·intro x s k;simp only [Ld,Ln,u5,u6,usd,hgd] at *; exact pr x s k
  ·intro x s hx hl hO;simp only [Ld,Ln,u5,u6] at *;by_cases ex : x = t.work.ahead\/x = t.work.stand
   ·exact .inl (ur1 x ex).1
   ·rcases pp x s hx hl hO with e | e
    ·left; simp only [Re] at e ⊢; rw [(ur2 x ex).1]; exact e
    ·rcases e.or ht with ⟨_,_,_,e3,_⟩ | ⟨j,u,e1,e2,e3⟩
     ·exact absurd (.inr e3.symm) ex
     ·exact .inr (Ex.other e2 e3 e1)
 ·refine ⟨?_,?_⟩
  ·intro x s st d hd;simp only [Us,Ln,u1,u6]; exact h.e.ms x s st d ((hsd _ _ _ _).1 hd)
  ·intro x s d hd;rw [hpd] at hd;exact (pn x s).2 (h.e.pd x s d hd)
 ·refine h.o.keep ht (Int.le_refl _) (fun x hx=>?_) (fun x y hx=>?_) ?_ ?_
  ·obtain ⟨_,_,e,_⟩:=hx; have : (13 : Nat) = 8\/(13 : Nat) = 10:=e; omega
  ·obtain ⟨a1,a2,a3,a4⟩:=hx; have : (13 : Nat) = 9\/(13 : Nat) = 10\/(13 : Nat) = 11\/((13 : Nat) = 12/\_):=a3; omega
  ·intro x hx;have hx' : Us P.mem x:=by simp only [Us,u1] at hx ⊢; exact hx
   rw [uh,hho x hx'];split
   ·exact .inl rfl
   ·exact .inr ⟨hx',rfl⟩
  ·intro x _ hr
   have:=ur2 x (ur3 x hr)
   simp only [Re,Ra] at *; rw [this.1,this.2]; exact ⟨hr,rfl⟩
 ·refine Th.low (fun _=>.inr rfl) hT.kd (fun _=>by show 1<=13/\13<=13; omega) (by simpa [hb] using hsl) (fun b _=>hT.tm b (by omega)) ?_ (fun _=>rfl) hT.ky hT.hi (fun _ _ q=>by have : 13<=3:=q; omega) hT.l3 (fun _ q=>by have : 13<=7:=q; omega) (fun _ _ q=>by have : 13 = 4:=q; omega) (fun _ _ q=>by have : 13 = 4:=q; omega);intro x hx;rw [uh];refine hfree x ?_;simp only [Us,u1] at hx ⊢;rw [(hsame x).1]; exact hx
end
end T
end
section
namespace T
section
variable {g g' : Gh} {M M' : PMem} {c c' : Int} {r : PSweep} {i j : Nat} {t t' u : PThread} {ts ts' : List PThread} {P : PSt} {x d : Int} {s : Bool} {key : Int} {k : PWork}
theorem sd_nod (h : Ag M (g.V c)) {q : Int} (hx : (g.V c).Nod x q) (k : Int) : sd M x k = decide (q<=k):=by
 have:=h.n x q hx
 unfold sd PMem.sideFor;simp only [Ln,Ky] at this;rw [this.2.1,this.2.2]; simp
theorem InvN.on (h : InvN g M c r ts) (hA : A (g.V c) x s d) (hx : x = 0\/(g.V c).Pth key x) (hs : sd M x key = s) (hd : (g.V c).Inn d) : (g.V c).Pth key d:=by
 have hg : ∀ y,((g.V c).goal key).1 = y->¬ (g.V c).Inn y:=by
  rintro y rfl hi;exact Tr.inn_lea h.gt.dj hi _ _ (Tr.goal_lea _)
 rcases hx with rfl | hx
 ·have:=(Tr.ed_root h.gt.dj h.gt.z hA).2
  subst this;rcases Tr.pth_root (k:=key) (g.V c) with e | e
  ·exact e
  ·exact absurd hd (hg _ e.1)
 ·obtain ⟨q,hq⟩:=Tr.pth_nod hx;rw [<- hs,sd_nod h.ag hq] at hA;rcases Tr.pth_step h.gt.dj h.gt.z hx hq hA with e | e
  ·exact e
  ·exact absurd hd (hg _ e)
theorem InvN.inn (h : InvN g M c r ts) (hx : (g.V c).Has x) : (Ln M x = 2 ↔ (g.V c).Inn x)/\Us M x/\(Ln M x = 0\/Ln M x = 2):=by
 rcases Tr.has_or hx with ⟨q,hq⟩ | ⟨q,w,hq⟩
 ·have:=h.ag.n x q hq; have:=Tr.nod_inn hq; grind
 ·have:=h.ag.l x q w hq
  have e : ¬ (g.V c).Inn x:=fun hi=>Tr.inn_lea h.gt.dj hi _ _ hq
  grind
theorem InvN.hasRe (h : InvN g M c r ts) (ho : InvO M c r ts) (hx : (g.V c).Has x) : ¬ Re M x/\¬ InSw r x:=by
 have:=h.tn x hx
 have e : ¬ Re M x:=by simp only [Re]; grind
 exact ⟨e,fun hh=>e (ho.sw x hh).1⟩
theorem Inv.link (h : Inv g P) (ht : P.ts[i]? = some t) (hb : t.busy = true) (hn : t.work.next = 10) : Inv g { P with mem:=P.mem.lead t.work.tsrc t.work.tside,ts:=P.ts.set i { t with work:={ t.work with next:=11 } } }:=by
 have hT:=h.th i t ht;have m:=h.mine ht hb (by omega) (by omega);obtain ⟨m1,m2,m3,m4,m5,m6⟩:=m.ts (by omega) (by omega);have hs9:=hT.s9 hb (by omega) (by omega);have htt:=hT.tt hb (by omega) (by omega);have hH:=h.heldGd ht m1 m2;have hlk:=h.hasLink (s:=t.work.tside) hH (by intro e; rw [m4,e]; exact sd0 h.n.n0.2.1 _)
 -- where it leads
 obtain ⟨d0,hp,ha,hB,hd⟩ : ∃ d0,Pd P.mem t.work.tsrc t.work.tside = [d0]/\A (g.V P.clock) t.work.tsrc t.work.tside d0/\(Ln P.mem d0 = 2->g.B t.work.tsrc < g.B d0)/\(¬ Ex P.ts (Fr d0)\/Fr d0 t):=by
  rcases m.kd with k1 | k2
  ·obtain ⟨a,n,q⟩:=hT.f10 hb k1 hn;have e1:=m5 k1;refine ⟨n,?_,?_,?_,.inr ⟨hb,k1,.inr hn,by rw [q.md]; simp⟩⟩
   ·rw [m4,e1]; exact q.ps
   ·rw [m4,e1]; exact q.as1
   ·intro _; rw [e1]; exact q.bn
  ·obtain ⟨q1,q2,q3⟩:=hT.q8 hb k2 (by omega) (by omega);have q:=(hT.q9 hb k2 (.inr (.inl hn))).1;have e1:=m6 k2;have hA:=m.ab (m.mt k2 (.inl (by omega)));have hSt:=h.heldGd ht m.us m.hs;have p1:=h.n.ph t.work.stand (!sd P.mem t.work.stand t.work.key) hSt (fun e=>absurd e hA.2.2.1);have hAb:=h.heldGd ht hA.1 hA.2.1;have p2:=h.n.ph t.work.above (sd P.mem t.work.above t.work.key) hAb (by intro e; rw [e]; exact sd0 h.n.n0.2.1 _);rw [q2] at p2;refine ⟨Ld P.mem t.work.stand (!sd P.mem t.work.stand t.work.key),?_,?_,?_,.inl p1.1.2⟩
   ·rw [m4,e1]; exact q1
   ·rw [m4,e1]; exact q.a
   ·intro hl; rw [e1]; have e2:=p2.2.1 hA.2.2.2.2; have e3:=p1.2.1 hl; omega
 rw [lead_e hp hlk];have hnd:=node_modN (hasN_used m1) (fun x=>{ x with leads:=upd x.leads t.work.tside d0 });have w1 : Wm (P.mem.modN t.work.tsrc fun x=>{ x with leads:=upd x.leads t.work.tside d0 }):=h.wm.modN m1 _ m1;have w2:=modN_ents P.mem t.work.tsrc (fun x=>{ x with leads:=upd x.leads t.work.tside d0 });generalize (P.mem.modN t.work.tsrc fun x=>{ x with leads:=upd x.leads t.work.tside d0 }) = M1 at *;have u1 : ∀ x,(M1.node x).used = (P.mem.node x).used:=fun x=>by rw [hnd]; split; (next e=>rw [e]); rfl
 have u2 : ∀ x,(M1.node x).retired = (P.mem.node x).retired:=fun x=>by rw [hnd]; split; (next e=>rw [e]); rfl
 have u3 : ∀ x,(M1.node x).retiredAt = (P.mem.node x).retiredAt:=fun x=>by rw [hnd]; split; (next e=>rw [e]); rfl
 have u4 : ∀ x,(M1.node x).key = (P.mem.node x).key:=fun x=>by rw [hnd]; split; (next e=>rw [e]); rfl
 have u6 : ∀ x,(M1.node x).links = (P.mem.node x).links:=fun x=>by rw [hnd]; split; (next e=>rw [e]); rfl
 have u7 : ∀ x,(M1.node x).value = (P.mem.node x).value:=fun x=>by rw [hnd]; split; (next e=>rw [e]); rfl
 have u8 : ∀ x,(M1.node x).holder = (P.mem.node x).holder:=fun x=>by rw [hnd]; split; (next e=>rw [e]); rfl
 have u9 : ∀ x,(M1.node x).dead = (P.mem.node x).dead:=fun x=>by rw [hnd]; split; (next e=>rw [e]); rfl
 have u5 : ∀ x s,Ld M1 x s = if x = t.work.tsrc/\s = t.work.tside then d0 else Ld P.mem x s:=by
  intro x s;simp only [Ld];rw [hnd];by_cases e : x = t.work.tsrc
  ·subst e;rw [if_pos rfl];show upd _ _ _ s = _;unfold upd;by_cases e2 : s = t.work.tside <;> simp [e2]
  ·rw [if_neg e,if_neg (fun q=>e q.1)]
 have usd : ∀ x k,sd M1 x k = sd P.mem x k:=fun x k=>sd_congr (u4 x) (u6 x)
 have hpd:=fun x s=>pd_es (M:=P.mem) (M':=M1) w2 x s
 have hsd:=fun x s st d=>sd_es (M:=P.mem) (M':=M1) w2 x s st d
 have fr8 : ∀ x,Ex (P.ts.set i { t with work:={ t.work with next:=11 } }) (Fr8 x) ↔ Ex P.ts (Fr8 x):=fun x=>ex_iff ht (iff_of_false (by rintro ⟨_,_,e,_⟩; have : (11 : Nat) = 8:=e; omega) (by rintro ⟨_,_,e,_⟩; omega))
 have nf' : ∀ x,¬ Fr x { t with work:={ t.work with next:=11 } }:=by rintro x ⟨_,_,e,_⟩; have : (11 : Nat) = 8\/(11 : Nat) = 10:=e; omega
 have fr : ∀ x,Ex (P.ts.set i { t with work:={ t.work with next:=11 } }) (Fr x)->Ex P.ts (Fr x)/\¬ Fr x t:=by
  intro x hx;rcases (Ex.get ht).1 hx with e | ⟨j,u,e1,e2,e3⟩
  ·exact absurd e (nf' x)
  ·exact ⟨⟨j,u,e2,e3⟩,fun hf=>e1 (h.o.pw j i u t x e2 ht e3 hf)⟩
 have tk : ∀ x,Ex (P.ts.set i { t with work:={ t.work with next:=11 } }) (Tk x) ↔ Ex P.ts (Tk x):=fun x=>ex_iff ht (iff_of_false (by rintro ⟨_,_,e,_⟩; have : (11 : Nat) = 9:=e; omega) (by rintro ⟨_,_,e,_⟩; omega))
 have own : ∀ x,Ex (P.ts.set i { t with work:={ t.work with next:=11 } }) (Own x) ↔ Ex P.ts (Own x):=fun x=>ex_iff ht ⟨fun ⟨a1,a2,a3,a4⟩=>⟨a1,a2,.inl hn,a4⟩,fun ⟨a1,a2,a3,a4⟩=>⟨a1,a2,.inr (.inl rfl),a4⟩⟩
 have pair : ∀ x y,Ex (P.ts.set i { t with work:={ t.work with next:=11 } }) (Pair x y) ↔ Ex P.ts (Pair x y):=fun x y=>ex_iff ht ⟨fun ⟨a1,a2,a3,a4⟩=>⟨a1,a2,.inr (.inl hn),a4⟩,fun ⟨a1,a2,a3,a4⟩=>⟨a1,a2,.inr (.inr (.inl rfl)),a4⟩⟩
 have pn : ∀ x s,Ex (P.ts.set i { t with work:={ t.work with next:=11 } }) (fun t=>Pn x s t\/Fr8 x t) ↔ Ex P.ts (fun t=>Pn x s t\/Fr8 x t):=by
  intro x s;refine ex_iff ht ⟨?_,?_⟩
  ·rintro (⟨a1,a2,a3,a4,a5⟩ | ⟨_,_,e,_⟩)
   ·exact .inl ⟨a1,a2,by omega,by omega,a5⟩
   ·have : (11 : Nat) = 8:=e; omega
  ·rintro (⟨a1,a2,a3,a4,a5⟩ | ⟨_,_,e,_⟩)
   ·exact .inl ⟨a1,a2,by show 8<=11; omega,by show 11<=11; omega,a5⟩
   ·omega
 have hga : ∀ x,Gd g P.clock P.ts x->Gd g P.clock (P.ts.set i { t with work:={ t.work with next:=11 } }) x:=fun x hx=>⟨hx.1,fun hh=>hx.2 (fr x hh).1⟩
 have hgf : ∀ x,Gd g P.clock (P.ts.set i { t with work:={ t.work with next:=11 } }) x->Gd g P.clock P.ts x\/Fr x t:=by
  intro x hx;by_cases e : Fr x t
  ·exact .inr e
  ·left;refine ⟨hx.1,fun hh=>?_⟩;rcases hh.or ht with q | ⟨j,u,q1,q2,q3⟩
   ·exact e q
   ·exact hx.2 (Ex.other q2 q3 q1)
 have hgd0 : Gd g P.clock (P.ts.set i { t with work:={ t.work with next:=11 } }) d0:=by
  refine ⟨.inr (Tr.ed_has ha).1,fun hh=>?_⟩;obtain ⟨q1,q2⟩:=fr d0 hh;rcases hd with e | e
  ·exact e q1
  ·exact q2 e
 have hx0 : t.work.tsrc = 0\/(g.V P.clock).Inn t.work.tsrc:=(Tr.ed_has ha).2;have hgr : Gro g g P.mem M1 P.clock P.clock P.ts (P.ts.set i { t with work:={ t.work with next:=11 } }) i:=by
  refine ⟨Int.le_refl _,hga,?_,?_⟩
  ·intro x hx;simp only [Us,Ky,Ln,Re,Ra,u1,u2,u3,u4,u6];exact ⟨h.usedGd hx,trivial,trivial,trivial,fun _ h=>h,fun hr=>.inl ⟨hr,trivial⟩⟩
  ·intro x hx;simp only [Us,Ho,u1,u8] at hx ⊢;exact ⟨fun h=>⟨hx,h⟩,fun h=>h.2⟩
 refine h.build (c':=P.clock) ht ?_ w1 ?_ ?_ ?_ ?_
 ·-- the others
  intro j u hne hj;have nd : ∀ x,x≠t.work.tsrc->M1.node x = P.mem.node x:=fun x e=>by rw [hnd,if_neg e]
  refine h.rel hj (fun x hx=>.inl (fr x hx).1) ?_ ?_ ?_ ?_
  ·intro x hx
   have:=hgr.gn x hx
   exact ⟨this.1,this.2.1,this.2.2.1,this.2.2.2.2.2⟩
  ·intro x hx;exact ⟨nd x (fun e=>h.notOther ht hj hne ⟨m1,m2⟩ (e ▸ hx)),fun s=>hpd x s,fun s st d=>(hsd x s st d).1⟩
  ·intro x y hp;exact nd y (fun e=>(h.pairNot ht hj hp).1 (e ▸ ⟨m1,m2⟩))
  ·intro x hx;simp only [Us,Ho,u1,u8] at hx ⊢;exact ⟨fun h=>⟨hx,h⟩,fun h=>h.2⟩
 ·-- the nodes
  have hon:=fun k=>h.n.on (key:=k) ha
  have hinn:=fun x=>h.n.inn (x:=x)
  have hre:=fun x=>h.n.hasRe (x:=x) h.o
  -- a new inner node's links
  have hnew : ∀ x,Fr x t->Ln P.mem x = 2->x≠t.work.tsrc/\∀ s,(g.V P.clock).Has (Ld P.mem x s)/\Ln P.mem (Ld P.mem x s) = 0/\Gd g P.clock (P.ts.set i { t with work:={ t.work with next:=11 } }) (Ld P.mem x s):=by
   rintro x ⟨_,k1,_,hm⟩ hl;obtain ⟨a,n,q⟩:=hT.f10 hb k1 hn;have qh:=q.h;rw [q.md] at hm;have hxn : x = n:=by
    simp at hm;rcases hm with e | e
    ·rw [e] at hl; omega
    ·exact e
   subst hxn;refine ⟨fun e=>?_,fun s=>?_⟩
   ·have:=qh.2.2.1
    rw [e,m2] at this; omega
   ·have h1:=q.ld s;have h2:=q.an s;rw [h1];refine ⟨(Tr.ed_has h2).1,?_,⟨.inr (Tr.ed_has h2).1,fun hh=>?_⟩⟩
    ·unfold kid; split
     ·exact qh.1
     ·exact m.al
    ·obtain ⟨e1,e2⟩:=fr _ hh;unfold kid at e1 e2;split at e1
     ·next e=>rw [if_pos e] at e2; exact e2 ⟨hb,k1,.inr hn,by rw [q.md]; simp⟩
     ·exact m.ah.2 e1
  have hOsrc : ¬ g.O t.work.tsrc:=by
   intro hO;have e:=h.n.ou _ hO;rcases hx0 with e2 | e2
   ·exact e.2.2.1 e2
   ·exact e.2.1 (Tr.inn_has e2)
  obtain ⟨gt,⟨ag1,ag2⟩,n0,tn,us,ou,od,ot,re,ro,lk,ph,pr,pp,rg,bd⟩:=h.n;refine ⟨gt,⟨?_,?_⟩,?_,?_,?_,?_,?_,?_,?_,?_,?_,?_,?_,?_,rg,bd⟩
  ·simp only [Us,Ln,Ky,u1,u4,u6] at *; exact ag1
  ·simp only [Us,Ln,Ky,u1,u4,u6,u7] at *; exact ag2
  ·simp only [Us,Ln,u1,u6,u2,u9] at *; exact n0
  ·intro x hx; simp only [u9,u2]; exact tn x hx
  ·intro x hx;simp only [Us,u1] at hx;rw [fr8]; exact us x hx
  ·intro x hx;simp only [Us,Ln,u1,u6]; exact ou x hx
  ·intro x hx;simp only [De,u9] at hx; exact od x hx
  ·intro x hx;simp only [De,u9]; rw [tk]; exact ot x hx
  ·intro x hx;simp only [De,Re,Ra,u9,u2,u3] at hx ⊢; exact re x hx
  ·intro x hx;simp only [De,Re,u9,u2] at hx ⊢; rw [own]; exact ro x hx
  ·intro x s d hd';rw [u5];by_cases e : x = t.work.tsrc/\s = t.work.tside
   ·rw [if_pos e];left;obtain ⟨rfl,rfl⟩:=e;exact Tr.ed_fn gt.dj gt.z ha hd'
   ·rw [if_neg e];rcases lk x s d hd' with q | q
    ·exact .inl q
    ·right;rcases q.or ht with q | ⟨j,u,q1,q2,q3⟩
     ·obtain ⟨_,_,_,e1,e2⟩:=q;exact absurd ⟨e1.symm,e2.symm⟩ e
     ·exact Ex.other q2 q3 q1
  ·intro x s hx hs;rw [u5];simp only [Ln,u6] at hx ⊢;simp only [Re,Ra,u2,u3];by_cases e : x = t.work.tsrc/\s = t.work.tside
   ·rw [if_pos e];obtain ⟨rfl,rfl⟩:=e
    have:=hre d0 (Tr.ed_has ha).1
    exact ⟨hgd0,hB,fun hr=>absurd hr this.1,fun hr=>absurd hr this.2⟩
   ·rw [if_neg e];rcases (show (x = 0\/(Ln P.mem x = 2/\Gd g P.clock P.ts x))\/(Fr x t/\Ln P.mem x = 2) by
     rcases hx with hx | hx
     ·exact .inl (.inl hx)
     ·rcases hgf x hx.2 with q | q
      ·exact .inl (.inr ⟨hx.1,q⟩)
      ·exact .inr ⟨q,hx.1⟩) with hx | hx
    ·have:=ph x s hx hs
     exact ⟨hga _ this.1,this.2⟩
    ·obtain ⟨n1,n2⟩:=hnew x hx.1 hx.2;obtain ⟨n3,n4,n5⟩:=n2 s
     have:=hre _ n3
     exact ⟨n5,fun q=>by simp only [Ln] at n4; omega,fun hr=>absurd hr this.1,fun hr=>absurd hr this.2⟩
  ·intro x s k hx hR hs;rw [u5];rw [usd] at hs;simp only [Ln,u6] at hx ⊢;by_cases e : x = t.work.tsrc/\s = t.work.tside
   ·rw [if_pos e];obtain ⟨rfl,rfl⟩:=e;intro hl;have hi:=(hinn d0 (Tr.ed_has ha).1).1.1 hl;rw [rg d0 k hi];refine hon k ?_ hs hi;rcases hx0 with q | q
    ·exact .inl q
    ·rcases hR with q2 | q2
     ·exact .inl q2
     ·exact .inr ((rg _ k q).1 q2)
   ·rw [if_neg e];intro hl;rcases (show (x = 0\/(Ln P.mem x = 2/\Gd g P.clock P.ts x))\/(Fr x t/\Ln P.mem x = 2) by
     rcases hx with hx | hx
     ·exact .inl (.inl hx)
     ·rcases hgf x hx.2 with q | q
      ·exact .inl (.inr ⟨hx.1,q⟩)
      ·exact .inr ⟨q,hx.1⟩) with hx | hx
    ·exact pr x s k hx hR hs hl
    ·obtain ⟨n1,n2⟩:=hnew x hx.1 hx.2
     have:=(n2 s).2.1
     simp only [Ln] at this; omega
  ·intro x s hO hl;rw [u5,if_neg (fun (e : x = t.work.tsrc/\s = t.work.tside)=>hOsrc (e.1 ▸ hO))];simp only [Ln,Re,u6,u2,pair] at *; exact pp x s hO hl
 ·refine ⟨?_,?_⟩
  ·intro x s st d hd;simp only [Us,Ln,u1,u6]; exact h.e.ms x s st d ((hsd _ _ _ _).1 hd)
  ·intro x s d hd;rw [hpd] at hd;exact (pn x s).2 (h.e.pd x s d hd)
 ·refine h.o.keep ht (Int.le_refl _) (fun x hx=>absurd hx (nf' x)) (fun x y hx=>?_) ?_ ?_
  ·obtain ⟨a1,a2,a3,a4⟩:=hx; exact .inl ⟨a1,a2,.inr (.inl hn),a4⟩
  ·intro x hx; simp only [Us,Ho,u1,u8] at hx ⊢; exact .inr ⟨hx,trivial⟩
  ·intro x _ hr; simp only [Re,Ra,u2,u3] at *; exact ⟨hr,trivial⟩
 ·refine hT.own (k:={ t.work with next:=11 }) h.n.one.1 hb (by omega) (by omega) hgr ⟨rfl,rfl,rfl,rfl,rfl,rfl,rfl,rfl,rfl⟩ (by show 6<=11; omega) (by show 11<=12; omega) (fun e=>by have : 11<=7:=e; omega) (fun e=>by have : 11 = 9:=e; omega) ?_ (fun _ e=>by have : 11<=8:=e; omega) ?_ (fun _ e=>by have : 11 = 8:=e; omega) (fun _ e=>by have : 11 = 10:=e; omega) (fun _ _ e=>by have : 11<=10:=e; omega) ?_ ?_ ?_
  ·intro _ _; simp only [Ky,u4]; exact hT.c7 hb (by omega) (by omega)
  ·intro _ _; simp only [usd]; exact htt
  ·intro k2 _;have k2 : t.work.kind = 2:=k2;obtain ⟨q,qd⟩:=hT.q9 hb k2 (.inr (.inl hn));have qd:=qd (by omega);have hA:=m.ab (m.mt k2 (.inl (by omega)));have ne : t.work.stand≠t.work.tsrc:=by rw [m6 k2]; exact fun e=>hA.2.2.2.1 e.symm
   refine ⟨⟨q.o,?_,?_,?_,?_,?_⟩,fun _=>?_⟩
   ·simp only [u2]; exact q.re
   ·simp only [usd]; rw [u5,if_neg (fun e=>ne e.1)]; exact q.ld
   ·simp only [usd]; rw [u5,if_neg (fun e=>ne e.1)]; exact q.a
   ·simp only [Ky,u4]; exact q.ky
   ·simp only [Ln,u6]; exact q.ln
   ·simp only [De,u9]; exact qd
  ·intro _; show Pd M1 t.work.tsrc t.work.tside = [Ld M1 t.work.tsrc t.work.tside];rw [hpd,u5,if_pos ⟨rfl,rfl⟩]; exact hp
  ·intro _ _; exact ⟨hs9.1,hs9.2.1,hs9.2.2.1,hs9.2.2.2.1,fun s d hh=>hs9.2.2.2.2 s d ((hsd _ _ _ _).1 hh)⟩
end
end T
end
end Go.Proofs.YtfccelbmacjifabGreat
