import Derived.Test.YtfccelbmacjifabGreatP0
import Derived.Test.YtfccelbmacjifabGreatP6
set_option linter.unusedSimpArgs false
set_option maxRecDepth 100000
set_option maxHeartbeats 4000000
namespace Go.Proofs.YtfccelbmacjifabGreat
section
namespace T
section
variable {g g' : Gh} {M M' : PMem} {c c' : Int} {r : PSweep} {i j : Nat} {t t' u : PThread} {ts ts' : List PThread} {P : PSt} {x d : Int} {s : Bool} {key : Int} {k : PWork}
theorem InvN.two (h : InvN g M c r ts) {a n : Int} (hab : ¬ g.O a/\¬ g.O n/\¬ (g.V c).Has a/\¬ (g.V c).Has n/\a≠0/\n≠0) (hn : ∀ x,x≠a->x≠n->M'.node x = M.node x)
  (ha : (M'.node a).dead = false/\(M'.node a).retired = false) (hb : (M'.node n).dead = false/\(M'.node n).retired = false)
  (us : ∀ x,Us M' x->x = 0\/(g.V c).Has x\/g.O x\/Ex ts' (Fr8 x)) (gd : ∀ x,Gd g c ts' x ↔ Gd g c ts x) (s3 : ∀ x,Ex ts' (Tk x) ↔ Ex ts (Tk x)) (s4 : ∀ x,Ex ts' (Own x) ↔ Ex ts (Own x)) (s5 : ∀ x y,Ex ts' (Pair x y) ↔ Ex ts (Pair x y)) (s6 : ∀ x s,Ex ts' (Xl x s) ↔ Ex ts (Xl x s)) : InvN g M' c r ts':=by
 have nH : ∀ x,(g.V c).Has x->M'.node x = M.node x:=fun x hx=>hn x (fun e=>hab.2.2.1 (e ▸ hx)) (fun e=>hab.2.2.2.1 (e ▸ hx))
 have nO : ∀ x,g.O x->M'.node x = M.node x:=fun x hx=>hn x (fun e=>hab.1 (e ▸ hx)) (fun e=>hab.2.1 (e ▸ hx))
 have n0' : M'.node 0 = M.node 0:=hn 0 (fun e=>hab.2.2.2.2.1 e.symm) (fun e=>hab.2.2.2.2.2 e.symm);have nG : ∀ x,x = 0\/Gd g c ts x->M'.node x = M.node x:=by
  rintro x (rfl | ⟨e | e,_⟩)
  ·exact n0'
  ·exact nO x e
  ·exact nH x e
 have nD : ∀ x,De M' x->De M x/\M'.node x = M.node x:=by
  intro x hx;by_cases e1 : x = a
  ·subst e1; simp only [De] at hx; rw [ha.1] at hx; cases hx
  ·by_cases e2 : x = n
   ·subst e2; simp only [De] at hx; rw [hb.1] at hx; cases hx
   ·have:=hn x e1 e2
    exact ⟨by simp only [De] at hx ⊢; rw [<- this]; exact hx,this⟩
 have nR : ∀ x,Re M' x->M'.node x = M.node x:=by
  intro x hx;by_cases e1 : x = a
  ·subst e1; simp only [Re] at hx; rw [ha.2] at hx; cases hx
  ·by_cases e2 : x = n
   ·subst e2; simp only [Re] at hx; rw [hb.2] at hx; cases hx
   ·exact hn x e1 e2
 obtain ⟨gt,⟨ag1,ag2⟩,n0,tn,_,ou,od,ot,re,ro,lk,ph,pr,pp,rg,bd⟩:=h;refine ⟨gt,⟨?_,?_⟩,?_,?_,us,?_,?_,?_,?_,?_,?_,?_,?_,?_,rg,bd⟩
 ·intro x q hq; simp only [Us,Ln,Ky]; rw [nH x (Tr.nod_has hq)]; exact ag1 x q hq
 ·intro x q w hq; simp only [Us,Ln,Ky]; rw [nH x (Tr.lea_has hq)]; exact ag2 x q w hq
 ·simp only [Us,Ln]; rw [n0']; exact n0
 ·intro x hx; rw [nH x hx]; exact tn x hx
 ·intro x hx; simp only [Us,Ln]; rw [nO x hx]; exact ou x hx
 ·intro x hx; exact od x (nD x hx).1
 ·intro x hx; simp only [De]; rw [nO x hx,s3]; exact ot x hx
 ·intro x hx;have e:=nR x hx;simp only [Re,Ra,De] at hx ⊢;rw [e] at hx ⊢; exact re x hx
 ·intro x hx;obtain ⟨e1,e2⟩:=nD x hx;simp only [Re]; rw [e2,s4]; exact ro x e1
 ·intro x s d hd;have e : M'.node x = M.node x:=by
   rcases (Tr.ed_has hd).2 with rfl | e
   ·exact n0'
   ·exact nH x (Tr.inn_has e)
  simp only [Ld]; rw [e,s6]; exact lk x s d hd
 ·intro x s hx hs;rw [gd] at hx;have e : M'.node x = M.node x:=by
   rcases hx with hx | hx
   ·exact nG x (.inl hx)
   ·exact nG x (.inr hx.2)
  simp only [Ln,Ld] at hx ⊢;rw [e] at hx ⊢
  have:=ph x s hx hs
  have e2:=nG _ (.inr this.1);simp only [Re,Ra];simp only [Ld] at e2;rw [gd,e2,e]; exact this
 ·intro x s k hx hR hsd;rw [gd] at hx;have e : M'.node x = M.node x:=by
   rcases hx with hx | hx
   ·exact nG x (.inl hx)
   ·exact nG x (.inr hx.2)
  have esd : sd M' x k = sd M x k:=sd_congr (by simp only [Ky]; rw [e]) (by simp only [Ln]; rw [e]);rw [esd] at hsd;simp only [Ln,Ld] at hx ⊢;rw [e] at hx ⊢;have hs0 : x = 0->s = false:=fun e0=>by rw [<- hsd,e0]; exact sd0 n0.2.1 k
  have:=ph x s hx hs0
  have e2:=nG _ (.inr this.1);simp only [Ld] at e2;rw [e2]; exact pr x s k hx hR hsd
 ·intro x s hO;have e:=nO x hO;simp only [Ln,Ld,Re];rw [e];intro hl hd;rw [s5]; exact pp x s hO hl hd
theorem Inv.prepInsert (h : Inv g P) (ht : P.ts[i]? = some t) (hb : t.busy = true) (hn : t.work.next = 7) (k1 : t.work.kind = 1) (hr1 : 2<=P.mem.room.1) (hr2 : 3<=P.mem.room.2) : Inv g ((P.setM (P.prepareInsert t.work).1).setW i { (P.prepareInsert t.work).2 with next:=8 }):=by
 have hT:=h.th i t ht;have m:=h.mine ht hb (by omega) (by omega);obtain ⟨e1,e2,_⟩:=hT.e7 hb (by omega) (by omega);obtain ⟨a,n,M1,hpr,ua,un,ne,w1,nd,na,nn,w3,w4⟩:=h.grown ht hb hn k1 hr1 hr2;rw [hpr];simp only;rw [setMW_to P ht];obtain ⟨k',hk'⟩ : ∃ k' : PWork,k' = { t.work with made:=[a,n],tsrc:=t.work.stand,tside:=sd P.mem t.work.stand t.work.key,next:=8 }:=⟨_,rfl⟩;have hkk : k'.kind = 1:=by rw [hk']; exact k1
 have hkn : k'.next = 8:=by rw [hk']
 have hkm : k'.made = [a,n]:=by rw [hk']
 rw [show ({ t.work with made:=[a,n],tsrc:=t.work.stand,tside:=sd P.mem t.work.stand t.work.key,next:=8 } : PWork) = k' from hk'.symm];have usd : ∀ x,Us P.mem x->x≠a/\x≠n/\M1.node x = P.mem.node x:=fun x hx=>⟨fun e=>ua (e ▸ hx),fun e=>un (e ▸ hx),nd x (fun e=>ua (e ▸ hx)) (fun e=>un (e ▸ hx))⟩
 have gU : ∀ x,x = 0\/Gd g P.clock P.ts x->Us P.mem x:=fun x hx=>h.usedGd hx
 have hOH : ¬ g.O a/\¬ g.O n/\¬ (g.V P.clock).Has a/\¬ (g.V P.clock).Has n/\a≠0/\n≠0:=by
  refine ⟨fun q=>ua (h.n.ou a q).1,fun q=>un (h.n.ou n q).1,fun q=>ua (h.n.inn q).2.1,fun q=>un (h.n.inn q).2.1,fun e=>ua (e ▸ h.n.n0.1),fun e=>un (e ▸ h.n.n0.1)⟩
 have off : ∀ {p : PThread->Prop},(p { t with work:=k' }->False)->(p t->False)->(Ex (P.ts.set i { t with work:=k' }) p ↔ Ex P.ts p):=fun a b=>ex_iff ht (iff_of_false a b)
 have nFr : ∀ x,¬ Fr x t:=by rintro x ⟨_,_,e,_⟩; omega
 have fr : ∀ x,Ex (P.ts.set i { t with work:=k' }) (Fr x)->Ex P.ts (Fr x)\/¬ Us P.mem x:=by
  intro x hx;rcases (Ex.get ht).1 hx with ⟨_,_,_,e⟩ | ⟨j,u,q1,q2,q3⟩
  ·right;have e : x ∈ k'.made:=e;rw [hkm] at e; simp at e;rcases e with rfl | rfl
   ·exact ua
   ·exact un
  ·exact .inl ⟨j,u,q2,q3⟩
 have tk : ∀ x,Ex (P.ts.set i { t with work:=k' }) (Tk x) ↔ Ex P.ts (Tk x):=fun x=>off (by rintro ⟨_,_,e,_⟩; have : k'.next = 9:=e; omega) (by rintro ⟨_,_,e,_⟩; omega)
 have own : ∀ x,Ex (P.ts.set i { t with work:=k' }) (Own x) ↔ Ex P.ts (Own x):=fun x=>off (by rintro ⟨_,e,_⟩; have : k'.kind = 2:=e; omega) (by rintro ⟨_,e,_⟩; omega)
 have pair : ∀ x y,Ex (P.ts.set i { t with work:=k' }) (Pair x y) ↔ Ex P.ts (Pair x y):=fun x y=>off (by rintro ⟨_,e,_⟩; have : k'.kind = 2:=e; omega) (by rintro ⟨_,e,_⟩; omega)
 have xl : ∀ x s,Ex (P.ts.set i { t with work:=k' }) (Xl x s) ↔ Ex P.ts (Xl x s):=fun x s=>off (by rintro ⟨_,_,e,_⟩; have : k'.next = 9\/k'.next = 10:=e; omega) (by rintro ⟨_,_,e,_⟩; omega)
 have hgd : ∀ x,Gd g P.clock (P.ts.set i { t with work:=k' }) x ↔ Gd g P.clock P.ts x:=by
  intro x;constructor
  ·rintro ⟨q1,q2⟩; exact ⟨q1,fun q=>q2 (q.set ht (fun e=>absurd e (nFr x)))⟩
  ·intro q; exact ⟨q.1,fun q2=>by rcases fr x q2 with e | e; exact q.2 e; exact e (gU x (.inr q))⟩
 have hgr : Gro g g P.mem M1 P.clock P.clock P.ts (P.ts.set i { t with work:=k' }) i:=by
  refine ⟨Int.le_refl _,fun x hx=>(hgd x).2 hx,?_,?_⟩
  ·intro x hx;have hu:=gU x hx;have e:=(usd x hu).2.2;simp only [Us,Ky,Ln,Re,Ra]; rw [e];exact ⟨hu,by first | rfl | trivial,by first | rfl | trivial,by first | rfl | trivial,fun _ h=>h,fun hr=>.inl ⟨hr,by first | rfl | trivial⟩⟩
  ·intro x hx;by_cases ea : x = a
   ·subst ea;simp only [Ho]; rw [na];exact ⟨fun e=>by have : (-1 : Int) = i:=e; omega,fun e=>absurd e.1 ua⟩
   ·by_cases en : x = n
    ·subst en;simp only [Ho]; rw [nn];exact ⟨fun e=>by have : (-1 : Int) = i:=e; omega,fun e=>absurd e.1 un⟩
    ·have e:=nd x ea en;simp only [Us,Ho] at hx ⊢; rw [e] at hx ⊢;exact ⟨fun h=>⟨hx,h⟩,fun h=>h.2⟩
 have hdist : t.work.stand≠a/\t.work.stand≠n/\t.work.ahead≠a/\t.work.ahead≠n:=by
  have q1:=usd _ m.us; have q2:=usd _ (gU _ (.inr m.ah)); exact ⟨q1.1,q1.2.1,q2.1,q2.2.1⟩
 have nst:=nd _ hdist.1 hdist.2.1;have nah:=nd _ hdist.2.2.1 hdist.2.2.2;have esd : sd M1 t.work.stand t.work.key = sd P.mem t.work.stand t.work.key:=sd_congr (by simp only [Ky]; rw [nst]) (by simp only [Ln]; rw [nst]);refine h.build (c':=P.clock) ht ?_ w1 ?_ ?_ ?_ ?_
 ·intro j u hne hj;refine h.rel hj fr ?_ ?_ ?_ ?_
  ·intro x hx
   have:=hgr.gn x hx
   exact ⟨this.1,this.2.1,this.2.2.1,this.2.2.2.2.2⟩
  ·intro x hx;have hu : Us P.mem x:=by
    rcases hx with e | e
    ·exact e.1
    ·exact (h.freshUs hj e).1
   have e:=usd x hu;have hns : x≠t.work.stand:=fun e=>h.notOther ht hj hne ⟨m.us,m.hs⟩ (e ▸ hx)
   exact ⟨e.2.2,fun s=>by rw [w3,if_neg (fun q=>hns q.1),if_neg e.2.1],fun s st d=>(w4 x s st d).1⟩
  ·intro x y hp;exact (usd y (h.pairNot ht hj hp).2.2.2.2.2).2.2
  ·intro x hx;by_cases ea : x = a
   ·subst ea;simp only [Ho]; rw [na];exact ⟨fun e=>by have : (-1 : Int) = j:=e; omega,fun e=>absurd e.1 ua⟩
   ·by_cases en : x = n
    ·subst en;simp only [Ho]; rw [nn];exact ⟨fun e=>by have : (-1 : Int) = j:=e; omega,fun e=>absurd e.1 un⟩
    ·have e:=nd x ea en;simp only [Us,Ho] at hx ⊢; rw [e] at hx ⊢;exact ⟨fun h=>⟨hx,h⟩,fun h=>h.2⟩
 ·refine h.n.two hOH nd (by rw [na]; exact ⟨rfl,rfl⟩) (by rw [nn]; exact ⟨rfl,rfl⟩) ?_ hgd tk own pair xl;intro x hx;by_cases ea : x = a\/x = n
  ·right; right; right;refine Ex.new ht ⟨hb,hkk,hkn,?_⟩;show x ∈ k'.made;rw [hkm]; simp; exact ea
  ·simp only [not_or] at ea;have e:=nd x ea.1 ea.2;simp only [Us] at hx; rw [e] at hx;rcases h.n.us x hx with q | q | q | q
   ·exact .inl q
   ·exact .inr (.inl q)
   ·exact .inr (.inr (.inl q))
   ·exact .inr (.inr (.inr (q.set ht (by rintro ⟨_,_,e,_⟩; omega))))
 ·refine ⟨?_,?_⟩
  ·intro x s st d hd
   have:=h.e.ms x s st d ((w4 x s st d).1 hd)
   simp only [Us,Ln];rw [(usd x this.1).2.2]; exact this
  ·intro x s d hd;rw [w3] at hd;by_cases e : x = t.work.stand/\s = sd P.mem t.work.stand t.work.key
   ·exact Ex.new ht (.inl ⟨hb,.inl hkk,by show 8<=k'.next; omega,by show k'.next<=11; omega,by rw [hk',e.1],by rw [hk',e.2]⟩)
   ·rw [if_neg e] at hd;by_cases en : x = n
    ·exact Ex.new ht (.inr ⟨hb,hkk,hkn,by show x ∈ k'.made; rw [hkm]; simp [en]⟩)
    ·rw [if_neg en] at hd;exact (h.e.pd x s d hd).set ht (by rintro (⟨_,_,e,_⟩ | ⟨_,_,e,_⟩) <;> omega)
 ·refine h.o.keep ht (Int.le_refl _) (fun x hx=>?_) (fun x y hx=>?_) ?_ ?_
  ·right;intro j u hj hf;have hu:=(h.freshUs hj hf).1;obtain ⟨_,_,_,e⟩:=hx;have e : x ∈ k'.made:=e;rw [hkm] at e; simp at e;rcases e with rfl | rfl
   ·exact ua hu
   ·exact un hu
  ·obtain ⟨_,e,_⟩:=hx; have : k'.kind = 2:=e; omega
  ·intro x hx;by_cases ea : x = a
   ·left; subst ea; simp only [Ho]; rw [na]; rfl
   ·by_cases en : x = n
    ·left; subst en; simp only [Ho]; rw [nn]; rfl
    ·right;have e:=nd x ea en;simp only [Us,Ho] at hx ⊢; rw [e] at hx ⊢; exact ⟨hx,rfl⟩
  ·intro x _ hr;have hu : Us P.mem x:=by
    have:=(h.n.od x (h.n.re x hr).1)
    exact (h.n.ou x this).1
   simp only [Re,Ra] at *; rw [(usd x hu).2.2]; exact ⟨hr,rfl⟩
 ·refine hT.own (k:=k') h.n.one.1 hb (by omega) (by omega) hgr (by rw [hk']; exact ⟨rfl,rfl,rfl,rfl,rfl,rfl,rfl,rfl,rfl⟩) (by omega) (by omega) (by omega) (by omega) ?_ ?_ ?_ ?_ (by omega) (by omega) (by omega) (by omega) (by omega)
  ·intro _ _; rw [hk']; show Ky M1 t.work.ahead = t.work.key ↔ t.work.kind = 2; simp only [Ky]; rw [nah]; exact hT.c7 hb (by omega) (by omega)
  ·intro _ _; rw [hk'];show A _ t.work.stand (sd M1 t.work.stand t.work.key) t.work.ahead/\Ld M1 t.work.stand (sd M1 t.work.stand t.work.key) = t.work.ahead/\(t.work.kind = 2->_);rw [esd];simp only [Ld]; rw [nst];exact ⟨e1,e2,fun e=>by omega⟩
  ·intro _ _; rw [hk'];show t.work.stand = (if t.work.kind = 2 then _ else t.work.stand)/\sd P.mem t.work.stand t.work.key = sd M1 t.work.stand t.work.key;rw [esd,if_neg (by omega)]; exact ⟨rfl,rfl⟩
  ·intro _ _;have hkid : ∀ b,kid M1 k' a b = kid P.mem t.work a b:=by
    intro b;have e : Ky M1 t.work.ahead = Ky P.mem t.work.ahead:=by simp only [Ky]; rw [nah]
    rw [hk']; unfold kid;show (if decide (Ky M1 t.work.ahead < t.work.key) = b then a else t.work.ahead) = _;rw [e]
   have hpn : ∀ b,Pd M1 n b = [kid P.mem t.work a b]:=fun b=>by rw [w3,if_neg (fun q=>hdist.2.1 q.1.symm),if_pos rfl]
   have nsd : ∀ y,¬ Us P.mem y->∀ b s d,¬ Sd P.mem y b s d:=fun y hy b s d hh=>hy (h.e.ms y b s d hh).1
   refine ⟨a,n,hkm,ne,⟨hOH.2.2.2.2.1,hOH.2.2.2.2.2,fun e=>ua (e ▸ h.n.one.2.1),fun e=>un (e ▸ h.n.one.2.1)⟩,?_,⟨hOH.2.2.1,hOH.2.2.2.1,hOH.1,hOH.2.1⟩,?_,?_,?_,?_,?_,?_,?_,?_⟩
   ·simp only [Us]; rw [na,nn]; exact ⟨rfl,rfl⟩
   ·simp only [Ln,Ky,Ho]; rw [na,hk']; exact ⟨rfl,rfl,rfl,rfl,rfl,rfl⟩
   ·rw [hk'];show _/\_/\Ln M1 n = 2/\Ky M1 n = (if Ky M1 t.work.ahead < t.work.key then t.work.key else Ky M1 t.work.ahead)/\Ho M1 n = -1;simp only [Ln,Ky,Ho]; rw [nn,nah]; exact ⟨rfl,rfl,rfl,rfl,rfl⟩
   ·intro b;rw [hkid];simp only [Ld]; rw [nn];cases b <;> rfl
   ·intro b; rw [hkid]; exact hpn b
   ·intro b;rw [w3,if_neg (fun q=>hdist.1 q.1.symm),if_neg ne];cases hp : Pd P.mem a b with
    | nil=>rfl
    | cons d l =>
     exfalso;obtain ⟨j,u,hj,q | q⟩:=h.e.pd a b d (by rw [hp]; simp)
     ·obtain ⟨b',hk,h8,h11,e1,e2⟩:=q;exact ua (e1 ▸ ((h.mine hj b' (by omega) (by omega)).ts h11 h8).1)
     ·obtain ⟨b',hk,hn',hm⟩:=q;exact ua (h.freshUs hj ⟨b',hk,.inl hn',hm⟩).1
   ·intro b s d hh; exact nsd n un b s d ((w4 _ _ _ _).1 hh)
   ·intro b s d hh; exact nsd a ua b s d ((w4 _ _ _ _).1 hh)
   ·rw [hk'];show Pd M1 t.work.stand (sd M1 t.work.stand t.work.key) = [n];rw [esd,w3,if_pos ⟨rfl,rfl⟩]
theorem Inv.prepare (h : Inv g P) (ht : P.ts[i]? = some t) (hb : t.busy = true) (hn : t.work.next = 7) : Inv g (P.prepare i t.work):=by
 have hT:=h.th i t ht;have hk:=hT.upd hb (by omega) (by omega);unfold PSt.prepare;split
 ·exact h.settle ht hb (.inr hn) rfl
 ·next hroom =>
  rcases hk with hk | hk
  ·have hne : P.needs t.work.kind = (2,3):=by unfold PSt.needs; rw [hk,if_neg (by decide),if_pos h.kind]
   rw [hne] at hroom;simp only [hk,if_true];simp only at hroom;exact h.prepInsert ht hb hn hk (by omega) (by omega)
  ·have hne : P.needs t.work.kind = (0,1):=by unfold PSt.needs; rw [hk,if_pos rfl]
   rw [hne] at hroom;simp only [hk,show ¬ ((2 : Int) = 1) by decide,if_false];simp only at hroom;exact h.prepRemove ht hb hn hk (by omega)
end
end T
end
section
namespace T
section
variable {g g' : Gh} {M M' : PMem} {c c' : Int} {r : PSweep} {i j : Nat} {t t' u : PThread} {ts ts' : List PThread} {P : PSt} {x d : Int} {s : Bool} {key : Int} {k : PWork}
instance (x : Int) (t : PThread) : Decidable (Fr8 x t):=inferInstanceAs (Decidable (_/\_))
theorem Inv.unprep (h : Inv g P) (ht : P.ts[i]? = some t) (hb : t.busy = true) (hn : t.work.next = 8) : ∃ M1 a n,(P.mem.unpend t.work.tsrc t.work.tside).frees t.work.made = M1/\Wm M1 /\
  (∀ x,Fr8 x t ↔ t.work.kind = 1/\(x = a\/x = n))/\(t.work.kind = 1->New g P.mem P.clock t.work a n) /\
  (∀ x,M1.node x = if Fr8 x t then PNode.zero else P.mem.node x)/\(∀ x s,Pd M1 x s = if (x = t.work.tsrc/\s = t.work.tside)\/Fr8 x t then [] else Pd P.mem x s)/\(∀ x s st d,Sd M1 x s st d ↔ Sd P.mem x s st d):=by
 have hT:=h.th i t ht;have m:=h.mine ht hb (by omega) (by omega);obtain ⟨d0,hp⟩:=h.pdOwn ht hb (by omega) (by omega);obtain ⟨w1,w2,w3,w4⟩:=unpend_e h.wm hp;have hnd:=node_ns w1;obtain ⟨M0,hM0⟩ : ∃ M0,M0 = P.mem.unpend t.work.tsrc t.work.tside:=⟨_,rfl⟩;rw [<- hM0] at w1 w2 w3 w4 hnd ⊢;rcases m.kd with k1 | k2
 ·obtain ⟨a,n,q⟩:=hT.f8 hb k1 hn;have hF : ∀ x,Fr8 x t ↔ t.work.kind = 1/\(x = a\/x = n):=by
   intro x;unfold Fr8;rw [q.md]; simp [hb,k1,hn]
  have ua : M0.hasNode a = true:=hasN_used (by rw [hnd]; exact q.ua.1);obtain ⟨a1,a2,a3,a4,a5⟩:=free_e (n:=a) w2 ua ⟨q.z.1,q.z.2.2.1⟩;have un : (M0.free a).hasNode n = true:=by rw [hasN_len a1]; exact hasN_used (by rw [hnd]; exact q.ua.2)
  obtain ⟨b1,b2,b3,b4,b5⟩:=free_e (n:=n) a2 un ⟨q.z.2.1,q.z.2.2.2⟩;refine ⟨(M0.free a).free n,a,n,by rw [q.md]; rfl,b2,hF,fun _=>q,?_,?_,?_⟩
  ·intro x
   have:=hF x
   rw [b3,a3,hnd]
   grind
  ·intro x s
   have:=hF x
   rw [b4,a4,w3]
   grind
  ·intro x s st d;rw [b5,a5,w4];constructor
   ·exact fun h=>h.2.2
   ·intro hh;exact ⟨fun e=>q.sn s st d (e ▸ hh),fun e=>q.sa s st d (e ▸ hh),hh⟩
 ·have hF : ∀ x,¬ Fr8 x t:=by rintro x ⟨_,e,_⟩; omega
  refine ⟨M0,0,0,?_,w2,fun x=>?_,fun e=>by omega,?_,?_,w4⟩
  ·rw [(hT.q8 hb k2 (by omega) (by omega)).2.2]; rfl
  ·exact iff_of_false (hF x) (fun e=>by omega)
  ·intro x; rw [if_neg (hF x)]; exact hnd x
  ·intro x s; rw [w3]; simp [hF]
theorem Inv.takeLate (h : Inv g P) (ht : P.ts[i]? = some t) (hb : t.busy = true) (hn : t.work.next = 8) : Inv g ((P.setM ((P.mem.unpend t.work.tsrc t.work.tside).frees t.work.made)).setW i (t.work.settle { err:=8 })):=by
 have hT:=h.th i t ht;have m:=h.mine ht hb (by omega) (by omega);obtain ⟨m1,m2,m3,m4,m5,m6⟩:=m.ts (by omega) (by omega);obtain ⟨M1,a,n,hM,w1,hF,hNew,nd,w3,w4⟩:=h.unprep ht hb hn;rw [hM,setMW_to P ht];obtain ⟨k',hk'⟩ : ∃ k' : PWork,k' = t.work.settle { err:=8 }:=⟨_,rfl⟩;have hkk : k'.kind = t.work.kind:=by rw [hk']; rfl
 have hkn : k'.next = 12:=by rw [hk']; rfl
 have hkd : k'.ans.did = false:=by rw [hk']; rfl
 rw [show t.work.settle { err:=8 } = k' from hk'.symm];have hct' : Calm { t with work:=k' }:=fun _ _=>.inr (.inr ⟨hkn,fun e=>by have : k'.ans.did = true:=e.2; rw [hkd] at this; cases this⟩)
 have gF : ∀ x,x = 0\/Gd g P.clock P.ts x->¬ Fr8 x t:=by
  intro x hx hf;have hf' : Fr x t:=⟨hf.1,hf.2.1,.inl hf.2.2.1,hf.2.2.2⟩;rcases hx with e | e
  ·exact (h.freshUs ht hf').2.1 e
  ·exact e.2 ⟨i,t,ht,hf'⟩
 have off : ∀ {p : PThread->Prop},(p { t with work:=k' }->False)->(p t->False)->(Ex (P.ts.set i { t with work:=k' }) p ↔ Ex P.ts p):=fun a b=>ex_iff ht (iff_of_false a b)
 have frS : ∀ x,Ex (P.ts.set i { t with work:=k' }) (Fr x)->Ex P.ts (Fr x)/\¬ Fr8 x t:=by
  intro x hx;rcases (Ex.get ht).1 hx with e | ⟨j,u,q1,q2,q3⟩
  ·exact absurd e hct'.fr
  ·exact ⟨⟨j,u,q2,q3⟩,fun hf=>q1 (h.o.pw j i u t x q2 ht q3 ⟨hf.1,hf.2.1,.inl hf.2.2.1,hf.2.2.2⟩)⟩
 have tk : ∀ x,Ex (P.ts.set i { t with work:=k' }) (Tk x) ↔ Ex P.ts (Tk x):=fun x=>off hct'.tk (by rintro ⟨_,_,e,_⟩; omega)
 have own : ∀ x,Ex (P.ts.set i { t with work:=k' }) (Own x) ↔ Ex P.ts (Own x):=fun x=>off hct'.own (by rintro ⟨_,_,e,_⟩; omega)
 have pair : ∀ x y,Ex (P.ts.set i { t with work:=k' }) (Pair x y) ↔ Ex P.ts (Pair x y):=fun x y=>off hct'.pair (by rintro ⟨_,_,e,_⟩; omega)
 have xl : ∀ x s,Ex (P.ts.set i { t with work:=k' }) (Xl x s) ↔ Ex P.ts (Xl x s):=fun x s=>off hct'.xl (by rintro ⟨_,_,e,_⟩; omega)
 have hNO : ∀ x,Fr8 x t->¬ g.O x/\¬ (g.V P.clock).Has x:=by
  intro x hf;obtain ⟨k1,e⟩:=(hF x).1 hf;have q:=(hNew k1).h;rcases e with rfl | rfl
  ·exact ⟨q.2.2.1,q.1⟩
  ·exact ⟨q.2.2.2,q.2.1⟩
 have hgd : ∀ x,Gd g P.clock (P.ts.set i { t with work:=k' }) x ↔ Gd g P.clock P.ts x:=by
  intro x;constructor
  ·rintro ⟨q1,q2⟩;refine ⟨q1,fun q=>?_⟩;rcases q.or ht with q | ⟨j,u,e1,e2,e3⟩
   ·have hf8 : Fr8 x t:=⟨q.1,q.2.1,hn,q.2.2.2⟩
    have:=hNO x hf8
    rcases q1 with e | e
    ·exact this.1 e
    ·exact this.2 e
   ·exact q2 (Ex.other e2 e3 e1)
  ·intro q; exact ⟨q.1,fun q2=>q.2 (frS x q2).1⟩
 have hgr : Gro g g P.mem M1 P.clock P.clock P.ts (P.ts.set i { t with work:=k' }) i:=by
  refine ⟨Int.le_refl _,fun x hx=>(hgd x).2 hx,?_,?_⟩
  ·intro x hx;have hu:=h.usedGd hx;have e:=nd x;rw [if_neg (gF x hx)] at e;simp only [Us,Ky,Ln,Re,Ra]; rw [e];exact ⟨hu,by first | rfl | trivial,by first | rfl | trivial,by first | rfl | trivial,fun _ h=>h,fun hr=>.inl ⟨hr,by first | rfl | trivial⟩⟩
  ·intro x hx;have e:=nd x;by_cases hf : Fr8 x t
   ·rw [if_pos hf] at e; simp only [Us] at hx; rw [e] at hx; cases hx
   ·rw [if_neg hf] at e;simp only [Us,Ho] at hx ⊢; rw [e] at hx ⊢;exact ⟨fun h=>⟨hx,h⟩,fun h=>h.2⟩
 refine h.build (c':=P.clock) ht ?_ w1 ?_ ?_ ?_ ?_
 ·intro j u hne hj;refine h.rel hj (fun x hx=>.inl (frS x hx).1) ?_ ?_ ?_ ?_
  ·intro x hx
   have:=hgr.gn x hx
   exact ⟨this.1,this.2.1,this.2.2.1,this.2.2.2.2.2⟩
  ·intro x hx;have hf : ¬ Fr8 x t:=fun hf=>h.freshNot ht hj hne ⟨hf.1,hf.2.1,.inl hf.2.2.1,hf.2.2.2⟩ hx
   have hns : x≠t.work.tsrc:=fun e=>h.notOther ht hj hne ⟨m1,m2⟩ (e ▸ hx)
   exact ⟨by rw [nd,if_neg hf],fun s=>by rw [w3,if_neg (by rintro (q | q); exact hns q.1; exact hf q)],fun s st d=>(w4 x s st d).1⟩
  ·intro x y hp;rw [nd,if_neg (gF y (.inr (h.pairNot ht hj hp).2.2.1))]
  ·intro x hx;have e:=nd x;by_cases hf : Fr8 x t
   ·rw [if_pos hf] at e; simp only [Us] at hx; rw [e] at hx; cases hx
   ·rw [if_neg hf] at e;simp only [Us,Ho] at hx ⊢; rw [e] at hx ⊢;exact ⟨fun h=>⟨hx,h⟩,fun h=>h.2⟩
 ·have usN : ∀ x,Us M1 x->x = 0\/(g.V P.clock).Has x\/g.O x\/Ex (P.ts.set i { t with work:=k' }) (Fr8 x):=by
   intro x hx;have e:=nd x;by_cases hf : Fr8 x t
   ·rw [if_pos hf] at e; simp only [Us] at hx; rw [e] at hx; cases hx
   ·rw [if_neg hf] at e;simp only [Us] at hx; rw [e] at hx;rcases h.n.us x hx with q | q | q | q
    ·exact .inl q
    ·exact .inr (.inl q)
    ·exact .inr (.inr (.inl q))
    ·exact .inr (.inr (.inr (q.set ht (fun e=>absurd e hf))))
  rcases m.kd with k1 | k2
  ·have q:=hNew k1;refine h.n.two (a:=a) (n:=n) ⟨q.h.2.2.1,q.h.2.2.2,q.h.1,q.h.2.1,q.z.1,q.z.2.1⟩ (fun x e1 e2=>by rw [nd,if_neg (by rw [hF]; rintro ⟨_,e | e⟩; exact e1 e; exact e2 e)]) ?_ ?_ usN hgd tk own pair xl
   ·rw [nd,if_pos ((hF a).2 ⟨k1,.inl rfl⟩)]; exact ⟨rfl,rfl⟩
   ·rw [nd,if_pos ((hF n).2 ⟨k1,.inr rfl⟩)]; exact ⟨rfl,rfl⟩
  ·have hnf : ∀ x,¬ Fr8 x t:=by rintro x ⟨_,e,_⟩; omega
   have hnF : ∀ x,¬ Fr x t:=by rintro x ⟨_,e,_⟩; omega
   exact h.n.same (fun x=>by rw [nd,if_neg (hnf x)]) (fun x=>off hct'.fr8 (hnf x)) (fun x=>off hct'.fr (hnF x)) tk own pair xl
 ·refine ⟨?_,?_⟩
  ·intro x s st d hd
   have:=h.e.ms x s st d ((w4 x s st d).1 hd)
   have hf : ¬ Fr8 x t:=by
    intro hf;obtain ⟨k1,e⟩:=(hF x).1 hf;have q:=hNew k1;have hd:=(w4 x s st d).1 hd;rcases e with rfl | rfl
    ·exact q.sa _ _ _ hd
    ·exact q.sn _ _ _ hd
   simp only [Us,Ln];rw [nd,if_neg hf]; exact this
  ·intro x s d hd;rw [w3] at hd;by_cases e : (x = t.work.tsrc/\s = t.work.tside)\/Fr8 x t
   ·rw [if_pos e] at hd; simp at hd
   ·rw [if_neg e] at hd;rcases (h.e.pd x s d hd).or ht with (q | q) | ⟨j,u,q1,q2,q3⟩
    ·obtain ⟨_,_,_,_,e1,e2⟩:=q; exact absurd (.inl ⟨e1.symm,e2.symm⟩) e
    ·exact absurd (.inr q) e
    ·exact Ex.other q2 q3 q1
 ·refine h.o.keep ht (Int.le_refl _) (fun x hx=>absurd hx hct'.fr) (fun x y hx=>absurd hx hct'.pair) ?_ ?_
  ·intro x hx;have e:=nd x;by_cases hf : Fr8 x t
   ·rw [if_pos hf] at e; simp only [Us] at hx; rw [e] at hx; cases hx
   ·rw [if_neg hf] at e;right; simp only [Us,Ho] at hx ⊢; rw [e] at hx ⊢; exact ⟨hx,rfl⟩
  ·intro x _ hr;have hO:=h.n.od x (h.n.re x hr).1;have hf : ¬ Fr8 x t:=fun hf=>(hNO x hf).1 hO
   simp only [Re,Ra] at *; rw [nd,if_neg hf]; exact ⟨hr,rfl⟩
 ·refine hT.own (k:=k') h.n.one.1 hb (by omega) (by omega) hgr (by rw [hk']; exact ⟨rfl,rfl,rfl,rfl,rfl,rfl,rfl,rfl,rfl⟩) (by omega) (by omega) (by omega) (by omega) (by omega) (by omega) (by omega) (by omega) (by omega) (by omega) ?_ (by omega) (by omega);rintro _ (e | e | e | e)
  ·omega
  ·omega
  ·omega
  ·rw [hkd] at e; exact absurd e.2 (by simp)
end
end T
end
section
namespace T
section
variable {g g' : Gh} {M M' : PMem} {c c' : Int} {r : PSweep} {i j : Nat} {t t' u : PThread} {ts ts' : List PThread} {P : PSt} {x d : Int} {s : Bool} {key : Int} {k : PWork}
theorem InvN.goal (h : InvN g M c r ts) (hA : A (g.V c) x s d) (hx : x = 0\/(g.V c).Pth key x) (hs : sd M x key = s) (hd : Ln M d = 0) : (g.V c).goal key = (d,Ky M d,(M.node d).value):=by
 have hni : ¬ (g.V c).Inn d:=by
  intro hi
  have:=(h.inn (Tr.inn_has hi)).1.2 hi
  omega
 have e : ((g.V c).goal key).1 = d:=by
  rcases hx with rfl | hx
  ·have:=(Tr.ed_root h.gt.dj h.gt.z hA).2
   subst this;rcases Tr.pth_root (k:=key) (g.V c) with e | e
   ·exact absurd (Tr.pth_inn e) hni
   ·exact e.1
  ·obtain ⟨q,hq⟩:=Tr.pth_nod hx;rw [<- hs,sd_nod h.ag hq] at hA;rcases Tr.pth_step h.gt.dj h.gt.z hx hq hA with e | e
   ·exact absurd (Tr.pth_inn e) hni
   ·exact e
 have:=h.ag.l _ _ _ (Tr.goal_lea (k:=key) (g.V c))
 rw [e] at this;obtain ⟨_,_,e2,e3⟩:=this;rw [e2,e3,<- e]
theorem Inv.stOk (h : Inv g P) (ht : P.ts[i]? = some t) (hb : t.busy = true) (h6 : 6<=t.work.next) (h8 : t.work.next<=8) (hA : A (g.V P.clock) t.work.stand s d) : t.work.stand = 0\/(g.V P.clock).Pth t.work.key t.work.stand:=by
 have hT:=h.th i t ht;rcases (Tr.ed_has hA).2 with e | e
 ·exact .inl e
 ·right;rcases (hT.xs hb (hT.upd hb (by omega) (by omega)) (by omega) (by omega)).1 with q | q
  ·rw [q] at e; exact absurd (Tr.inn_has e) h.n.gt.z
  ·exact (h.n.rg _ _ e).1 q.2.1
theorem Inv.found (h : Inv g P) (ht : P.ts[i]? = some t) (hb : t.busy = true) (h7 : 7<=t.work.next) (h8 : t.work.next<=8) : (g.V P.clock).goal t.work.key = (t.work.ahead,Ky P.mem t.work.ahead,(P.mem.node t.work.ahead).value):=by
 have hT:=h.th i t ht;have hA:=(hT.e7 hb h7 h8).1;exact h.n.goal hA (h.stOk ht hb (by omega) h8 hA) rfl (hT.cs hb (by omega) (by omega)).2.2.1
theorem stampNew_no {M : PMem} {n : Int} (h : ∀ b,Pd M n b = []) (st : Int) : M.stampNew n st = M:=by
 unfold PMem.stampNew;rw [stamp_no (h false),stamp_no (h true)]
theorem stampNew_two {M : PMem} {n : Int} {kd : Bool->Int} (hw : Wm M) (h : ∀ b,Pd M n b = [kd b]) (st : Int) : (M.stampNew n st).ns = M.ns/\Wm (M.stampNew n st)/\(∀ x s,Pd (M.stampNew n st) x s = if x = n then [] else Pd M x s)/\(∀ x s st' d,Sd (M.stampNew n st) x s st' d ↔ Sd M x s st' d\/(x = n/\st' = st/\d = kd s)):=by
 unfold PMem.stampNew;obtain ⟨a1,a2,a3,a4⟩:=stamp_e st hw (h false);obtain ⟨b1,b2,b3,b4⟩:=stamp_e (M:=M.stamp n false st) (n:=n) (s:=true) (d:=kd true) st a2 (by rw [a3,if_neg (by simp)]; exact h true);refine ⟨by rw [b1,a1],b2,?_,?_⟩
 ·intro x s;rw [b3,a3];cases s <;> by_cases e : x = n <;> simp [e]
 ·intro x s st' d;rw [b4,a4];cases s <;> simp <;> grind
def insG (g : Gh) (c : Int) (k : PWork) (a n : Int) : Gh where
 V:=fun T=>if T = c + 1 then (g.V c).ins k.key k.value a n else g.V T
 B:=fun x=>if x = n then c + 1 else g.B x
 R:=fun x q=>if x = n then ((g.V c).ins k.key k.value a n).Pth q n else g.R x q
 O:=g.O
theorem Inv.takeIns (h : Inv g P) (ht : P.ts[i]? = some t) (hb : t.busy = true) (hn : t.work.next = 8) (k1 : t.work.kind = 1) {a n : Int} (q : New g P.mem P.clock t.work a n) :
  Inv (insG g P.clock t.work a n) { P with mem:=P.mem.stampsNew (P.clock + 1) t.work.made,clock:=P.clock + 1,ts:=P.ts.set i { t with work:={ t.work with ans:={ did:=true,stamp:=P.clock + 1 },next:=10 } } }:=by
 have hT:=h.th i t ht;have m:=h.mine ht hb (by omega) (by omega);obtain ⟨m1,m2,m3,m4,m5,m6⟩:=m.ts (by omega) (by omega);have e1:=m5 k1;obtain ⟨e7,e8,_⟩:=hT.e7 hb (by omega) (by omega);have htm:=hT.tm hb (by omega);have hky:=hT.ky hb (by omega);have hc0:=h.o.sc;have hgo:=h.found ht hb (by omega) (by omega);have hnk : Ky P.mem t.work.ahead≠t.work.key:=fun e=>by have:=(hT.c7 hb (by omega) (by omega)).1 e; omega
 have hM : P.mem.stampsNew (P.clock + 1) t.work.made = P.mem.stampNew n (P.clock + 1):=by
  rw [q.md];show (P.mem.stampNew a (P.clock + 1)).stampNew n (P.clock + 1) = _;rw [stampNew_no q.pa]
 rw [hM];obtain ⟨w0,w1,w3,w4⟩:=stampNew_two h.wm q.pn (P.clock + 1);have hnd:=node_ns w0;generalize P.mem.stampNew n (P.clock + 1) = M1 at *;obtain ⟨k',hk'⟩ : ∃ k' : PWork,k' = { t.work with ans:={ did:=true,stamp:=P.clock + 1 },next:=10 }:=⟨_,rfl⟩;have hkk : k'.kind = 1:=by rw [hk']; exact k1
 have hkn : k'.next = 10:=by rw [hk']
 have hkm : k'.made = t.work.made:=by rw [hk']
 rw [show ({ t.work with ans:={ did:=true,stamp:=P.clock + 1 },next:=10 } : PWork) = k' from hk'.symm];obtain ⟨tr,htr⟩ : ∃ tr,tr = g.V P.clock:=⟨_,rfl⟩;have hV : (insG g P.clock t.work a n).V (P.clock + 1) = tr.ins t.work.key t.work.value a n:=by unfold insG; simp [htr]
 have hO : (insG g P.clock t.work a n).O = g.O:=rfl;have hB : ∀ x,(insG g P.clock t.work a n).B x = if x = n then P.clock + 1 else g.B x:=fun x=>rfl
 have hR : ∀ x q,(insG g P.clock t.work a n).R x q = if x = n then (tr.ins t.work.key t.work.value a n).Pth q n else g.R x q:=fun x q=>by rw [htr]; rfl
 have hVd:=h.n.gt;have hag:=h.n.ag;have hNh:=q.h;rw [<- htr] at hVd hag hNh hgo e7;have hdj:=hVd.dj;have iHas : ∀ x,(tr.ins t.work.key t.work.value a n).Has x ↔ tr.Has x\/x = a\/x = n:=fun x=>Tr.ins_has
 have iInn : ∀ x,(tr.ins t.work.key t.work.value a n).Inn x ↔ tr.Inn x\/x = n:=fun x=>Tr.ins_inn
 have iEd : ∀ x s d,A (tr.ins t.work.key t.work.value a n) x s d ↔ (A tr x s d/\d≠t.work.ahead)\/(d = n/\A tr x s t.work.ahead)\/(x = n/\d = kid P.mem t.work a s):=by
  intro x s d
  have:=Tr.ins_ed (k:=t.work.key) (v:=t.work.value) (a:=a) (n:=n) (x:=x) (s:=s) (d:=d) (u:=0) (b:=false) hdj
  rw [hgo] at this;exact this
 have sole : ∀ x s,A tr x s t.work.ahead->x = t.work.stand/\s = sd P.mem t.work.stand t.work.key:=fun x s hx=>Tr.ed_par hdj hVd.z hx e7
 have usd : ∀ x k,sd M1 x k = sd P.mem x k:=fun x k=>sd_congr (by simp only [Ky]; rw [hnd]) (by simp only [Ln]; rw [hnd])
 have mF : ∀ x,Fr x t ↔ x = a\/x = n:=by
  intro x; unfold Fr; rw [q.md]; simp [hb,k1,hn]
 have fr : ∀ x,Ex (P.ts.set i { t with work:=k' }) (Fr x) ↔ Ex P.ts (Fr x):=fun x=>ex_iff ht ⟨fun ⟨a1,a2,a3,a4⟩=>⟨a1,k1,.inl hn,by rw [<- hkm]; exact a4⟩,fun ⟨a1,a2,a3,a4⟩=>⟨a1,hkk,.inr hkn,by show x ∈ k'.made; rw [hkm]; exact a4⟩⟩
 have off : ∀ {p : PThread->Prop},(p { t with work:=k' }->False)->(p t->False)->(Ex (P.ts.set i { t with work:=k' }) p ↔ Ex P.ts p):=fun a b=>ex_iff ht (iff_of_false a b)
 have tk : ∀ x,Ex (P.ts.set i { t with work:=k' }) (Tk x) ↔ Ex P.ts (Tk x):=fun x=>off (by rintro ⟨_,e,_⟩; have : k'.kind = 2:=e; omega) (by rintro ⟨_,e,_⟩; omega)
 have own : ∀ x,Ex (P.ts.set i { t with work:=k' }) (Own x) ↔ Ex P.ts (Own x):=fun x=>off (by rintro ⟨_,e,_⟩; have : k'.kind = 2:=e; omega) (by rintro ⟨_,e,_⟩; omega)
 have pair : ∀ x y,Ex (P.ts.set i { t with work:=k' }) (Pair x y) ↔ Ex P.ts (Pair x y):=fun x y=>off (by rintro ⟨_,e,_⟩; have : k'.kind = 2:=e; omega) (by rintro ⟨_,e,_⟩; omega)
 have hgd : ∀ x,Gd (insG g P.clock t.work a n) (P.clock + 1) (P.ts.set i { t with work:=k' }) x ↔ Gd g P.clock P.ts x:=by
  intro x;unfold Gd;rw [fr,hV,hO,iHas,htr];constructor
  ·rintro ⟨q1 | q1 | q1,q2⟩
   ·exact ⟨.inl q1,q2⟩
   ·exact ⟨.inr q1,q2⟩
   ·exact absurd ⟨i,t,ht,(mF x).2 q1⟩ q2
  ·rintro ⟨q1 | q1,q2⟩
   ·exact ⟨.inl q1,q2⟩
   ·exact ⟨.inr (.inl q1),q2⟩
 have gN : ∀ x,x = 0\/Gd g P.clock P.ts x->x≠n:=by
  rintro x hx rfl;rcases hx with e | e
  ·exact q.z.2.1 e
  ·exact e.2 ⟨i,t,ht,(mF x).2 (.inr rfl)⟩
 have sN : t.work.stand≠n:=by
  intro e; have:=q.dn.2.2.2.2; rw [<- e] at this; have:=m.hs; omega
 have hgr : Gro g (insG g P.clock t.work a n) P.mem M1 P.clock (P.clock + 1) P.ts (P.ts.set i { t with work:=k' }) i:=by
  refine ⟨by omega,fun x hx=>(hgd x).2 hx,?_,?_⟩
  ·intro x hx;have hu:=h.usedGd hx;rw [hB,if_neg (gN x hx)];simp only [Us,Ky,Ln,Re,Ra,hnd];refine ⟨hu,trivial,trivial,trivial,fun k hk=>?_,fun hr=>.inl ⟨hr,trivial⟩⟩;rw [hR,if_neg (gN x hx)]; exact hk
  ·intro x hx;simp only [Us,Ho,hnd] at hx ⊢;exact ⟨fun h=>⟨hx,h⟩,fun h=>h.2⟩
 have hz : ¬ (tr.ins t.work.key t.work.value a n).Has 0:=by
  rw [iHas]; rintro (e | e | e)
  ·exact hVd.z e
  ·exact q.z.1 e.symm
  ·exact q.z.2.1 e.symm
 refine h.build ht ?_ w1 ?_ ?_ ?_ ?_
 ·-- the others
  intro j u hne hj;refine ⟨by omega,hgr.ga,hgr.gn,fun x hx=>hx,?_,?_,fun x y _=>hnd y,?_,by rw [hV]; exact hz⟩
  ·intro x hx;have ns : x≠t.work.stand:=fun e=>h.notOther ht hj hne ⟨m.us,m.hs⟩ (e ▸ hx)
   have nn : x≠n:=fun e=>h.freshNot ht hj hne ((mF n).2 (.inr rfl)) (e ▸ hx)
   refine ⟨hnd x,fun s=>by rw [w3,if_neg nn],fun s st d hd=>?_,fun s d hd=>?_,by rw [hB,if_neg nn]⟩
   ·rcases (w4 x s st d).1 hd with e | e
    ·exact e
    ·exact absurd e.1 nn
   ·rw [hV,iEd];rw [<- htr] at hd;exact .inl ⟨hd,fun e=>ns (sole x s (e ▸ hd)).1⟩
  ·rintro x ⟨b,hk,hn',hm⟩;obtain ⟨a',n',q'⟩:=(h.th j u hj).f8 b hk hn';have hF : Fr x u:=⟨b,hk,.inl hn',hm⟩;have nt : ¬ Fr x t:=fun e=>hne (h.o.pw j i u t x hj ht hF e)
   rw [mF] at nt;rw [q'.md] at hm
   have:=q'.h
   rw [<- htr] at this;rw [hV,hO,iHas];simp at hm; grind
  ·intro x hx;simp only [Us,Ho,hnd] at hx ⊢;exact ⟨fun h=>⟨hx,h⟩,fun h=>h.2⟩
 ·-- the nodes
  obtain ⟨gt,⟨ag1,ag2⟩,n0,tn,us,ou,od,ot,re,ro,lk,ph,pr,pp,rg,bd⟩:=h.n;rw [<- htr] at *;have hgt' : Gt (tr.ins t.work.key t.work.value a n):=by
   refine ⟨Tr.ins_dj hdj hNh.1 hNh.2.1 q.ne,hz,Tr.ins_ok hVd.ok (by rw [hgo]; exact hnk),Tr.ins_lea.2 (.inl hVd.one),?_⟩;intro x k v hx hx1;rcases Tr.ins_lea.1 hx with e | ⟨_,e,_⟩
   ·exact hVd.kr x k v e hx1
   ·rw [e]; exact hky
  refine ⟨by rw [hV]; exact hgt',⟨?_,?_⟩,?_,?_,?_,?_,?_,?_,?_,?_,?_,?_,?_,?_,?_,?_⟩
  ·intro x qq hx;rw [hV,Tr.ins_nod,hgo] at hx;simp only [Us,Ln,Ky,hnd];rcases hx with e | ⟨rfl,e⟩
   ·exact hag.n x qq e
   ·exact ⟨q.ua.2,q.dn.2.2.1,by rw [e]; exact q.dn.2.2.2.1⟩
  ·intro x qq w hx;rw [hV,Tr.ins_lea] at hx;simp only [Us,Ln,Ky,hnd];rcases hx with e | ⟨rfl,rfl,rfl⟩
   ·exact hag.l x qq w e
   ·exact ⟨q.ua.1,q.da.2.2.1,q.da.2.2.2.1,q.da.2.2.2.2.1⟩
  ·simp only [Us,Ln,hnd]; exact n0
  ·intro x hx;rw [hV,iHas] at hx;rw [hnd];rcases hx with e | rfl | rfl
   ·exact tn x e
   ·exact ⟨q.da.1,q.da.2.1⟩
   ·exact ⟨q.dn.1,q.dn.2.1⟩
  ·intro x hx;simp only [Us,hnd] at hx;rw [hV,iHas,hO];rcases us x hx with e | e | e | e
   ·exact .inl e
   ·exact .inr (.inl (.inl e))
   ·exact .inr (.inr (.inl e))
   ·rcases e.or ht with e | ⟨j,u,e1,e2,e3⟩
    ·exact .inr (.inl (.inr ((mF x).1 ⟨e.1,e.2.1,.inl e.2.2.1,e.2.2.2⟩)))
    ·exact .inr (.inr (.inr (Ex.other e2 e3 e1)))
  ·intro x hx;rw [hO] at hx
   have:=ou x hx
   simp only [Us,Ln,hnd];rw [hV,iHas];refine ⟨this.1,?_,this.2.2⟩;rintro (e | rfl | rfl)
   ·exact this.2.1 e
   ·exact hNh.2.2.1 hx
   ·exact hNh.2.2.2 hx
  ·intro x hx; simp only [De,hnd] at hx; exact od x hx
  ·intro x hx; simp only [De,hnd]; rw [tk]; exact ot x hx
  ·intro x hx; simp only [De,Re,Ra,hnd] at hx ⊢; have:=re x hx; exact ⟨this.1,Int.le_trans this.2 (by omega)⟩
  ·intro x hx; simp only [De,Re,hnd] at hx ⊢; rw [own]; exact ro x hx
  ·intro x s d hd;rw [hV,iEd] at hd;simp only [Ld,hnd];rcases hd with ⟨e,_⟩ | ⟨_,e⟩ | ⟨rfl,e⟩
   ·rcases lk x s d e with e | e
    ·exact .inl e
    ·right;rcases e.or ht with ⟨_,_,e,_⟩ | ⟨j,u,e1,e2,e3⟩
     ·omega
     ·exact Ex.other e2 e3 e1
   ·right;obtain ⟨rfl,rfl⟩:=sole x s e;exact Ex.new ht ⟨hb,.inl hkk,.inr hkn,by rw [hk']; exact e1,by rw [hk']; show t.work.tside = _; rw [m4,e1]⟩
   ·exact .inl (by rw [e]; exact q.ld s)
  ·intro x s hx hs;rw [hgd] at hx ⊢;simp only [Ln,Ld,Re,Ra,hnd] at hx ⊢
   have:=ph x s hx hs
   rw [hB,hB,if_neg (gN _ (.inr this.1)),if_neg (gN x (by rcases hx with e | e; exact .inl e; exact .inr e.2))];exact this
  ·intro x s k hx hRx hsd;rw [hgd] at hx;rw [usd] at hsd;simp only [Ln,Ld,hnd] at hx ⊢;intro hl;have hs0 : x = 0->s = false:=fun e0=>by rw [<- hsd,e0]; exact sd0 n0.2.1 k
   have:=ph x s hx hs0
   rw [hR,if_neg (gN x (by rcases hx with e | e; exact .inl e; exact .inr e.2))] at hRx;rw [hR,if_neg (gN _ (.inr this.1))];exact pr x s k hx hRx hsd hl
  ·intro x s hOx;simp only [Ln,Ld,Re,hnd]; rw [pair]; exact pp x s hOx
  ·intro x k hx;rw [hV] at hx ⊢;rw [iInn] at hx;rw [hR];by_cases e : x = n
   ·rw [if_pos e,e]
   ·rw [if_neg e,Tr.ins_pth hNh.2.1 e];exact rg x k (hx.resolve_right e)
  ·intro x;rw [hB]; have:=bd x; split <;> omega
 ·-- the entries
  refine ⟨?_,?_⟩
  ·intro x s st d hd;simp only [Us,Ln,hnd];rcases (w4 x s st d).1 hd with e | ⟨rfl,rfl,_⟩
   ·have:=h.e.ms x s st d e; exact ⟨this.1,this.2.1,by omega,this.2.2.2⟩
   ·have:=q.dn.2.2.1; simp only [Ln] at this
    exact ⟨q.ua.2,by omega,by omega,by rw [this]; cases s <;> simp [b2i]⟩
  ·intro x s d hd;rw [w3] at hd;by_cases en : x = n
   ·rw [if_pos en] at hd; simp at hd
   ·rw [if_neg en] at hd;rcases (h.e.pd x s d hd).or ht with (e | e) | ⟨j,u,e1,e2,e3⟩
    ·obtain ⟨a1,a2,a3,a4,a5,a6⟩:=e;exact Ex.new ht (.inl ⟨a1,.inl hkk,by show 8<=k'.next; omega,by show k'.next<=11; omega,by rw [hk']; exact a5,by rw [hk']; exact a6⟩)
    ·exfalso;rcases (mF x).1 ⟨e.1,e.2.1,.inl e.2.2.1,e.2.2.2⟩ with rfl | rfl
     ·rw [q.pa] at hd; simp at hd
     ·exact en rfl
    ·exact Ex.other e2 e3 e1
 ·refine h.o.keep ht (by omega) (fun x hx=>.inl ⟨hx.1,k1,.inl hn,by rw [<- hkm]; exact hx.2.2.2⟩) (fun x y hx=>?_) ?_ ?_
  ·obtain ⟨_,e,_⟩:=hx; have : k'.kind = 2:=e; omega
  ·intro x hx; simp only [Us,Ho,hnd] at hx ⊢; exact .inr ⟨hx,trivial⟩
  ·intro x _ hr; simp only [Re,Ra,hnd] at *; exact ⟨hr,trivial⟩
 ·refine hT.own (k:=k') h.n.one.1 hb (by omega) (by omega) hgr (by rw [hk']; exact ⟨rfl,rfl,rfl,rfl,rfl,rfl,rfl,rfl,rfl⟩) (by omega) (by omega) (by omega) (by omega) ?_ (by omega) ?_ (by omega) ?_ (by omega) (by omega) (by omega) ?_
  ·intro _ _; simp only [Ky,hnd]; rw [hk']; exact hT.c7 hb (by omega) (by omega)
  ·intro _ _; simp only [usd]; rw [hk']; exact hT.tt hb (by omega) (by omega)
  ·intro _ _;have hkid : ∀ b,kid M1 k' a b = kid P.mem t.work a b:=by
    intro b;have e : Ky M1 t.work.ahead = Ky P.mem t.work.ahead:=by simp only [Ky]; rw [hnd]
    rw [hk']; unfold kid;show (if decide (Ky M1 t.work.ahead < t.work.key) = b then a else t.work.ahead) = _;rw [e]
   have ks : k'.stand = t.work.stand:=by rw [hk']
   have kk : k'.key = t.work.key:=by rw [hk']
   have ka : k'.ahead = t.work.ahead:=by rw [hk']
   refine ⟨a,n,by rw [hkm]; exact q.md,q.ne,?_,?_,?_,?_,?_,?_,?_,?_⟩
   ·simp only [Us,hnd]; rw [hV,iHas,iInn]; exact ⟨q.ua.1,q.ua.2,.inr (.inl rfl),.inr rfl⟩
   ·simp only [Ln,Ho,hnd]; exact ⟨q.da.2.2.1,q.dn.2.2.1,q.dn.2.2.2.2,q.da.2.2.2.2.2⟩
   ·intro b; rw [hkid]; simp only [Ld,hnd]; exact q.ld b
   ·intro b; rw [hkid,hV,iEd]; exact .inr (.inr ⟨rfl,rfl⟩)
   ·rw [hV,iEd,ks,kk,usd]; exact .inr (.inl ⟨rfl,e7⟩)
   ·rw [ks,kk,usd,w3,if_neg sN]; exact q.ps
   ·rw [ks,kk,ka,usd]; simp only [Ld,hnd]; exact e8
   ·rw [hB,hB,ks,if_neg sN,if_pos rfl]; have:=h.n.bd t.work.stand; omega
  ·intro _ _;have ksrc : k'.tsrc = t.work.stand:=by rw [hk']; exact e1
   refine ⟨by rw [hk'],?_,?_,?_,?_⟩
   ·rw [hk']; show t.work.time < P.clock + 1; omega
   ·rw [hk']; show 0<=P.clock + 1; omega
   ·rw [hk']; show P.clock + 1<=P.clock + 1; omega
   ·intro s d hh;rw [ksrc] at hh;have : k'.ans.stamp = P.clock + 1:=by rw [hk']
    rw [this];rcases (w4 _ _ s d).1 hh with e | e
    ·have:=h.e.ms _ _ s d e; omega
    ·exact absurd e.1 sN
end
end T
end
end Go.Proofs.YtfccelbmacjifabGreat
