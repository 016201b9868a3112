import Derived.Test.YtfccelbmacjifabGreatP0
import Derived.Test.YtfccelbmacjifabGreatP22
set_option linter.unusedSimpArgs false
set_option maxRecDepth 100000
set_option maxHeartbeats 4000000
namespace Go.Proofs.YtfccelbmacjifabGreat
section
namespace T
section
variable {g g' : Gh} {M M' : PMem} {c c' : Int} {r : PSweep} {i j : Nat} {t t' u : PThread} {ts ts' : List PThread} {P : PSt} {x d : Int} {s : Bool} {key : Int} {k : PWork}
theorem InvN.goal (h : InvN g M c r ts) (hA : A (g.V c) x s d) (hx : x = 0\/(g.V c).Pth key x) (hs : sd M x key = s) (hd : Ln M d = 0) : (g.V c).goal key = (d,Ky M d,(M.node d).value):=by
 have hni : ¬ (g.V c).Inn d:=by
  intro hi
  have:=(h.inn (Tr.inn_has hi)).1.2 hi
  omega
 have e : ((g.V c).goal key).1 = d:=by
  rcases hx with rfl | hx
  ·have:=(Tr.ed_root h.gt.dj h.gt.z hA).2
   subst this;rcases Tr.pth_root (k:=key) (g.V c) with e | e
   ·exact absurd (Tr.pth_inn e) hni
   ·exact e.1
  ·obtain ⟨q,hq⟩:=Tr.pth_nod hx;rw [<- hs,sd_nod h.ag hq] at hA;rcases Tr.pth_step h.gt.dj h.gt.z hx hq hA with e | e
   ·exact absurd (Tr.pth_inn e) hni
   ·exact e
 have:=h.ag.l _ _ _ (Tr.goal_lea (k:=key) (g.V c))
 rw [e] at this;obtain ⟨_,_,e2,e3⟩:=this;rw [e2,e3,<- e]
theorem Inv.stOk (h : Inv g P) (ht : P.ts[i]? = some t) (hb : t.busy = true) (h6 : 6<=t.work.next) (h8 : t.work.next<=8) (hA : A (g.V P.clock) t.work.stand s d) : t.work.stand = 0\/(g.V P.clock).Pth t.work.key t.work.stand:=by
 have hT:=h.th i t ht;rcases (Tr.ed_has hA).2 with e | e
 ·exact .inl e
 ·right;rcases (hT.xs hb (hT.upd hb (by omega) (by omega)) (by omega) (by omega)).1 with q | q
  ·rw [q] at e; exact absurd (Tr.inn_has e) h.n.gt.z
  ·exact (h.n.rg _ _ e).1 q.2.1
theorem Inv.found (h : Inv g P) (ht : P.ts[i]? = some t) (hb : t.busy = true) (h7 : 7<=t.work.next) (h8 : t.work.next<=8) : (g.V P.clock).goal t.work.key = (t.work.ahead,Ky P.mem t.work.ahead,(P.mem.node t.work.ahead).value):=by
 have hT:=h.th i t ht;have hA:=(hT.e7 hb h7 h8).1;exact h.n.goal hA (h.stOk ht hb (by omega) h8 hA) rfl (hT.cs hb (by omega) (by omega)).2.2.1
theorem stampNew_no {M : PMem} {n : Int} (h : ∀ b,Pd M n b = []) (st : Int) : M.stampNew n st = M:=by
 unfold PMem.stampNew;rw [stamp_no (h false),stamp_no (h true)]
theorem stampNew_two {M : PMem} {n : Int} {kd : Bool->Int} (hw : Wm M) (h : ∀ b,Pd M n b = [kd b]) (st : Int) : (M.stampNew n st).ns = M.ns/\Wm (M.stampNew n st)/\(∀ x s,Pd (M.stampNew n st) x s = if x = n then [] else Pd M x s)/\(∀ x s st' d,Sd (M.stampNew n st) x s st' d ↔ Sd M x s st' d\/(x = n/\st' = st/\d = kd s)):=by
 unfold PMem.stampNew;obtain ⟨a1,a2,a3,a4⟩:=stamp_e st hw (h false);obtain ⟨b1,b2,b3,b4⟩:=stamp_e (M:=M.stamp n false st) (n:=n) (s:=true) (d:=kd true) st a2 (by rw [a3,if_neg (by simp)]; exact h true);refine ⟨by rw [b1,a1],b2,?_,?_⟩
 ·intro x s;rw [b3,a3];cases s <;> by_cases e : x = n <;> simp [e]
 ·intro x s st' d;rw [b4,a4];cases s <;> simp <;> grind
def insG (g : Gh) (c : Int) (k : PWork) (a n : Int) : Gh where
 V:=fun T=>if T = c + 1 then (g.V c).ins k.key k.value a n else g.V T
 B:=fun x=>if x = n then c + 1 else g.B x
 R:=fun x q=>if x = n then ((g.V c).ins k.key k.value a n).Pth q n else g.R x q
 O:=g.O
theorem Inv.takeIns (h : Inv g P) (ht : P.ts[i]? = some t) (hb : t.busy = true) (hn : t.work.next = 8) (k1 : t.work.kind = 1) {a n : Int} (q : New g P.mem P.clock t.work a n) :
  Inv (insG g P.clock t.work a n) { P with mem:=P.mem.stampsNew (P.clock + 1) t.work.made,clock:=P.clock + 1,ts:=P.ts.set i { t with work:={ t.work with ans:={ did:=true,stamp:=P.clock + 1 },next:=10 } } }:=by
 have hT:=h.th i t ht;have m:=h.mine ht hb (by omega) (by omega);obtain ⟨m1,m2,m3,m4,m5,m6⟩:=m.ts (by omega) (by omega);have e1:=m5 k1;obtain ⟨e7,e8,_⟩:=hT.e7 hb (by omega) (by omega);have htm:=hT.tm hb (by omega);have hky:=hT.ky hb (by omega);have hc0:=h.o.sc;have hgo:=h.found ht hb (by omega) (by omega);have hnk : Ky P.mem t.work.ahead≠t.work.key:=fun e=>by have:=(hT.c7 hb (by omega) (by omega)).1 e; omega
 have hM : P.mem.stampsNew (P.clock + 1) t.work.made = P.mem.stampNew n (P.clock + 1):=by
  rw [q.md];show (P.mem.stampNew a (P.clock + 1)).stampNew n (P.clock + 1) = _;rw [stampNew_no q.pa]
 rw [hM];obtain ⟨w0,w1,w3,w4⟩:=stampNew_two h.wm q.pn (P.clock + 1);have hnd:=node_ns w0;generalize P.mem.stampNew n (P.clock + 1) = M1 at *;obtain ⟨k',hk'⟩ : ∃ k' : PWork,k' = { t.work with ans:={ did:=true,stamp:=P.clock + 1 },next:=10 }:=⟨_,rfl⟩;have hkk : k'.kind = 1:=by rw [hk']; exact k1
 have hkn : k'.next = 10:=by rw [hk']
 have hkm : k'.made = t.work.made:=by rw [hk']
 rw [show ({ t.work with ans:={ did:=true,stamp:=P.clock + 1 },next:=10 } : PWork) = k' from hk'.symm];obtain ⟨tr,htr⟩ : ∃ tr,tr = g.V P.clock:=⟨_,rfl⟩;have hV : (insG g P.clock t.work a n).V (P.clock + 1) = tr.ins t.work.key t.work.value a n:=by unfold insG; simp [htr]
 have hO : (insG g P.clock t.work a n).O = g.O:=rfl;have hB : ∀ x,(insG g P.clock t.work a n).B x = if x = n then P.clock + 1 else g.B x:=fun x=>rfl
 have hR : ∀ x q,(insG g P.clock t.work a n).R x q = if x = n then (tr.ins t.work.key t.work.value a n).Pth q n else g.R x q:=fun x q=>by rw [htr]; rfl
 have hVd:=h.n.gt;have hag:=h.n.ag;have hNh:=q.h;rw [<- htr] at hVd hag hNh hgo e7;have hdj:=hVd.dj;have iHas : ∀ x,(tr.ins t.work.key t.work.value a n).Has x ↔ tr.Has x\/x = a\/x = n:=fun x=>Tr.ins_has
 have iInn : ∀ x,(tr.ins t.work.key t.work.value a n).Inn x ↔ tr.Inn x\/x = n:=fun x=>Tr.ins_inn
 have iEd : ∀ x s d,A (tr.ins t.work.key t.work.value a n) x s d ↔ (A tr x s d/\d≠t.work.ahead)\/(d = n/\A tr x s t.work.ahead)\/(x = n/\d = kid P.mem t.work a s):=by
  intro x s d
  have:=Tr.ins_ed (k:=t.work.key) (v:=t.work.value) (a:=a) (n:=n) (x:=x) (s:=s) (d:=d) (u:=0) (b:=false) hdj
  rw [hgo] at this;exact this
 have sole : ∀ x s,A tr x s t.work.ahead->x = t.work.stand/\s = sd P.mem t.work.stand t.work.key:=fun x s hx=>Tr.ed_par hdj hVd.z hx e7
 have usd : ∀ x k,sd M1 x k = sd P.mem x k:=fun x k=>sd_congr (by simp only [Ky]; rw [hnd]) (by simp only [Ln]; rw [hnd])
 have mF : ∀ x,Fr x t ↔ x = a\/x = n:=by
  intro x; unfold Fr; rw [q.md]; simp [hb,k1,hn]
 have fr : ∀ x,Ex (P.ts.set i { t with work:=k' }) (Fr x) ↔ Ex P.ts (Fr x):=fun x=>ex_iff ht ⟨fun ⟨a1,a2,a3,a4⟩=>⟨a1,k1,.inl hn,by rw [<- hkm]; exact a4⟩,fun ⟨a1,a2,a3,a4⟩=>⟨a1,hkk,.inr hkn,by show x ∈ k'.made; rw [hkm]; exact a4⟩⟩
 have off : ∀ {p : PThread->Prop},(p { t with work:=k' }->False)->(p t->False)->(Ex (P.ts.set i { t with work:=k' }) p ↔ Ex P.ts p):=fun a b=>ex_iff ht (iff_of_false a b)
 have tk : ∀ x,Ex (P.ts.set i { t with work:=k' }) (Tk x) ↔ Ex P.ts (Tk x):=fun x=>off (by rintro ⟨_,e,_⟩; have : k'.kind = 2:=e; omega) (by rintro ⟨_,e,_⟩; omega)
 have own : ∀ x,Ex (P.ts.set i { t with work:=k' }) (Own x) ↔ Ex P.ts (Own x):=fun x=>off (by rintro ⟨_,e,_⟩; have : k'.kind = 2:=e; omega) (by rintro ⟨_,e,_⟩; omega)
 have pair : ∀ x y,Ex (P.ts.set i { t with work:=k' }) (Pair x y) ↔ Ex P.ts (Pair x y):=fun x y=>off (by rintro ⟨_,e,_⟩; have : k'.kind = 2:=e; omega) (by rintro ⟨_,e,_⟩; omega)
 have hgd : ∀ x,Gd (insG g P.clock t.work a n) (P.clock + 1) (P.ts.set i { t with work:=k' }) x ↔ Gd g P.clock P.ts x:=by
  intro x;unfold Gd;rw [fr,hV,hO,iHas,htr];constructor
  ·rintro ⟨q1 | q1 | q1,q2⟩
   ·exact ⟨.inl q1,q2⟩
   ·exact ⟨.inr q1,q2⟩
   ·exact absurd ⟨i,t,ht,(mF x).2 q1⟩ q2
  ·rintro ⟨q1 | q1,q2⟩
   ·exact ⟨.inl q1,q2⟩
   ·exact ⟨.inr (.inl q1),q2⟩
 have gN : ∀ x,x = 0\/Gd g P.clock P.ts x->x≠n:=by
  rintro x hx rfl;rcases hx with e | e
  ·exact q.z.2.1 e
  ·exact e.2 ⟨i,t,ht,(mF x).2 (.inr rfl)⟩
 have sN : t.work.stand≠n:=by
  intro e; have:=q.dn.2.2.2.2; rw [<- e] at this; have:=m.hs; omega
 have hgr : Gro g (insG g P.clock t.work a n) P.mem M1 P.clock (P.clock + 1) P.ts (P.ts.set i { t with work:=k' }) i:=by
  refine ⟨by omega,fun x hx=>(hgd x).2 hx,?_,?_⟩
  ·intro x hx;have hu:=h.usedGd hx;rw [hB,if_neg (gN x hx)];simp only [Us,Ky,Ln,Re,Ra,hnd];refine ⟨hu,trivial,trivial,trivial,fun k hk=>?_,fun hr=>.inl ⟨hr,trivial⟩⟩;rw [hR,if_neg (gN x hx)]; exact hk
  ·intro x hx;simp only [Us,Ho,hnd] at hx ⊢;exact ⟨fun h=>⟨hx,h⟩,fun h=>h.2⟩
 have hz : ¬ (tr.ins t.work.key t.work.value a n).Has 0:=by
  rw [iHas]; rintro (e | e | e)
  ·exact hVd.z e
  ·exact q.z.1 e.symm
  ·exact q.z.2.1 e.symm
 refine h.build ht ?_ w1 ?_ ?_ ?_ ?_
 ·-- the others
  intro j u hne hj;refine ⟨by omega,hgr.ga,hgr.gn,fun x hx=>hx,?_,?_,fun x y _=>hnd y,?_,by rw [hV]; exact hz⟩
  ·intro x hx;have ns : x≠t.work.stand:=fun e=>h.notOther ht hj hne ⟨m.us,m.hs⟩ (e ▸ hx)
   have nn : x≠n:=fun e=>h.freshNot ht hj hne ((mF n).2 (.inr rfl)) (e ▸ hx)
   refine ⟨hnd x,fun s=>by rw [w3,if_neg nn],fun s st d hd=>?_,fun s d hd=>?_,by rw [hB,if_neg nn]⟩
   ·rcases (w4 x s st d).1 hd with e | e
    ·exact e
    ·exact absurd e.1 nn
   ·rw [hV,iEd];rw [<- htr] at hd;exact .inl ⟨hd,fun e=>ns (sole x s (e ▸ hd)).1⟩
  ·rintro x ⟨b,hk,hn',hm⟩;obtain ⟨a',n',q'⟩:=(h.th j u hj).f8 b hk hn';have hF : Fr x u:=⟨b,hk,.inl hn',hm⟩;have nt : ¬ Fr x t:=fun e=>hne (h.o.pw j i u t x hj ht hF e)
   rw [mF] at nt;rw [q'.md] at hm
   have:=q'.h
   rw [<- htr] at this;rw [hV,hO,iHas];simp at hm; grind
  ·intro x hx;simp only [Us,Ho,hnd] at hx ⊢;exact ⟨fun h=>⟨hx,h⟩,fun h=>h.2⟩
 ·-- the nodes
  obtain ⟨gt,⟨ag1,ag2⟩,n0,tn,us,ou,od,ot,re,ro,lk,ph,pr,pp,rg,bd⟩:=h.n;rw [<- htr] at *;have hgt' : Gt (tr.ins t.work.key t.work.value a n):=by
   refine ⟨Tr.ins_dj hdj hNh.1 hNh.2.1 q.ne,hz,Tr.ins_ok hVd.ok (by rw [hgo]; exact hnk),Tr.ins_lea.2 (.inl hVd.one),?_⟩;intro x k v hx hx1;rcases Tr.ins_lea.1 hx with e | ⟨_,e,_⟩
   ·exact hVd.kr x k v e hx1
   ·rw [e]; exact hky
  refine ⟨by rw [hV]; exact hgt',⟨?_,?_⟩,?_,?_,?_,?_,?_,?_,?_,?_,?_,?_,?_,?_,?_,?_⟩
  ·intro x qq hx;rw [hV,Tr.ins_nod,hgo] at hx;simp only [Us,Ln,Ky,hnd];rcases hx with e | ⟨rfl,e⟩
   ·exact hag.n x qq e
   ·exact ⟨q.ua.2,q.dn.2.2.1,by rw [e]; exact q.dn.2.2.2.1⟩
  ·intro x qq w hx;rw [hV,Tr.ins_lea] at hx;simp only [Us,Ln,Ky,hnd];rcases hx with e | ⟨rfl,rfl,rfl⟩
   ·exact hag.l x qq w e
   ·exact ⟨q.ua.1,q.da.2.2.1,q.da.2.2.2.1,q.da.2.2.2.2.1⟩
  ·simp only [Us,Ln,hnd]; exact n0
  ·intro x hx;rw [hV,iHas] at hx;rw [hnd];rcases hx with e | rfl | rfl
   ·exact tn x e
   ·exact ⟨q.da.1,q.da.2.1⟩
   ·exact ⟨q.dn.1,q.dn.2.1⟩
  ·intro x hx;simp only [Us,hnd] at hx;rw [hV,iHas,hO];rcases us x hx with e | e | e | e
   ·exact .inl e
   ·exact .inr (.inl (.inl e))
   ·exact .inr (.inr (.inl e))
   ·rcases e.or ht with e | ⟨j,u,e1,e2,e3⟩
    ·exact .inr (.inl (.inr ((mF x).1 ⟨e.1,e.2.1,.inl e.2.2.1,e.2.2.2⟩)))
    ·exact .inr (.inr (.inr (Ex.other e2 e3 e1)))
  ·intro x hx;rw [hO] at hx
   have:=ou x hx
   simp only [Us,Ln,hnd];rw [hV,iHas];refine ⟨this.1,?_,this.2.2⟩;rintro (e | rfl | rfl)
   ·exact this.2.1 e
   ·exact hNh.2.2.1 hx
   ·exact hNh.2.2.2 hx
  ·intro x hx; simp only [De,hnd] at hx; exact od x hx
  ·intro x hx; simp only [De,hnd]; rw [tk]; exact ot x hx
  ·intro x hx; simp only [De,Re,Ra,hnd] at hx ⊢; have:=re x hx; exact ⟨this.1,Int.le_trans this.2 (by omega)⟩
  ·intro x hx; simp only [De,Re,hnd] at hx ⊢; rw [own]; exact ro x hx
  ·intro x s d hd;rw [hV,iEd] at hd;simp only [Ld,hnd];rcases hd with ⟨e,_⟩ | ⟨_,e⟩ | ⟨rfl,e⟩
   ·rcases lk x s d e with e | e
    ·exact .inl e
    ·right;rcases e.or ht with ⟨_,_,e,_⟩ | ⟨j,u,e1,e2,e3⟩
     ·omega
     ·exact Ex.other e2 e3 e1
   ·right;obtain ⟨rfl,rfl⟩:=sole x s e;exact Ex.new ht ⟨hb,.inl hkk,.inr hkn,by rw [hk']; exact e1,by rw [hk']; show t.work.tside = _; rw [m4,e1]⟩
   ·exact .inl (by rw [e]; exact q.ld s)
  ·intro x s hx hs;rw [hgd] at hx ⊢;simp only [Ln,Ld,Re,Ra,hnd] at hx ⊢
   have:=ph x s hx hs
   rw [hB,hB,if_neg (gN _ (.inr this.1)),if_neg (gN x (by rcases hx with e | e; exact .inl e; exact .inr e.2))];exact this
  ·intro x s k hx hRx hsd;rw [hgd] at hx;rw [usd] at hsd;simp only [Ln,Ld,hnd] at hx ⊢;intro hl;have hs0 : x = 0->s = false:=fun e0=>by rw [<- hsd,e0]; exact sd0 n0.2.1 k
   have:=ph x s hx hs0
   rw [hR,if_neg (gN x (by rcases hx with e | e; exact .inl e; exact .inr e.2))] at hRx;rw [hR,if_neg (gN _ (.inr this.1))];exact pr x s k hx hRx hsd hl
  ·intro x s hOx;simp only [Ln,Ld,Re,hnd]; rw [pair]; exact pp x s hOx
  ·intro x k hx;rw [hV] at hx ⊢;rw [iInn] at hx;rw [hR];by_cases e : x = n
   ·rw [if_pos e,e]
   ·rw [if_neg e,Tr.ins_pth hNh.2.1 e];exact rg x k (hx.resolve_right e)
  ·intro x;rw [hB]; have:=bd x; split <;> omega
 ·-- the entries
  refine ⟨?_,?_⟩
  ·intro x s st d hd;simp only [Us,Ln,hnd];rcases (w4 x s st d).1 hd with e | ⟨rfl,rfl,_⟩
   ·have:=h.e.ms x s st d e; exact ⟨this.1,this.2.1,by omega,this.2.2.2⟩
   ·have:=q.dn.2.2.1; simp only [Ln] at this
    exact ⟨q.ua.2,by omega,by omega,by rw [this]; cases s <;> simp [b2i]⟩
  ·intro x s d hd;rw [w3] at hd;by_cases en : x = n
   ·rw [if_pos en] at hd; simp at hd
   ·rw [if_neg en] at hd;rcases (h.e.pd x s d hd).or ht with (e | e) | ⟨j,u,e1,e2,e3⟩
    ·obtain ⟨a1,a2,a3,a4,a5,a6⟩:=e;exact Ex.new ht (.inl ⟨a1,.inl hkk,by show 8<=k'.next; omega,by show k'.next<=11; omega,by rw [hk']; exact a5,by rw [hk']; exact a6⟩)
    ·exfalso;rcases (mF x).1 ⟨e.1,e.2.1,.inl e.2.2.1,e.2.2.2⟩ with rfl | rfl
     ·rw [q.pa] at hd; simp at hd
     ·exact en rfl
    ·exact Ex.other e2 e3 e1
 ·refine h.o.keep ht (by omega) (fun x hx=>.inl ⟨hx.1,k1,.inl hn,by rw [<- hkm]; exact hx.2.2.2⟩) (fun x y hx=>?_) ?_ ?_
  ·obtain ⟨_,e,_⟩:=hx; have : k'.kind = 2:=e; omega
  ·intro x hx; simp only [Us,Ho,hnd] at hx ⊢; exact .inr ⟨hx,trivial⟩
  ·intro x _ hr; simp only [Re,Ra,hnd] at *; exact ⟨hr,trivial⟩
 ·refine hT.own (k:=k') h.n.one.1 hb (by omega) (by omega) hgr (by rw [hk']; exact ⟨rfl,rfl,rfl,rfl,rfl,rfl,rfl,rfl,rfl⟩) (by omega) (by omega) (by omega) (by omega) ?_ (by omega) ?_ (by omega) ?_ (by omega) (by omega) (by omega) ?_
  ·intro _ _; simp only [Ky,hnd]; rw [hk']; exact hT.c7 hb (by omega) (by omega)
  ·intro _ _; simp only [usd]; rw [hk']; exact hT.tt hb (by omega) (by omega)
  ·intro _ _;have hkid : ∀ b,kid M1 k' a b = kid P.mem t.work a b:=by
    intro b;have e : Ky M1 t.work.ahead = Ky P.mem t.work.ahead:=by simp only [Ky]; rw [hnd]
    rw [hk']; unfold kid;show (if decide (Ky M1 t.work.ahead < t.work.key) = b then a else t.work.ahead) = _;rw [e]
   have ks : k'.stand = t.work.stand:=by rw [hk']
   have kk : k'.key = t.work.key:=by rw [hk']
   have ka : k'.ahead = t.work.ahead:=by rw [hk']
   refine ⟨a,n,by rw [hkm]; exact q.md,q.ne,?_,?_,?_,?_,?_,?_,?_,?_⟩
   ·simp only [Us,hnd]; rw [hV,iHas,iInn]; exact ⟨q.ua.1,q.ua.2,.inr (.inl rfl),.inr rfl⟩
   ·simp only [Ln,Ho,hnd]; exact ⟨q.da.2.2.1,q.dn.2.2.1,q.dn.2.2.2.2,q.da.2.2.2.2.2⟩
   ·intro b; rw [hkid]; simp only [Ld,hnd]; exact q.ld b
   ·intro b; rw [hkid,hV,iEd]; exact .inr (.inr ⟨rfl,rfl⟩)
   ·rw [hV,iEd,ks,kk,usd]; exact .inr (.inl ⟨rfl,e7⟩)
   ·rw [ks,kk,usd,w3,if_neg sN]; exact q.ps
   ·rw [ks,kk,ka,usd]; simp only [Ld,hnd]; exact e8
   ·rw [hB,hB,ks,if_neg sN,if_pos rfl]; have:=h.n.bd t.work.stand; omega
  ·intro _ _;have ksrc : k'.tsrc = t.work.stand:=by rw [hk']; exact e1
   refine ⟨by rw [hk'],?_,?_,?_,?_⟩
   ·rw [hk']; show t.work.time < P.clock + 1; omega
   ·rw [hk']; show 0<=P.clock + 1; omega
   ·rw [hk']; show P.clock + 1<=P.clock + 1; omega
   ·intro s d hh;rw [ksrc] at hh;have : k'.ans.stamp = P.clock + 1:=by rw [hk']
    rw [this];rcases (w4 _ _ s d).1 hh with e | e
    ·have:=h.e.ms _ _ s d e; omega
    ·exact absurd e.1 sN
end
end T
end
section
namespace T
section
variable {g g' : Gh} {M M' : PMem} {c c' : Int} {r : PSweep} {i j : Nat} {t t' u : PThread} {ts ts' : List PThread} {P : PSt} {x d : Int} {s : Bool} {key : Int} {k : PWork}
theorem notSide {s b : Bool} (h : ¬ s = b) : s = !b:=by cases s <;> cases b <;> simp_all
def Thru (M : PMem) (tr : Tr) (q x : Int) (u : PThread) : Prop:=u.busy = true/\u.work.kind = 2/\(u.work.next = 9\/u.work.next = 10)/\u.work.stand = x/\(u.work.above = 0\/tr.Pth q u.work.above)/\sd M u.work.above q = u.work.tside
def delG (g : Gh) (M : PMem) (c : Int) (ts' : List PThread) (k : PWork) : Gh where
 V:=fun T=>if T = c + 1 then (g.V c).del k.key else g.V T
 B:=g.B
 R:=fun x q=>g.R x q\/((g.V c).del k.key).Pth q x\/Ex ts' (Thru M ((g.V c).del k.key) q x)
 O:=fun x=>g.O x\/x = k.stand\/x = k.ahead
theorem Inv.cut (h : Inv g P) (ht : P.ts[i]? = some t) (hb : t.busy = true) (h7 : 7<=t.work.next) (h8 : t.work.next<=8) (k2 : t.work.kind = 2) : Tr.Cut 0 false (g.V P.clock) t.work.key t.work.stand t.work.above (Ld P.mem t.work.stand (!sd P.mem t.work.stand t.work.key)) (sd P.mem t.work.stand t.work.key) (sd P.mem t.work.above t.work.key):=by
 have hT:=h.th i t ht;have m:=h.mine ht hb h7 (by omega);have hA:=m.ab (m.mt k2 (.inl (by omega)));obtain ⟨e1,e2,e3⟩:=hT.e7 hb h7 h8;have hf:=h.found ht hb h7 h8;have hi : (g.V P.clock).Inn t.work.stand:=by
  rcases (Tr.ed_has e1).2 with e | e
  ·exact absurd e hA.2.2.1
  ·exact e
 exact ⟨by rw [hf]; exact e1,(e3 k2).1,h.edge ht m.us m.hs h8 (.inr hi)⟩
theorem Inv.takeDel (h : Inv g P) (ht : P.ts[i]? = some t) (hb : t.busy = true) (hn : t.work.next = 8) (k2 : t.work.kind = 2) (v : Int) :
  Inv (delG g P.mem P.clock (P.ts.set i { t with work:={ t.work with ans:={ did:=true,stamp:=P.clock + 1,value:=v },next:=9 } }) t.work) { P with clock:=P.clock + 1,ts:=P.ts.set i { t with work:={ t.work with ans:={ did:=true,stamp:=P.clock + 1,value:=v },next:=9 } } }:=by
 have hT:=h.th i t ht;have m:=h.mine ht hb (by omega) (by omega);obtain ⟨m1,m2,m3,m4,m5,m6⟩:=m.ts (by omega) (by omega);have e1:=m6 k2;have hM:=m.mt k2 (.inl (by omega));have hA:=m.ab hM;obtain ⟨e7,e8,e9⟩:=hT.e7 hb (by omega) (by omega);obtain ⟨e10,e11⟩:=e9 k2;have q8:=hT.q8 hb k2 (by omega) (by omega);have htm:=hT.tm hb (by omega);have hky:=hT.ky hb (by omega);have hc0:=h.o.sc;have hgo:=h.found ht hb (by omega) (by omega);have hcut:=h.cut ht hb (by omega) (by omega) k2;obtain ⟨k',hk'⟩ : ∃ k' : PWork,k' = { t.work with ans:={ did:=true,stamp:=P.clock + 1,value:=v },next:=9 }:=⟨_,rfl⟩;have hkk : k'.kind = 2:=by rw [hk']; exact k2
 have hkn : k'.next = 9:=by rw [hk']
 rw [show ({ t.work with ans:={ did:=true,stamp:=P.clock + 1,value:=v },next:=9 } : PWork) = k' from hk'.symm];obtain ⟨tr,htr⟩ : ∃ tr,tr = g.V P.clock:=⟨_,rfl⟩;obtain ⟨ts',hts'⟩ : ∃ ts',ts' = P.ts.set i { t with work:=k' }:=⟨_,rfl⟩;obtain ⟨G,hG⟩ : ∃ G,G = delG g P.mem P.clock (P.ts.set i { t with work:=k' }) t.work:=⟨_,rfl⟩;rw [<- hG];have hV : G.V (P.clock + 1) = tr.del t.work.key:=by rw [hG]; unfold delG; simp [htr]
 have hO : ∀ x,G.O x ↔ g.O x\/x = t.work.stand\/x = t.work.ahead:=fun x=>by rw [hG]; exact Iff.rfl
 have hB : ∀ x,G.B x = g.B x:=fun x=>by rw [hG]; rfl
 have hR : ∀ x q,G.R x q ↔ g.R x q\/(tr.del t.work.key).Pth q x\/Ex ts' (Thru P.mem (tr.del t.work.key) q x):=fun x q=>by rw [hG,hts',htr]; exact Iff.rfl
 have hVd:=h.n.gt;have hag:=h.n.ag;rw [<- htr] at hVd hag hgo e7 e10 hcut;obtain ⟨mm,hmm⟩ : ∃ mm,mm = Ld P.mem t.work.stand (!sd P.mem t.work.stand t.work.key):=⟨_,rfl⟩;rw [<- hmm] at hcut;have hdj:=hVd.dj;have hz:=hVd.z;have hci:=hcut.inn hdj hz;rw [hgo] at hci;simp only at hci;have iHas : ∀ x,(tr.del t.work.key).Has x ↔ tr.Has x/\x≠t.work.stand/\x≠t.work.ahead:=by
  intro x; have:=Tr.del_has (z:=x) hdj hz hcut; rw [hgo] at this; exact this
 have iInn : ∀ x,(tr.del t.work.key).Inn x ↔ tr.Inn x/\x≠t.work.stand:=fun x=>Tr.del_inn hdj hz hcut
 have iEd : ∀ x s d,A (tr.del t.work.key) x s d ↔ (A tr x s d/\x≠t.work.stand/\d≠t.work.stand)\/(x = t.work.above/\s = sd P.mem t.work.above t.work.key/\d = mm):=fun x s d=>Tr.del_ed hdj hz hcut
 have hHs : tr.Has t.work.stand:=Tr.inn_has hci.1;have hHa : tr.Has t.work.ahead:=(Tr.ed_has e7).1;have nOs : ¬ g.O t.work.stand:=fun e=>(h.n.ou _ e).2.1 (htr ▸ hHs)
 have nOa : ¬ g.O t.work.ahead:=fun e=>(h.n.ou _ e).2.1 (htr ▸ hHa)
 have parS : ∀ x s,A tr x s t.work.stand->x = t.work.above/\s = sd P.mem t.work.above t.work.key:=fun x s hx=>Tr.ed_par hdj hz hx e10
 have parA : ∀ x s,A tr x s t.work.ahead->x = t.work.stand/\s = sd P.mem t.work.stand t.work.key:=fun x s hx=>Tr.ed_par hdj hz hx e7
 have off : ∀ {p : PThread->Prop},(p { t with work:=k' }->False)->(p t->False)->(Ex (P.ts.set i { t with work:=k' }) p ↔ Ex P.ts p):=fun a b=>ex_iff ht (iff_of_false a b)
 have fr8 : ∀ x,Ex (P.ts.set i { t with work:=k' }) (Fr8 x) ↔ Ex P.ts (Fr8 x):=fun x=>off (by rintro ⟨_,e,_⟩; have : k'.kind = 1:=e; omega) (by rintro ⟨_,e,_⟩; omega)
 have fr : ∀ x,Ex (P.ts.set i { t with work:=k' }) (Fr x) ↔ Ex P.ts (Fr x):=fun x=>off (by rintro ⟨_,e,_⟩; have : k'.kind = 1:=e; omega) (by rintro ⟨_,e,_⟩; omega)
 have own : ∀ x,Ex (P.ts.set i { t with work:=k' }) (Own x) ↔ Ex P.ts (Own x):=fun x=>off (by rintro ⟨_,_,e,_⟩; have : k'.next = 10\/k'.next = 11\/(k'.next = 12/\_):=e; omega) (by rintro ⟨_,_,e,_⟩; omega)
 have hgd : ∀ x,Gd G (P.clock + 1) (P.ts.set i { t with work:=k' }) x ↔ Gd g P.clock P.ts x:=by
  intro x;unfold Gd;rw [fr,hV,hO,iHas,<- htr];refine and_congr ⟨?_,?_⟩ Iff.rfl
  ·rintro ((e | rfl | rfl) | e)
   ·exact .inl e
   ·exact .inr hHs
   ·exact .inr hHa
   ·exact .inr e.1
  ·rintro (e | e)
   ·exact .inl (.inl e)
   ·by_cases q1 : x = t.work.stand
    ·exact .inl (.inr (.inl q1))
    ·by_cases q2 : x = t.work.ahead
     ·exact .inl (.inr (.inr q2))
     ·exact .inr ⟨e,q1,q2⟩
 have hgr : Gro g G P.mem P.mem P.clock (P.clock + 1) P.ts (P.ts.set i { t with work:=k' }) i:=by
  refine ⟨by omega,fun x hx=>(hgd x).2 hx,?_,?_⟩
  ·intro x hx;exact ⟨h.usedGd hx,rfl,rfl,hB x,fun k hk=>(hR x k).2 (.inl hk),fun hr=>.inl ⟨hr,rfl⟩⟩
  ·intro x hx;exact ⟨fun h=>⟨hx,h⟩,fun h=>h.2⟩
 have hz' : ¬ (tr.del t.work.key).Has 0:=fun e=>hz ((iHas 0).1 e).1
 have own2 : ∀ x,Ho P.mem x = i->∀ (j : Nat),Ho P.mem x = j->j = i:=fun x e1 j e2=>by rw [e1] at e2; omega
 -- what another Remove has cut stays
 have others : ∀ (j : Nat) u,j≠i->P.ts[j]? = some u->u.busy = true->u.work.kind = 2->(u.work.next = 9\/u.work.next = 10\/u.work.next = 11\/(u.work.next = 12/\u.work.ans.did = true))->A (tr.del t.work.key) u.work.above (sd P.mem u.work.above u.work.key) (Ld P.mem u.work.stand (!sd P.mem u.work.stand u.work.key))/\Ld P.mem u.work.stand (!sd P.mem u.work.stand u.work.key)≠t.work.stand/\Ld P.mem u.work.stand (!sd P.mem u.work.stand u.work.key)≠t.work.ahead:=by
  intro j u hne hj b hk hn';have hTj:=h.th j u hj;have q:=(hTj.q9 b hk hn').1;have hab:=hTj.hAbove h.n.one.1 b (by omega) (by omega) ⟨hk,q.ky⟩;have qa:=q.a;rw [<- htr] at qa;have n1 : u.work.above≠t.work.stand:=fun e=>hne (own2 _ m.hs j (e ▸ hab.2))
  have n2 : Ld P.mem u.work.stand (!sd P.mem u.work.stand u.work.key)≠t.work.stand:=by
   intro e;rw [e] at qa
   have:=(parS _ _ qa).1
   exact hne (own2 _ hA.2.1 j (this ▸ hab.2))
  have n3 : Ld P.mem u.work.stand (!sd P.mem u.work.stand u.work.key)≠t.work.ahead:=by
   intro e;rw [e] at qa;exact n1 (parA _ _ qa).1
  exact ⟨(iEd _ _ _).2 (.inl ⟨qa,n1,n2⟩),n2,n3⟩
 have mine : A (tr.del t.work.key) t.work.above (sd P.mem t.work.above t.work.key) mm:=(iEd _ _ _).2 (.inr ⟨rfl,rfl,rfl⟩);refine h.build (M':=P.mem) (t':={ t with work:=k' }) ht ?_ h.wm ?_ ?_ ?_ ?_
 ·-- the others
  intro j u hne hj;refine ⟨by omega,hgr.ga,hgr.gn,fun x hx=>(hO x).2 (.inl hx),?_,?_,fun x y _=>rfl,?_,by rw [hV]; exact hz'⟩
  ·intro x hx;have ns : x≠t.work.stand:=fun e=>h.notOther ht hj hne ⟨m.us,m.hs⟩ (e ▸ hx)
   have na : x≠t.work.above:=fun e=>h.notOther ht hj hne ⟨hA.1,hA.2.1⟩ (e ▸ hx)
   refine ⟨rfl,fun s=>rfl,fun s st d hd=>hd,fun s d hd=>?_,hB x⟩;rw [hV,iEd];rw [<- htr] at hd;exact .inl ⟨hd,ns,fun e=>na (parS x s (e ▸ hd)).1⟩
  ·rintro x ⟨b,hk,hn',hm⟩;obtain ⟨a',n',q'⟩:=(h.th j u hj).f8 b hk hn';have hF : Ex P.ts (Fr x):=⟨j,u,hj,b,hk,.inl hn',hm⟩;have n1 : x≠t.work.ahead:=fun e=>m.ah.2 (e ▸ hF)
   have n2 : x≠t.work.stand:=fun e=>by
    have:=(h.freshUs hj ⟨b,hk,.inl hn',hm⟩).2.2
    rw [e,m.hs] at this; omega
   rw [q'.md] at hm
   have:=q'.h
   rw [<- htr] at this;rw [hV,hO,iHas];simp at hm; grind
  ·intro x hx;exact ⟨fun h=>⟨hx,h⟩,fun h=>h.2⟩
 ·-- the nodes
  have hinn:=fun x=>h.n.inn (x:=x)
  have hqs : ∀ (j : Nat) u,P.ts[j]? = some u->u.busy = true->u.work.kind = 2->(u.work.next = 9\/u.work.next = 10\/u.work.next = 11\/(u.work.next = 12/\u.work.ans.did = true))->Outs g P.mem P.clock u.work:=fun j u hj b hk hn'=>((h.th j u hj).q9 b hk hn').1
  obtain ⟨gt,⟨ag1,ag2⟩,n0,tn,us,ou,od,ot,re,ro,lk,ph,pr,pp,rg,bd⟩:=h.n;rw [<- htr] at *;have hgt' : Gt (tr.del t.work.key):=by
   refine ⟨Tr.del_dj hdj hz hcut,hz',Tr.del_ok hdj hz hcut hVd.ok,?_,?_⟩
   ·rw [Tr.del_lea hdj hz hcut];refine ⟨hVd.one,fun e=>?_⟩;rw [hgo] at e;have e : 1 = t.work.ahead:=e;have e2:=(ag2 _ _ _ hVd.one).2.2.1
    have:=hM.2
    rw [<- e,e2] at this; omega
   ·intro x k v hx hx1;exact hVd.kr x k v ((Tr.del_lea hdj hz hcut).1 hx).1 hx1
  have hag' : Ag P.mem (tr.del t.work.key):=⟨fun x q hx=>ag1 x q ((Tr.del_nod hdj hz hcut).1 hx).1,fun x q w hx=>ag2 x q w ((Tr.del_lea hdj hz hcut).1 hx).1⟩
  -- on by the new tree
  have on' : ∀ x s d q,A (tr.del t.work.key) x s d->(x = 0\/(tr.del t.work.key).Pth q x)->sd P.mem x q = s->Ln P.mem d = 2->(tr.del t.work.key).Pth q d:=by
   intro x s d q hAd hx hs hl;have hd : (tr.del t.work.key).Inn d:=by
    have:=(iHas d).1 (Tr.ed_has hAd).1
    rw [iInn];exact ⟨(hinn d this.1).1.1 hl,this.2.1⟩
   have hg : ∀ y,((tr.del t.work.key).goal q).1 = y->¬ (tr.del t.work.key).Inn y:=by
    rintro y rfl hi;exact Tr.inn_lea hgt'.dj hi _ _ (Tr.goal_lea _)
   rcases hx with rfl | hx
   ·have:=(Tr.ed_root hgt'.dj hgt'.z hAd).2
    subst this;rcases Tr.pth_root (k:=q) (tr.del t.work.key) with e | e
    ·exact e
    ·exact absurd hd (hg _ e.1)
   ·obtain ⟨qq,hq⟩:=Tr.pth_nod hx;have hsd : sd P.mem x q = decide (qq<=q):=by
     have:=hag'.n x qq hq
     unfold sd PMem.sideFor;simp only [Ln,Ky] at this;rw [this.2.1,this.2.2]; simp
    rw [<- hs,hsd] at hAd;rcases Tr.pth_step hgt'.dj hgt'.z hx hq hAd with e | e
    ·exact e
    ·exact absurd hd (hg _ e)
  have lk' : ∀ x s d,A (tr.del t.work.key) x s d->Ld P.mem x s = d\/Ex (P.ts.set i { t with work:=k' }) (Xl x s):=by
   intro x s d hd;rcases (iEd x s d).1 hd with ⟨e,_⟩ | ⟨rfl,rfl,_⟩
   ·rcases lk x s d e with e | e
    ·exact .inl e
    ·right;rcases e.or ht with ⟨_,_,e,_⟩ | ⟨j,u,e1,e2,e3⟩
     ·omega
     ·exact Ex.other e2 e3 e1
   ·exact .inr (Ex.new ht ⟨hb,.inr hkk,.inl hkn,by rw [hk']; exact e1,by rw [hk']; show t.work.tside = _; rw [m4,e1]⟩)
  -- what an odd link leads to
  have odd : ∀ x s,Ex (P.ts.set i { t with work:=k' }) (Xl x s)->Ln P.mem (Ld P.mem x s) = 2->Ex ts' (fun u=>u.busy = true/\u.work.kind = 2/\(u.work.next = 9\/u.work.next = 10)/\u.work.stand = Ld P.mem x s/\u.work.above = x/\u.work.tside = s):=by
   intro x s hx hl;rw [hts'];rcases (Ex.get ht).1 hx with ⟨_,_,_,x1,x2⟩ | ⟨j,u,hne,hj,b,hk,hn',x1,x2⟩
   ·refine Ex.new ht ⟨hb,hkk,.inl hkn,?_,?_,x2⟩
    ·have x1 : k'.tsrc = x:=x1;have x2 : k'.tside = s:=x2;rw [hk'] at x1 x2 ⊢;have x1 : t.work.tsrc = x:=x1;have x2 : t.work.tside = s:=x2;show t.work.stand = Ld P.mem x s;rw [<- x1,<- x2,m4,e1]; exact e11.symm
    ·have x1 : k'.tsrc = x:=x1;rw [hk'] at x1 ⊢;have x1 : t.work.tsrc = x:=x1;show t.work.above = x;rw [<- x1,e1]
   ·have hTj:=h.th j u hj;obtain ⟨q1,q2⟩:=hTj.tt b (by omega) (by omega);rcases hk with hk | hk
    ·exfalso;rw [if_neg (by omega)] at q1;have hn' : u.work.next = 10:=by
      rcases hn' with hn' | hn'
      ·have:=hTj.n9 b hn'; omega
      ·exact hn'
     obtain ⟨a,n,q⟩:=hTj.f10 b hk hn';have h1:=q.ls;rw [<- q1,<- q2,x1,x2] at h1;rw [h1] at hl
     have:=(hTj.cs b (by omega) (by omega)).2.2.1
     omega
    ·rw [if_pos hk] at q1;have h1:=(hTj.q8 b hk (by omega) (by omega)).2.1;rw [<- q1,<- q2,x1,x2] at h1;exact Ex.other hj ⟨b,hk,hn',h1.symm,q1.symm.trans x1,x2⟩ hne
  refine ⟨by rw [hV]; exact hgt',by rw [hV]; exact hag',n0,?_,?_,?_,?_,?_,?_,?_,?_,?_,?_,?_,?_,?_⟩
  ·intro x hx; rw [hV,iHas] at hx; exact tn x hx.1
  ·intro x hx;rw [hV,iHas,hO,fr8];rcases us x hx with e | e | e | e
   ·exact .inl e
   ·by_cases q1 : x = t.work.stand
    ·exact .inr (.inr (.inl (.inr (.inl q1))))
    ·by_cases q2 : x = t.work.ahead
     ·exact .inr (.inr (.inl (.inr (.inr q2))))
     ·exact .inr (.inl ⟨e,q1,q2⟩)
   ·exact .inr (.inr (.inl (.inl e)))
   ·exact .inr (.inr (.inr e))
  ·intro x hx;rw [hV,iHas];rcases (hO x).1 hx with e | rfl | rfl
   ·have:=ou x e; exact ⟨this.1,fun q=>this.2.1 q.1,this.2.2⟩
   ·exact ⟨m.us,fun q=>q.2.1 rfl,hA.2.2.1,.inr hA.2.2.2.2⟩
   ·exact ⟨h.usedGd (.inr m.ah),fun q=>q.2.2 rfl,m.a0,.inl m.al⟩
  ·intro x hx; exact (hO x).2 (.inl (od x hx))
  ·intro x hx;rcases (hO x).1 hx with e | e
   ·rcases ot x e with e | e
    ·exact .inl e
    ·right;rcases e.or ht with ⟨_,_,e,_⟩ | ⟨j,u,e1,e2,e3⟩
     ·omega
     ·exact Ex.other e2 e3 e1
   ·exact .inr (Ex.new ht ⟨hb,hkk,hkn,by show x = k'.stand\/x = k'.ahead; rw [hk']; exact e⟩)
  ·intro x hx; have:=re x hx; exact ⟨this.1,by omega⟩
  ·intro x hx; rw [own]; exact ro x hx
  ·intro x s d hd; rw [hV] at hd; exact lk' x s d hd
  ·intro x s hx hs;rw [hgd] at hx ⊢;rw [hB,hB]; exact ph x s hx hs
  ·-- the keys that come by
   intro x s q hx hRx hsd hl;rw [hgd] at hx;have viaT : x = 0\/(tr.del t.work.key).Pth q x->G.R (Ld P.mem x s) q:=by
    intro hxp;obtain ⟨d',hd'⟩ : ∃ d',A (tr.del t.work.key) x s d':=by
     rcases hxp with rfl | hxp
     ·have : s = false:=by rw [<- hsd]; exact sd0 n0.2.1 q
      rw [this]; exact ⟨_,Tr.ed_pl 0 false _⟩
     ·exact Tr.inn_ed 0 false s (Tr.pth_inn hxp)
    rw [hR];rcases lk' x s d' hd' with e | e
    ·right; left;exact on' x s _ q (e ▸ hd') hxp hsd hl
    ·right; right;obtain ⟨j,u,hj,b,hk,hn',x1,x2,x3⟩:=odd x s e hl;exact ⟨j,u,hj,b,hk,hn',x1,by rw [x2]; exact hxp,by rw [x2,x3]; exact hsd⟩
   rcases hRx with e | e
   ·exact viaT (.inl e)
   ·rcases (hR x q).1 e with e | e | e
    ·exact (hR _ q).2 (.inl (pr x s q hx (.inr e) hsd hl))
    ·exact viaT (.inr e)
    ·rw [hR];right; left;rw [hts'] at e
     -- by a place that is just cut
     have key : ∀ (above key0 : Int),sd P.mem above q = sd P.mem above key0->(above = 0\/(tr.del t.work.key).Pth q above)->A (tr.del t.work.key) above (sd P.mem above key0) (Ld P.mem x s)->(tr.del t.work.key).Pth q (Ld P.mem x s):=fun above key0 y1 y2 y3=>on' above _ _ q y3 y2 y1 hl
     rcases (Ex.get ht).1 e with ⟨_,_,_,y1,y2,y3⟩ | ⟨j,u,hne,hj,b,hk,hn',y1,y2,y3⟩
     ·have ks : k'.stand = t.work.stand:=by rw [hk']
      have ka : k'.above = t.work.above:=by rw [hk']
      have kt : k'.tside = sd P.mem t.work.above t.work.key:=by rw [hk']; show t.work.tside = _; rw [m4,e1]
      have y1 : k'.stand = x:=y1;have y2 : k'.above = 0\/(tr.del t.work.key).Pth q k'.above:=y2;have y3 : sd P.mem k'.above q = k'.tside:=y3;rw [ks] at y1;rw [ka] at y2 y3;rw [kt] at y3;subst y1;have hs : s = !sd P.mem t.work.stand t.work.key:=by
       refine notSide (fun hh=>?_);rw [hh,e8] at hl
       have:=m.al; omega
      refine key _ t.work.key y3 y2 ?_;rw [hs,<- hmm]; exact mine
     ·have q9:=hqs j u hj b hk (by omega);have hTj:=h.th j u hj;have htj:=hTj.tt b (by omega) (by omega);rw [if_pos hk] at htj;rw [htj.1] at htj;subst y1;have hs : s = !sd P.mem u.work.stand u.work.key:=by
       refine notSide (fun hh=>?_);rw [hh,q9.ld] at hl
       have:=(hTj.cs b (by omega) (by omega)).2.2.1; omega
      refine key _ u.work.key (y3.trans htj.2) y2 ?_;rw [hs]; exact (others j u hne hj b hk (by omega)).1
  ·-- places cut one below the other
   intro x s hOx hl hOd;rcases (hO x).1 hOx with e | rfl | rfl
   ·rcases (hO _).1 hOd with e2 | e2
    ·rcases pp x s e hl e2 with e3 | e3
     ·exact .inl e3
     ·right;rcases e3.or ht with ⟨_,_,e,_⟩ | ⟨j,u,e1,e2,e3⟩
      ·omega
      ·exact Ex.other e2 e3 e1
    ·left
     -- its own cutter would hold what we hold
     have fin : ∀ (j : Nat) u,P.ts[j]? = some u->u.busy = true->u.work.kind = 2->(u.work.next = 9\/u.work.next = 10\/u.work.next = 11\/(u.work.next = 12/\u.work.ans.did = true))->(x = u.work.stand\/x = u.work.ahead)->Re P.mem x:=by
      intro j u hj b hk hn' hx;exfalso;have hTj:=h.th j u hj;have q9:=hqs j u hj b hk hn';have hne : j≠i:=by
       rintro rfl;rw [ht] at hj; injection hj with hj; subst hj
       omega
      rcases hx with rfl | rfl
      ·obtain ⟨o1,o2,o3⟩:=others j u hne hj b hk hn';by_cases hs : s = sd P.mem u.work.stand u.work.key
       ·rw [hs,q9.ld] at e2;rcases e2 with e2 | e2
        ·exact nOs (e2 ▸ q9.o.2)
        ·exact nOa (e2 ▸ q9.o.2)
       ·have hs:=notSide hs;rw [hs] at e2;rcases e2 with e2 | e2
        ·exact o2 e2
        ·exact o3 e2
      ·have:=(hTj.cs b (by omega) (by omega)).2.2.1; omega
     rcases ot x e with e3 | ⟨j,u,hj,b,hk,hn',hx⟩
     ·rcases ro x e3 with e4 | ⟨j,u,hj,b,hk,hn',hx⟩
      ·exact e4
      ·exact fin j u hj b hk (.inr hn') hx
     ·exact fin j u hj b hk (.inl hn') hx
   ·right;by_cases hs : s = sd P.mem t.work.stand t.work.key
    ·rw [hs,e8];exact Ex.new ht ⟨hb,hkk,.inl hkn,by rw [hk'],by rw [hk']⟩
    ·exfalso;have hs:=notSide hs;rw [hs,<- hmm] at hOd;rcases (hO _).1 hOd with q | q | q
     ·exact (ou _ q).2.1 hci.2.1
     ·exact hci.2.2.1 q.symm
     ·exact hci.2.2.2.2.1 q.symm
   ·have:=m.al; omega
  ·intro x q hx;rw [hV] at hx ⊢;rw [iInn] at hx;rw [hR];constructor
   ·rintro (e | e | e)
    ·exact Tr.del_pth hdj hz hcut ((rg x q hx.1).1 e) hx.2
    ·exact e
    ·exfalso;rw [hts'] at e;rcases (Ex.get ht).1 e with ⟨_,_,_,y1,_⟩ | ⟨j,u,hne,hj,b,hk,hn',y1,_⟩
     ·have y1 : k'.stand = x:=y1;rw [hk'] at y1;exact hx.2 y1.symm
     ·have q9:=hqs j u hj b hk (by omega);exact (ou x (y1 ▸ q9.o.1)).2.1 (Tr.inn_has hx.1)
   ·intro e; exact .inr (.inl e)
  ·intro x; rw [hB]; have:=bd x; omega
 ·-- the entries
  refine ⟨?_,?_⟩
  ·intro x s st d hd
   have:=h.e.ms x s st d hd; exact ⟨this.1,this.2.1,by omega,this.2.2.2⟩
  ·intro x s d hd;rcases (h.e.pd x s d hd).or ht with (e | e) | ⟨j,u,e1,e2,e3⟩
   ·obtain ⟨a1,a2,a3,a4,a5,a6⟩:=e;exact Ex.new ht (.inl ⟨a1,.inr hkk,by show 8<=k'.next; omega,by show k'.next<=11; omega,by rw [hk']; exact a5,by rw [hk']; exact a6⟩)
   ·obtain ⟨_,e,_⟩:=e; omega
   ·exact Ex.other e2 e3 e1
 ·refine h.o.keep ht (by omega) (fun x hx=>?_) (fun x y hx=>?_) ?_ ?_
  ·obtain ⟨_,e,_⟩:=hx; have : k'.kind = 1:=e; omega
  ·right;obtain ⟨_,_,_,_,y2⟩:=hx;have y2 : k'.ahead = y:=y2;rw [hk'] at y2;have y2 : t.work.ahead = y:=y2;intro j u x' hj hp
   have:=(h.pairNot ht hj hp).2.2.2.2.1
   exact nOa (y2 ▸ this)
  ·intro x hx; exact .inr ⟨hx,rfl⟩
  ·intro x _ hr; exact ⟨hr,rfl⟩
 ·refine hT.own (k:=k') h.n.one.1 hb (by omega) (by omega) hgr (by rw [hk']; exact ⟨rfl,rfl,rfl,rfl,rfl,rfl,rfl,rfl,rfl⟩) (by omega) (by omega) (by omega) (fun _=>hkk) ?_ (by omega) ?_ (by omega) (by omega) ?_ ?_ (by omega) ?_
  ·intro _ _; rw [hk']; exact hT.c7 hb (by omega) (by omega)
  ·intro _ _; rw [hk']; exact hT.tt hb (by omega) (by omega)
  ·intro _ _ _; rw [hk']; exact q8
  ·intro _ _;refine ⟨⟨?_,?_,?_,?_,?_,?_⟩,fun e=>absurd hkn e⟩
   ·rw [hk']; exact ⟨(hO _).2 (.inr (.inl rfl)),(hO _).2 (.inr (.inr rfl))⟩
   ·rw [hk']; exact ⟨(h.n.tn _ (htr ▸ hHs)).2,(h.n.tn _ (htr ▸ hHa)).2⟩
   ·rw [hk']; exact e8
   ·rw [hV,hk']; show A _ t.work.above (sd P.mem t.work.above t.work.key) (Ld P.mem t.work.stand (!sd P.mem t.work.stand t.work.key)); rw [<- hmm]; exact mine
   ·rw [hk']; exact hM.2
   ·rw [hk']; exact hA.2.2.2.2
  ·intro _ _;refine ⟨by rw [hk'],?_,?_,?_,?_⟩
   ·rw [hk']; show t.work.time < P.clock + 1; omega
   ·rw [hk']; show 0<=P.clock + 1; omega
   ·rw [hk']; show P.clock + 1<=P.clock + 1; omega
   ·intro s d hh;have : k'.ans.stamp = P.clock + 1:=by rw [hk']
    rw [this]
    have:=h.e.ms _ _ s d hh; omega
end
end T
end
section
namespace T
section
variable {g g' : Gh} {M M' : PMem} {c c' : Int} {r : PSweep} {i j : Nat} {t t' u : PThread} {ts ts' : List PThread} {P : PSt} {x d : Int} {s : Bool} {key : Int} {k : PWork}
def Took (P : PSt) (t : PThread) : Prop:=t.work.next = 8/\(t.work.kind = 1\/t.work.kind = 2)/\¬ P.limit<=P.clock
instance (P : PSt) (t : PThread) : Decidable (Took P t):=inferInstanceAs (Decidable (_/\_))
def nextG (g : Gh) (P : PSt) (i : Nat) (t : PThread) : Gh :=
 if Took P t then (if t.work.kind = 2 then delG g P.mem P.clock (P.step i t).1.ts t.work else insG g P.clock t.work (t.work.made[0]?.getD 0) (t.work.made[1]?.getD 0)) else g
theorem nextG_no (h : ¬ Took P t) : nextG g P i t = g:=by unfold nextG; rw [if_neg h]
theorem step_mid (P : PSt) (h4 : 4<=t.work.next) (h12 : t.work.next<=12) : P.step i t = if t.work.kind = 3\/t.work.kind = 4 then P.read i t.work else P.update i t.work:=by
 unfold PSt.step;split <;> first | (rename_i hh; omega) | rfl
theorem Inv.unlock (h : Inv g P) (ht : P.ts[i]? = some t) (hb : t.busy = true) (hn : t.work.next = 12) : Inv g (P.unlock i t.work):=by
 unfold PSt.unlock;simp only;by_cases hh : t.work.kind = 2/\t.work.ans.did = true
 ·rw [if_pos hh,setMW_to P ht]; exact h.retire ht hb hn hh.1 hh.2
 ·rw [if_neg hh,setMW_to P ht]; exact h.unlock0 ht hb hn hh
theorem Inv.read (h : Inv g P) (ht : P.ts[i]? = some t) (hb : t.busy = true) (hn : t.work.next = 4) (hk : t.work.kind = 3\/t.work.kind = 4) : Inv g (P.read i t.work).1:=by
 unfold PSt.read;simp only;split
 ·exact h
 ·rw [setW_to P ht];rcases hk with hk | hk
  ·rw [if_pos hk];unfold PSt.lookUp;split
   ·exact h.readTo ht hb hn (.inl hk) rfl (.inl hn) rfl rfl rfl rfl rfl (fun _=>rfl)
   ·exact h.readTo ht hb hn (.inl hk) rfl (.inr rfl) rfl rfl rfl rfl rfl (fun _=>rfl)
  ·rw [if_neg (by omega)];unfold PSt.scan;simp only;split
   ·exact h.readTo ht hb hn (.inr hk) rfl (.inr rfl) rfl rfl rfl rfl rfl (fun e=>absurd hk e)
   ·exact h.readTo ht hb hn (.inr hk) rfl (.inl hn) rfl rfl rfl rfl rfl (fun e=>absurd hk e)
theorem take_ts (P : PSt) (ht : P.ts[i]? = some t) (hn : t.work.next = 8) (hl : ¬ P.limit<=P.clock) (hk : t.work.kind = 1\/t.work.kind = 2) :
  P.step i t = (if t.work.kind = 2 then ({ P with clock:=P.clock + 1,ts:=P.ts.set i { t with work:={ t.work with ans:={ did:=true,stamp:=P.clock + 1,value:=(P.mem.node t.work.ahead).value },next:=9 } } },1)
   else ({ P with mem:=P.mem.stampsNew (P.clock + 1) t.work.made,clock:=P.clock + 1,ts:=P.ts.set i { t with work:={ t.work with ans:={ did:=true,stamp:=P.clock + 1 },next:=10 } } },1)):=by
 rw [step_mid P (by omega) (by omega),if_neg (by omega)];unfold PSt.update;simp only [hn];unfold PSt.take;rw [if_neg hl];by_cases k2 : t.work.kind = 2
 ·simp only [k2,if_true];rw [setW_to _ (show ({ P with clock:=P.clock + 1 } : PSt).ts[i]? = some t from ht)]
 ·simp only [k2,if_false];rw [setMW_to _ (show ({ P with clock:=P.clock + 1 } : PSt).ts[i]? = some t from ht)]
theorem Inv.step (h : Inv g P) (ht : P.ts[i]? = some t) (hb : t.busy = true) : Inv (nextG g P i t) (P.step i t).1:=by
 have hT:=h.th i t ht;have hnx:=hT.nx hb;have hkd:=hT.kd hb;have hrd:=hT.rd hb;by_cases hT8 : Took P t
 ·obtain ⟨hn,hk,hl⟩:=id hT8;unfold nextG;rw [if_pos hT8,take_ts P ht hn hl hk];by_cases k2 : t.work.kind = 2
  ·rw [if_pos k2,if_pos k2];exact h.takeDel ht hb hn k2 _
  ·rw [if_neg k2,if_neg k2];have k1 : t.work.kind = 1:=by omega
   obtain ⟨a,n,q⟩:=hT.f8 hb k1 hn;have e1 : t.work.made[0]?.getD 0 = a:=by rw [q.md]; rfl
   have e2 : t.work.made[1]?.getD 0 = n:=by rw [q.md]; rfl
   rw [e1,e2];exact h.takeIns ht hb hn k1 q
 ·rw [nextG_no hT8];rcases (show t.work.next = 1\/t.work.next = 2\/t.work.next = 3\/t.work.next = 13\/(4<=t.work.next/\t.work.next<=12) by omega) with hn | hn | hn | hn | hn
  ·unfold PSt.step; simp only [hn];exact h.step1 ht hb hn
  ·unfold PSt.step; simp only [hn];exact h.step2 ht hb hn
  ·unfold PSt.step; simp only [hn];exact h.step3 ht hb hn
  ·unfold PSt.step; simp only [hn];exact h.step13 ht hn
  ·rw [step_mid P hn.1 hn.2];by_cases hk : t.work.kind = 3\/t.work.kind = 4
   ·rw [if_pos hk]
    have:=hrd hk
    exact h.read ht hb (by omega) hk
   ·rw [if_neg hk];have hk : t.work.kind = 1\/t.work.kind = 2:=by omega
    unfold PSt.update;rcases (show t.work.next = 4\/t.work.next = 5\/t.work.next = 6\/t.work.next = 7\/t.work.next = 8\/t.work.next = 9\/t.work.next = 10\/t.work.next = 11\/t.work.next = 12 by omega) with hn | hn | hn | hn | hn | hn | hn | hn | hn
    ·simp only [hn]; exact h.walk ht hb hn hk
    ·simp only [hn];rcases h.lock ht hb hn with ⟨_,_,q⟩ | ⟨_,q⟩
     ·exact q
     ·rw [q]; exact h
    ·simp only [hn]; exact h.check ht hb hn
    ·simp only [hn]; exact h.prepare ht hb hn
    ·simp only [hn];have hl : P.limit<=P.clock:=Classical.not_not.1 (fun hl=>hT8 ⟨hn,hk,hl⟩);unfold PSt.take;rw [if_pos hl];exact h.takeLate ht hb hn
    ·simp only [hn]; rw [setMW_to P ht]; exact h.kill ht hb hn
    ·simp only [hn]; rw [setMW_to P ht]; exact h.link ht hb hn
    ·simp only [hn]; rw [setMW_to P ht]; exact h.stamp ht hb hn
    ·simp only [hn]; exact h.unlock ht hb hn
end
end T
end
end Go.Proofs.YtfccelbmacjifabGreat
