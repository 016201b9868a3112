import Derived.Test.YtfccelbmacjifabGreatP0
import Derived.Test.YtfccelbmacjifabGreatP4
set_option linter.unusedSimpArgs false
set_option maxRecDepth 100000
set_option maxHeartbeats 4000000
namespace Go.Proofs.YtfccelbmacjifabGreat
section
namespace T
section
variable {g g' : Gh} {M M' : PMem} {c c' : Int} {r : PSweep} {i j : Nat} {t t' u : PThread} {ts ts' : List PThread} {P : PSt} {x : Int} {s : Bool} {key : Int} {k : PWork}
theorem kill_node (M : PMem) {n : Int} (hn : M.hasNode n = true) (x : Int) : (M.kill n).node x = if x = n then { M.node n with dead:=true } else M.node x:=node_modN hn _ x
theorem kills_two {M : PMem} {a b : Int} (ha : Us M a) (hb : Us M b) (hw : Wm M) : Wm (M.kills [a,b])/\(M.kills [a,b]).es = M.es/\∀ x,(M.kills [a,b]).node x = { M.node x with dead:=(M.node x).dead || decide (x = a\/x = b) }:=by
 show Wm ((M.kill a).kill b)/\((M.kill a).kill b).es = M.es/\_;have h1 : ∀ x,(M.kill a).node x = { M.node x with dead:=(M.node x).dead || decide (x = a) }:=by
  intro x;rw [kill_node M (hasN_used ha)];split
  ·next e=>subst e; simp
  ·next e=>simp [e]
 have hb' : Us (M.kill a) b:=by simp only [Us]; rw [h1]; exact hb
 refine ⟨?_,?_,?_⟩
 ·refine Wm.modN (Wm.modN hw ha _ ha) hb' _ ?_;exact hb'
 ·show ((M.kill a).modN b _).es = _;rw [modN_ents]; exact modN_ents _ _ _
 ·intro x;show ((M.kill a).kill b).node x = _;rw [kill_node _ (hasN_used hb'),h1,h1];split
  ·next e=>subst e; simp
  ·next e=>simp [e]
theorem Inv.kill (h : Inv g P) (ht : P.ts[i]? = some t) (hb : t.busy = true) (hn : t.work.next = 9) : Inv g { P with mem:=P.mem.kills (P.takenOut t.work),ts:=P.ts.set i { t with work:={ t.work with next:=10 } } }:=by
 have hT:=h.th i t ht;have k2:=hT.n9 hb hn;have m:=h.mine ht hb (by omega) (by omega);obtain ⟨q,_⟩:=hT.q9 hb k2 (.inl hn);have hM:=m.mt k2 (.inl (by omega));have hA:=m.ab hM;have hto : P.takenOut t.work = [t.work.ahead,t.work.stand]:=by unfold PSt.takenOut; rw [if_pos h.kind]
 rw [hto];obtain ⟨w1,w2,w3⟩:=kills_two (a:=t.work.ahead) (b:=t.work.stand) (h.usedGd (.inr m.ah)) m.us h.wm;generalize P.mem.kills [t.work.ahead,t.work.stand] = M1 at *;have u1 : ∀ x,(M1.node x).used = (P.mem.node x).used:=fun x=>by rw [w3]
 have u2 : ∀ x,(M1.node x).retired = (P.mem.node x).retired:=fun x=>by rw [w3]
 have u3 : ∀ x,(M1.node x).retiredAt = (P.mem.node x).retiredAt:=fun x=>by rw [w3]
 have u4 : ∀ x,(M1.node x).key = (P.mem.node x).key:=fun x=>by rw [w3]
 have u5 : ∀ x,(M1.node x).leads = (P.mem.node x).leads:=fun x=>by rw [w3]
 have u6 : ∀ x,(M1.node x).links = (P.mem.node x).links:=fun x=>by rw [w3]
 have u7 : ∀ x,(M1.node x).value = (P.mem.node x).value:=fun x=>by rw [w3]
 have u8 : ∀ x,(M1.node x).holder = (P.mem.node x).holder:=fun x=>by rw [w3]
 have u9 : ∀ x,De M1 x ↔ De P.mem x\/x = t.work.ahead\/x = t.work.stand:=fun x=>by simp only [De]; rw [w3]; simp
 have usd : ∀ x k,sd M1 x k = sd P.mem x k:=fun x k=>sd_congr (u4 x) (u6 x)
 have hpd:=fun x s=>pd_es (M:=P.mem) (M':=M1) w2 x s
 have hsd:=fun x s st d=>sd_es (M:=P.mem) (M':=M1) w2 x s st d
 have fr8 : ∀ x,Ex (P.ts.set i { t with work:={ t.work with next:=10 } }) (Fr8 x) ↔ Ex P.ts (Fr8 x):=fun x=>ex_iff ht (iff_of_false (by rintro ⟨_,_,e,_⟩; have : (10 : Nat) = 8:=e; omega) (by rintro ⟨_,_,e,_⟩; omega))
 have fr : ∀ x,Ex (P.ts.set i { t with work:={ t.work with next:=10 } }) (Fr x) ↔ Ex P.ts (Fr x):=fun x=>ex_iff ht (iff_of_false (by rintro ⟨_,e,_⟩; have : t.work.kind = 1:=e; omega) (by rintro ⟨_,e,_⟩; omega))
 have pair : ∀ x y,Ex (P.ts.set i { t with work:={ t.work with next:=10 } }) (Pair x y) ↔ Ex P.ts (Pair x y):=fun x y=>ex_iff ht ⟨fun ⟨a1,a2,a3,a4⟩=>⟨a1,a2,.inl hn,a4⟩,fun ⟨a1,a2,a3,a4⟩=>⟨a1,a2,.inr (.inl rfl),a4⟩⟩
 have xl : ∀ x s,Ex (P.ts.set i { t with work:={ t.work with next:=10 } }) (Xl x s) ↔ Ex P.ts (Xl x s):=fun x s=>ex_iff ht ⟨fun ⟨a1,a2,a3,a4⟩=>⟨a1,a2,.inl hn,a4⟩,fun ⟨a1,a2,a3,a4⟩=>⟨a1,a2,.inr rfl,a4⟩⟩
 have pn : ∀ x s,Ex (P.ts.set i { t with work:={ t.work with next:=10 } }) (fun t=>Pn x s t\/Fr8 x t) ↔ Ex P.ts (fun t=>Pn x s t\/Fr8 x t):=by
  intro x s;refine ex_iff ht ⟨?_,?_⟩
  ·rintro (⟨a1,a2,a3,a4,a5⟩ | ⟨_,_,e,_⟩)
   ·exact .inl ⟨a1,a2,by omega,by omega,a5⟩
   ·have : (10 : Nat) = 8:=e; omega
  ·rintro (⟨a1,a2,a3,a4,a5⟩ | ⟨_,_,e,_⟩)
   ·exact .inl ⟨a1,a2,by show 8<=10; omega,by show 10<=11; omega,a5⟩
   ·omega
 have hgd : ∀ x,Gd g P.clock (P.ts.set i { t with work:={ t.work with next:=10 } }) x ↔ Gd g P.clock P.ts x:=fun x=>by unfold Gd; rw [fr]
 refine h.build (c':=P.clock) ht ?_ w1 ?_ ?_ ?_ ?_
 ·-- the others
  intro j u hne hj;have nd : ∀ x,(Us P.mem x/\Ho P.mem x = j)\/Fr x u->M1.node x = P.mem.node x:=by
   intro x hx;have e1 : x≠t.work.ahead:=fun e=>h.leafNot hj m.ah m.al (e ▸ hx)
   have e2 : x≠t.work.stand:=fun e=>h.notOther ht hj hne ⟨m.us,m.hs⟩ (e ▸ hx)
   rw [w3]; simp [e1,e2]
  refine h.rel hj (fun x hx=>.inl ((fr x).1 hx)) ?_ ?_ ?_ ?_
  ·intro x hx;simp only [Us,Ky,Ln,Re,Ra,u1,u2,u3,u4,u6];exact ⟨h.usedGd hx,trivial,trivial,fun hr=>.inl ⟨hr,trivial⟩⟩
  ·intro x hx;exact ⟨nd x hx,fun s=>hpd x s,fun s st d=>(hsd x s st d).1⟩
  ·intro x y hp;have e2 : y≠t.work.stand:=fun e=>(h.pairNot ht hj hp).1 (e ▸ ⟨m.us,m.hs⟩)
   have e1 : y≠t.work.ahead:=fun e=>hne (h.o.pq j i u t x t.work.stand y hj ht hp ⟨hb,k2,.inl hn,rfl,e.symm⟩)
   rw [w3]; simp [e1,e2]
  ·intro x hx;simp only [Us,Ho,u1,u8] at hx ⊢;exact ⟨fun h=>⟨hx,h⟩,fun h=>h.2⟩
 ·-- the nodes
  obtain ⟨gt,⟨ag1,ag2⟩,n0,tn,us,ou,od,ot,re,ro,lk,ph,pr,pp,rg,bd⟩:=h.n;have hOs : g.O t.work.stand/\g.O t.work.ahead:=q.o;refine ⟨gt,⟨?_,?_⟩,?_,?_,?_,?_,?_,?_,?_,?_,?_,?_,?_,?_,rg,bd⟩
  ·simp only [Us,Ln,Ky,u1,u4,u6] at *; exact ag1
  ·simp only [Us,Ln,Ky,u1,u4,u6,u7] at *; exact ag2
  ·refine ⟨by simp only [Us,u1]; exact n0.1,by simp only [Ln,u6]; exact n0.2.1,?_,by rw [u2]; exact n0.2.2.2⟩
   have:=u9 0
   have e1:=m.a0; have e2:=hA.2.2.1
   have:=n0.2.2.1
   simp only [De] at *
   grind
  ·intro x hx;rw [u2];refine ⟨?_,(tn x hx).2⟩;have e1:=(ou _ hOs.1).2.1; have e2:=(ou _ hOs.2).2.1
   have:=u9 x; have:=tn x hx
   simp only [De] at *
   grind
  ·intro x hx;simp only [Us,u1] at hx;rw [fr8]; exact us x hx
  ·intro x hx;simp only [Us,Ln,u1,u6]; exact ou x hx
  ·intro x hx;rcases (u9 x).1 hx with e | e | e
   ·exact od x e
   ·rw [e]; exact hOs.2
   ·rw [e]; exact hOs.1
  ·intro x hx;rcases ot x hx with e | e
   ·exact .inl ((u9 x).2 (.inl e))
   ·rcases e.or ht with ⟨_,_,_,e⟩ | ⟨j,u,e1,e2,e3⟩
    ·exact .inl ((u9 x).2 (by rcases e with e | e; exact .inr (.inr e); exact .inr (.inl e)))
    ·exact .inr (Ex.other e2 e3 e1)
  ·intro x hx;simp only [Re,Ra,u2,u3] at hx ⊢
   have:=re x hx
   exact ⟨(u9 x).2 (.inl this.1),this.2⟩
  ·intro x hx;simp only [Re,u2];rcases (u9 x).1 hx with e | e
   ·rcases ro x e with e | e
    ·exact .inl e
    ·exact .inr (e.set ht (fun ⟨a1,a2,a3,a4⟩=>⟨a1,a2,.inl rfl,a4⟩))
   ·exact .inr (Ex.new ht ⟨hb,k2,.inl rfl,by rcases e with e | e; exact .inr e; exact .inl e⟩)
  ·intro x s d hd;simp only [Ld,u5]; rw [xl]; exact lk x s d hd
  ·intro x s;simp only [Ld,Ln,Re,Ra,u5,u6,u2,u3,hgd] at *; exact ph x s
  ·intro x s k;simp only [Ld,Ln,u5,u6,usd,hgd] at *; exact pr x s k
  ·intro x s;simp only [Ld,Ln,Re,u5,u6,u2,pair] at *; exact pp x s
 ·refine ⟨?_,?_⟩
  ·intro x s st d hd;simp only [Us,Ln,u1,u6]; exact h.e.ms x s st d ((hsd _ _ _ _).1 hd)
  ·intro x s d hd;rw [hpd] at hd;exact (pn x s).2 (h.e.pd x s d hd)
 ·refine h.o.keep ht (Int.le_refl _) (fun x hx=>?_) (fun x y hx=>?_) ?_ ?_
  ·obtain ⟨_,e,_⟩:=hx; have : t.work.kind = 1:=e; omega
  ·obtain ⟨a1,a2,a3,a4⟩:=hx; exact .inl ⟨a1,a2,.inl hn,a4⟩
  ·intro x hx; simp only [Us,Ho,u1,u8] at hx ⊢; exact .inr ⟨hx,trivial⟩
  ·intro x _ hr; simp only [Re,Ra,u2,u3] at *; exact ⟨hr,trivial⟩
 ·have hq8:=hT.q8 hb k2 (by omega) (by omega);have hs9:=hT.s9 hb (by omega) (by omega);have htt:=hT.tt hb (by omega) (by omega);refine hT.own (k:={ t.work with next:=10 }) h.n.one.1 hb (by omega) (by omega) ?_ ⟨rfl,rfl,rfl,rfl,rfl,rfl,rfl,rfl,rfl⟩ (by show 6<=10; omega) (by show 10<=12; omega) (fun e=>by have : 10<=7:=e; omega) (fun e=>by have : 10 = 9:=e; omega) ?_ (fun _ e=>by have : 10<=8:=e; omega) ?_ (fun _ e=>by have : 10 = 8:=e; omega) (fun e=>by have : t.work.kind = 1:=e; omega) ?_ ?_ (fun e=>by have : 10 = 11:=e; omega) ?_
  ·refine ⟨Int.le_refl _,fun x hx=>(hgd x).2 hx,?_,?_⟩
   ·intro x hx;simp only [Us,Ky,Ln,Re,Ra,u1,u2,u3,u4,u6];exact ⟨h.usedGd hx,trivial,trivial,trivial,fun _ h=>h,fun hr=>.inl ⟨hr,trivial⟩⟩
   ·intro x hx;simp only [Us,Ho,u1,u8] at hx ⊢;exact ⟨fun h=>⟨hx,h⟩,fun h=>h.2⟩
  ·intro _ _; simp only [Ky,u4]; exact hT.c7 hb (by omega) (by omega)
  ·intro _ _; simp only [usd]; exact htt
  ·intro _ _ _; simp only [usd,hpd,Ld,u5]; exact hq8
  ·intro _ _;refine ⟨⟨q.o,?_,?_,?_,?_,?_⟩,fun _=>⟨(u9 _).2 (.inr (.inr rfl)),(u9 _).2 (.inr (.inl rfl))⟩⟩
   ·simp only [u2]; exact q.re
   ·simp only [usd,Ld,u5]; exact q.ld
   ·simp only [usd,Ld,u5]; exact q.a
   ·simp only [Ky,u4]; exact q.ky
   ·simp only [Ln,u6]; exact q.ln
  ·intro _ _; exact ⟨hs9.1,hs9.2.1,hs9.2.2.1,hs9.2.2.2.1,fun s d hh=>hs9.2.2.2.2 s d ((hsd _ _ _ _).1 hh)⟩
end
end T
end
section
namespace T
section
variable {g g' : Gh} {M M' : PMem} {c c' : Int} {r : PSweep} {i j : Nat} {t t' u : PThread} {ts ts' : List PThread} {P : PSt} {x : Int} {s : Bool} {key : Int} {k : PWork}
theorem node_ns {M M' : PMem} (h : M'.ns = M.ns) (x : Int) : M'.node x = M.node x:=by unfold PMem.node PMem.hasNode; rw [h]
theorem InvN.same (h : InvN g M c r ts) (hn : ∀ x,M'.node x = M.node x) (s1 : ∀ x,Ex ts' (Fr8 x) ↔ Ex ts (Fr8 x)) (s2 : ∀ x,Ex ts' (Fr x) ↔ Ex ts (Fr x)) (s3 : ∀ x,Ex ts' (Tk x) ↔ Ex ts (Tk x)) (s4 : ∀ x,Ex ts' (Own x) ↔ Ex ts (Own x)) (s5 : ∀ x y,Ex ts' (Pair x y) ↔ Ex ts (Pair x y)) (s6 : ∀ x s,Ex ts' (Xl x s) ↔ Ex ts (Xl x s)) : InvN g M' c r ts':=by
 have hgd : ∀ x,Gd g c ts' x ↔ Gd g c ts x:=fun x=>by unfold Gd; rw [s2]
 have hsd : ∀ x k,sd M' x k = sd M x k:=fun x k=>sd_congr (by simp only [Ky]; rw [hn]) (by simp only [Ln]; rw [hn])
 obtain ⟨gt,⟨ag1,ag2⟩,n0,tn,us,ou,od,ot,re,ro,lk,ph,pr,pp,rg,bd⟩:=h;refine ⟨gt,⟨?_,?_⟩,?_,?_,?_,?_,?_,?_,?_,?_,?_,?_,?_,?_,rg,bd⟩ <;> simp only [Us,De,Re,Ra,Ky,Ld,Ln,hn,hgd,hsd,s1,s2,s3,s4,s5,s6] at * <;> assumption
theorem Inv.pdOwn (h : Inv g P) (ht : P.ts[i]? = some t) (hb : t.busy = true) (h8 : 8<=t.work.next) (h11 : t.work.next<=11) : ∃ d,Pd P.mem t.work.tsrc t.work.tside = [d]:=by
 have hT:=h.th i t ht;obtain ⟨q1,q2⟩:=hT.tt hb h8 h11;rcases hT.upd hb (by omega) (by omega) with hk | hk
 ·rw [if_neg (by omega)] at q1;rw [q2,q1];rcases (show t.work.next = 8\/t.work.next = 9\/t.work.next = 10\/t.work.next = 11 by omega) with e | e | e | e
  ·obtain ⟨a,n,q⟩:=hT.f8 hb hk e; exact ⟨n,q.ps⟩
  ·have:=hT.n9 hb e; omega
  ·obtain ⟨a,n,q⟩:=hT.f10 hb hk e; exact ⟨n,q.ps⟩
  ·have:=hT.p11 hb e; rw [q2,q1] at this; exact ⟨_,this⟩
 ·rw [if_pos hk] at q1;rw [q2,q1];rcases (show t.work.next<=10\/t.work.next = 11 by omega) with e | e
  ·exact ⟨_,(hT.q8 hb hk h8 e).1⟩
  ·have:=hT.p11 hb e; rw [q2,q1] at this; exact ⟨_,this⟩
theorem Inv.stamp (h : Inv g P) (ht : P.ts[i]? = some t) (hb : t.busy = true) (hn : t.work.next = 11) : Inv g { P with mem:=P.mem.stamp t.work.tsrc t.work.tside t.work.ans.stamp,ts:=P.ts.set i { t with work:={ t.work with next:=12 } } }:=by
 have hT:=h.th i t ht;have m:=h.mine ht hb (by omega) (by omega);obtain ⟨d0,hp⟩:=h.pdOwn ht hb (by omega) (by omega);obtain ⟨m1,m2,m3,m4,m5,m6⟩:=m.ts (by omega) (by omega);obtain ⟨s1,s2,s3,s4,s5⟩:=hT.s9 hb (by omega) (by omega);obtain ⟨w1,w2,w3,w4⟩:=stamp_e t.work.ans.stamp h.wm hp;have hnd:=node_ns w1;generalize P.mem.stamp t.work.tsrc t.work.tside t.work.ans.stamp = M1 at *;have usd : ∀ x k,sd M1 x k = sd P.mem x k:=fun x k=>sd_congr (by simp only [Ky]; rw [hnd]) (by simp only [Ln]; rw [hnd])
 have fr8 : ∀ x,Ex (P.ts.set i { t with work:={ t.work with next:=12 } }) (Fr8 x) ↔ Ex P.ts (Fr8 x):=fun x=>ex_iff ht (iff_of_false (by rintro ⟨_,_,e,_⟩; have : (12 : Nat) = 8:=e; omega) (by rintro ⟨_,_,e,_⟩; omega))
 have fr : ∀ x,Ex (P.ts.set i { t with work:={ t.work with next:=12 } }) (Fr x) ↔ Ex P.ts (Fr x):=fun x=>ex_iff ht (iff_of_false (by rintro ⟨_,_,e,_⟩; have : (12 : Nat) = 8\/(12 : Nat) = 10:=e; omega) (by rintro ⟨_,_,e,_⟩; omega))
 have tk : ∀ x,Ex (P.ts.set i { t with work:={ t.work with next:=12 } }) (Tk x) ↔ Ex P.ts (Tk x):=fun x=>ex_iff ht (iff_of_false (by rintro ⟨_,_,e,_⟩; have : (12 : Nat) = 9:=e; omega) (by rintro ⟨_,_,e,_⟩; omega))
 have own : ∀ x,Ex (P.ts.set i { t with work:={ t.work with next:=12 } }) (Own x) ↔ Ex P.ts (Own x):=fun x=>ex_iff ht ⟨fun ⟨a1,a2,a3,a4⟩=>⟨a1,a2,.inr (.inl hn),a4⟩,fun ⟨a1,a2,a3,a4⟩=>⟨a1,a2,.inr (.inr ⟨rfl,s1⟩),a4⟩⟩
 have pair : ∀ x y,Ex (P.ts.set i { t with work:={ t.work with next:=12 } }) (Pair x y) ↔ Ex P.ts (Pair x y):=fun x y=>ex_iff ht ⟨fun ⟨a1,a2,a3,a4⟩=>⟨a1,a2,.inr (.inr (.inl hn)),a4⟩,fun ⟨a1,a2,a3,a4⟩=>⟨a1,a2,.inr (.inr (.inr ⟨rfl,s1⟩)),a4⟩⟩
 have xl : ∀ x s,Ex (P.ts.set i { t with work:={ t.work with next:=12 } }) (Xl x s) ↔ Ex P.ts (Xl x s):=fun x s=>ex_iff ht (iff_of_false (by rintro ⟨_,_,e,_⟩; have : (12 : Nat) = 9\/(12 : Nat) = 10:=e; omega) (by rintro ⟨_,_,e,_⟩; omega))
 have hgd : ∀ x,Gd g P.clock (P.ts.set i { t with work:={ t.work with next:=12 } }) x ↔ Gd g P.clock P.ts x:=fun x=>by unfold Gd; rw [fr]
 have hlk : b2i t.work.tside < Ln P.mem t.work.tsrc:=by
  have:=h.hasLink (x:=t.work.tsrc) (s:=t.work.tside) (h.heldGd ht m1 m2) (by intro e; rw [m4,e]; exact sd0 h.n.n0.2.1 _)
  exact (hasLink_iff.1 this).2
 refine h.build (c':=P.clock) ht ?_ w2 ?_ ?_ ?_ ?_
 ·intro j u hne hj;have ne : ∀ x,(Us P.mem x/\Ho P.mem x = j)\/Fr x u->x≠t.work.tsrc:=fun x hx e=>h.notOther ht hj hne ⟨m1,m2⟩ (e ▸ hx)
  refine h.rel hj (fun x hx=>.inl ((fr x).1 hx)) ?_ ?_ (fun x y _=>hnd y) ?_
  ·intro x hx;simp only [Us,Ky,Ln,Re,Ra,hnd];exact ⟨h.usedGd hx,trivial,trivial,fun hr=>.inl ⟨hr,trivial⟩⟩
  ·intro x hx;refine ⟨hnd x,fun s=>?_,fun s st d hd=>?_⟩
   ·rw [w3,if_neg (fun e=>ne x hx e.1)]
   ·rcases (w4 x s st d).1 hd with e | e
    ·exact e
    ·exact absurd e.1 (ne x hx)
  ·intro x hx;simp only [Us,Ho,hnd] at hx ⊢;exact ⟨fun h=>⟨hx,h⟩,fun h=>h.2⟩
 ·exact h.n.same hnd fr8 fr tk own pair xl
 ·refine ⟨?_,?_⟩
  ·intro x s st d hd;simp only [Us,Ln,hnd];rcases (w4 x s st d).1 hd with e | ⟨rfl,rfl,rfl,rfl⟩
   ·exact h.e.ms x s st d e
   ·exact ⟨m1,s3,s4,hlk⟩
  ·intro x s d hd;rw [w3] at hd;by_cases e : x = t.work.tsrc/\s = t.work.tside
   ·rw [if_pos e] at hd; simp at hd
   ·rw [if_neg e] at hd;rcases (h.e.pd x s d hd).or ht with (q | q) | ⟨j,u,q1,q2,q3⟩
    ·obtain ⟨_,_,_,_,e1,e2⟩:=q; exact absurd ⟨e1.symm,e2.symm⟩ e
    ·obtain ⟨_,_,e,_⟩:=q; omega
    ·exact Ex.other q2 q3 q1
 ·refine h.o.keep ht (Int.le_refl _) (fun x hx=>?_) (fun x y hx=>?_) ?_ ?_
  ·obtain ⟨_,_,e,_⟩:=hx; have : (12 : Nat) = 8\/(12 : Nat) = 10:=e; omega
  ·obtain ⟨a1,a2,a3,a4⟩:=hx; exact .inl ⟨a1,a2,.inr (.inr (.inl hn)),a4⟩
  ·intro x hx; simp only [Us,Ho,hnd] at hx ⊢; exact .inr ⟨hx,trivial⟩
  ·intro x _ hr; simp only [Re,Ra,hnd] at *; exact ⟨hr,trivial⟩
 ·refine hT.own (k:={ t.work with next:=12 }) h.n.one.1 hb (by omega) (by omega) ?_ ⟨rfl,rfl,rfl,rfl,rfl,rfl,rfl,rfl,rfl⟩ (by show 6<=12; omega) (by show 12<=12; omega) (fun e=>by have : 12<=7:=e; omega) (fun e=>by have : 12 = 9:=e; omega) (fun _ e=>by have : 12<=11:=e; omega) (fun _ e=>by have : 12<=8:=e; omega) (fun _ e=>by have : 12<=11:=e; omega) (fun _ e=>by have : 12 = 8:=e; omega) (fun _ e=>by have : 12 = 10:=e; omega) (fun _ _ e=>by have : 12<=10:=e; omega) ?_ (fun e=>by have : 12 = 11:=e; omega) (fun _ e=>by have : 12<=11:=e; omega)
  ·refine ⟨Int.le_refl _,fun x hx=>(hgd x).2 hx,?_,?_⟩
   ·intro x hx;simp only [Us,Ky,Ln,Re,Ra,hnd];exact ⟨h.usedGd hx,trivial,trivial,trivial,fun _ h=>h,fun hr=>.inl ⟨hr,trivial⟩⟩
   ·intro x hx;simp only [Us,Ho,hnd] at hx ⊢;exact ⟨fun h=>⟨hx,h⟩,fun h=>h.2⟩
  ·intro k2 _;have k2 : t.work.kind = 2:=k2;obtain ⟨q,qd⟩:=hT.q9 hb k2 (.inr (.inr (.inl hn)));have qd:=qd (by omega);refine ⟨⟨q.o,?_,?_,?_,?_,?_⟩,fun _=>?_⟩
   ·simp only [hnd]; exact q.re
   ·simp only [usd,Ld,hnd]; exact q.ld
   ·simp only [usd,Ld,hnd]; exact q.a
   ·simp only [Ky,hnd]; exact q.ky
   ·simp only [Ln,hnd]; exact q.ln
   ·simp only [De,hnd]; exact qd
end
end T
end
section
namespace T
section
variable {g g' : Gh} {M M' : PMem} {c c' : Int} {r : PSweep} {i j : Nat} {t t' u : PThread} {ts ts' : List PThread} {P : PSt} {x : Int} {s : Bool} {key : Int} {k : PWork}
theorem Inv.outLed (h : Inv g P) (hx : x = 0/\s = false\/(g.V P.clock).Inn x) (hO : g.O (Ld P.mem x s)) : ∃ (j : Nat) (u : PThread),P.ts[j]? = some u/\u.busy = true/\u.work.kind = 2/\(u.work.next = 9\/u.work.next = 10)/\u.work.stand = Ld P.mem x s/\u.work.above = x/\u.work.tside = s:=by
 obtain ⟨d,hd⟩ : ∃ d,A (g.V P.clock) x s d:=by
  rcases hx with ⟨rfl,rfl⟩ | hi
  ·exact ⟨_,Tr.ed_pl 0 false _⟩
  ·exact Tr.inn_ed 0 false s hi
 rcases h.n.lk x s d hd with e | ⟨j,u,hj,b,hk,hn,e1,e2⟩
 ·exfalso;rw [e] at hO;exact (h.n.ou d hO).2.1 (Tr.ed_has hd).1
 ·have hT:=h.th j u hj;obtain ⟨q1,q2⟩:=hT.tt b (by omega) (by omega);rcases hk with hk | hk
  ·exfalso;rw [if_neg (by omega)] at q1;have hn : u.work.next = 10:=by
    rcases hn with hn | hn
    ·have:=hT.n9 b hn; omega
    ·exact hn
   obtain ⟨a,n,q⟩:=hT.f10 b hk hn;have h1:=q.ls;rw [<- q1,<- q2,e1,e2] at h1;rw [h1] at hO;have h2:=q.an (!decide (Ky P.mem u.work.ahead < u.work.key));unfold kid at h2;rw [if_neg (by simp)] at h2;exact (h.n.ou _ hO).2.1 (Tr.ed_has h2).1
  ·rw [if_pos hk] at q1;have h1:=(hT.q8 b hk (by omega) (by omega)).2.1;rw [<- q1,<- q2,e1,e2] at h1;exact ⟨j,u,hj,b,hk,hn,h1.symm,q1.symm.trans e1,e2⟩
theorem retire_node (M : PMem) {n : Int} (hn : M.hasNode n = true) (c x : Int) : (M.retire n c).node x = if x = n then { M.node n with retired:=true,retiredAt:=c } else M.node x:=node_modN hn _ x
theorem retires_two {M : PMem} {a b c : Int} (ha : Us M a) (hb : Us M b) (hw : Wm M) : Wm (M.retires c [a,b])/\(M.retires c [a,b]).es = M.es/\∀ x,(M.retires c [a,b]).node x = if x = a\/x = b then { M.node x with retired:=true,retiredAt:=c } else M.node x:=by
 show Wm ((M.retire a c).retire b c)/\((M.retire a c).retire b c).es = M.es/\_;have h1:=retire_node M (hasN_used ha) c;have hb' : Us (M.retire a c) b:=by simp only [Us]; rw [h1]; split; exact ha; exact hb
 refine ⟨?_,?_,?_⟩
 ·exact Wm.modN (Wm.modN hw ha _ ha) hb' _ hb'
 ·show ((M.retire a c).modN b _).es = _;rw [modN_ents]; exact modN_ents _ _ _
 ·intro x;show ((M.retire a c).retire b c).node x = _;rw [retire_node _ (hasN_used hb'),h1,h1]
  grind
theorem Inv.retire (h : Inv g P) (ht : P.ts[i]? = some t) (hb : t.busy = true) (hn : t.work.next = 12) (k2 : t.work.kind = 2) (hd : t.work.ans.did = true) : Inv g { P with mem:=(P.mem.unlock i).retires P.clock (P.takenOut t.work),ts:=P.ts.set i { t with work:={ t.work with locks:=0,next:=13 } } }:=by
 have hT:=h.th i t ht;have m:=h.mine ht hb (by omega) (by omega);obtain ⟨q,qd⟩:=hT.q9 hb k2 (.inr (.inr (.inr ⟨hn,hd⟩)));have qd:=qd (by omega);have hM:=m.mt k2 (.inr hd);have hA:=m.ab hM;have hsl:=hT.sl;rw [hn] at hsl;simp [hb] at hsl;have hto : P.takenOut t.work = [t.work.ahead,t.work.stand]:=by unfold PSt.takenOut; rw [if_pos h.kind]
 rw [hto];have hh:=unlock_hold P.mem i;have hsame:=hh.to;obtain ⟨w1,w2,w3⟩:=retires_two (a:=t.work.ahead) (b:=t.work.stand) (c:=P.clock) (M:=P.mem.unlock i) (by simp only [Us]; rw [(hsame _).1]; exact h.usedGd (.inr m.ah)) (by simp only [Us]; rw [(hsame _).1]; exact m.us) (h.wm.unlock i);have w2 : ((P.mem.unlock i).retires P.clock [t.work.ahead,t.work.stand]).es = P.mem.es:=w2;have hho : ∀ x,Us P.mem x->Ho (P.mem.unlock i) x = if Ho P.mem x = i then -1 else Ho P.mem x:=fun x hx=>unlock_ho P.mem i x hx
 have hun : ∀ x,Ho P.mem x≠i->(P.mem.unlock i).node x = P.mem.node x:=by
  intro x hx;rw [unlock_node];unfold Proofs.YtfccelbmacjifabGreat.unlocked;rw [if_neg];simp only [Ho] at hx;simp [hx]
 have hfree : ∀ x,Us (P.mem.unlock i) x->¬ Ho (P.mem.unlock i) x = i:=fun x hx=>unlock_free _ _ _ (by omega) hx
 generalize P.mem.unlock i = M0 at *;generalize M0.retires P.clock [t.work.ahead,t.work.stand] = M1 at *;have u1 : ∀ x,(M1.node x).used = (P.mem.node x).used:=fun x=>by rw [w3]; split <;> exact (hsame x).1
 have u4 : ∀ x,(M1.node x).key = (P.mem.node x).key:=fun x=>by rw [w3]; split <;> exact (hsame x).2.2.2.2.1
 have u5 : ∀ x,(M1.node x).leads = (P.mem.node x).leads:=fun x=>by rw [w3]; split <;> exact (hsame x).2.2.2.2.2.1
 have u6 : ∀ x,(M1.node x).links = (P.mem.node x).links:=fun x=>by rw [w3]; split <;> exact (hsame x).2.2.2.2.2.2.1
 have u7 : ∀ x,(M1.node x).value = (P.mem.node x).value:=fun x=>by rw [w3]; split <;> exact (hsame x).2.2.2.2.2.2.2
 have u9 : ∀ x,(M1.node x).dead = (P.mem.node x).dead:=fun x=>by rw [w3]; split <;> exact (hsame x).2.1
 have uh : ∀ x,Ho M1 x = Ho M0 x:=fun x=>by simp only [Ho]; rw [w3]; split <;> rfl
 have ur1 : ∀ x,x = t.work.ahead\/x = t.work.stand->Re M1 x/\Ra M1 x = P.clock:=fun x hx=>by simp only [Re,Ra]; rw [w3,if_pos hx]; exact ⟨rfl,rfl⟩
 have ur2 : ∀ x,¬ (x = t.work.ahead\/x = t.work.stand)->(M1.node x).retired = (P.mem.node x).retired/\(M1.node x).retiredAt = (P.mem.node x).retiredAt:=fun x hx=>by rw [w3,if_neg hx]; exact ⟨(hsame x).2.2.1,(hsame x).2.2.2.1⟩
 have ur3 : ∀ x,Re P.mem x->¬ (x = t.work.ahead\/x = t.work.stand):=by
  rintro x hx (rfl | rfl)
  ·have:=q.re.2; simp only [Re] at hx; rw [this] at hx; cases hx
  ·have:=q.re.1; simp only [Re] at hx; rw [this] at hx; cases hx
 have usd : ∀ x k,sd M1 x k = sd P.mem x k:=fun x k=>sd_congr (u4 x) (u6 x)
 have hpd:=fun x s=>pd_es (M:=P.mem) (M':=M1) w2 x s
 have hsd:=fun x s st d=>sd_es (M:=P.mem) (M':=M1) w2 x s st d
 have off : ∀ {p : PThread->Prop},(p { t with work:={ t.work with locks:=0,next:=13 } }->False)->(p t->False)->(Ex (P.ts.set i { t with work:={ t.work with locks:=0,next:=13 } }) p ↔ Ex P.ts p):=fun a b=>ex_iff ht (iff_of_false a b)
 have fr8 : ∀ x,Ex (P.ts.set i { t with work:={ t.work with locks:=0,next:=13 } }) (Fr8 x) ↔ Ex P.ts (Fr8 x):=fun x=>off (by rintro ⟨_,_,e,_⟩; have : (13 : Nat) = 8:=e; omega) (by rintro ⟨_,_,e,_⟩; omega)
 have fr : ∀ x,Ex (P.ts.set i { t with work:={ t.work with locks:=0,next:=13 } }) (Fr x) ↔ Ex P.ts (Fr x):=fun x=>off (by rintro ⟨_,_,e,_⟩; have : (13 : Nat) = 8\/(13 : Nat) = 10:=e; omega) (by rintro ⟨_,_,e,_⟩; omega)
 have tk : ∀ x,Ex (P.ts.set i { t with work:={ t.work with locks:=0,next:=13 } }) (Tk x) ↔ Ex P.ts (Tk x):=fun x=>off (by rintro ⟨_,_,e,_⟩; have : (13 : Nat) = 9:=e; omega) (by rintro ⟨_,_,e,_⟩; omega)
 have xl : ∀ x s,Ex (P.ts.set i { t with work:={ t.work with locks:=0,next:=13 } }) (Xl x s) ↔ Ex P.ts (Xl x s):=fun x s=>off (by rintro ⟨_,_,e,_⟩; have : (13 : Nat) = 9\/(13 : Nat) = 10:=e; omega) (by rintro ⟨_,_,e,_⟩; omega)
 have pn : ∀ x s,Ex (P.ts.set i { t with work:={ t.work with locks:=0,next:=13 } }) (fun t=>Pn x s t\/Fr8 x t) ↔ Ex P.ts (fun t=>Pn x s t\/Fr8 x t):=fun x s=>off (by rintro (⟨_,_,_,e,_⟩ | ⟨_,_,e,_⟩); (have : (13 : Nat)<=11:=e; omega); (have : (13 : Nat) = 8:=e; omega)) (by rintro (⟨_,_,_,e,_⟩ | ⟨_,_,e,_⟩) <;> omega)
 have hgd : ∀ x,Gd g P.clock (P.ts.set i { t with work:={ t.work with locks:=0,next:=13 } }) x ↔ Gd g P.clock P.ts x:=fun x=>by unfold Gd; rw [fr]
 have hOs : g.O t.work.stand/\g.O t.work.ahead:=q.o;have hre:=h.n.re;refine h.build (c':=P.clock) ht ?_ w1 ?_ ?_ ?_ ?_
 ·-- the others
  intro j u hne hj;have nd : ∀ x,x≠t.work.ahead->x≠t.work.stand->Ho P.mem x≠i->M1.node x = P.mem.node x:=by
   intro x e1 e2 e3;rw [w3,if_neg (by simp [e1,e2]),hun x e3]
  refine h.rel hj (fun x hx=>.inl ((fr x).1 hx)) ?_ ?_ ?_ ?_
  ·intro x hx;refine ⟨by simp only [Us,u1]; exact h.usedGd hx,u4 x,u6 x,?_⟩;intro hr;by_cases e : x = t.work.ahead\/x = t.work.stand
   ·exact .inr (by rw [(ur1 x e).2]; omega)
   ·left
    have:=ur2 x e
    simp only [Re,Ra] at hr ⊢;rw [this.1] at hr; exact ⟨hr,this.2⟩
  ·intro x hx;refine ⟨nd x (fun e=>h.leafNot hj m.ah m.al (e ▸ hx)) (fun e=>h.notOther ht hj hne ⟨m.us,m.hs⟩ (e ▸ hx)) ?_,fun s=>hpd x s,fun s st d=>(hsd x s st d).1⟩;rcases hx with e | e
   ·rw [e.2]; omega
   ·rw [(h.freshUs hj e).2.2]; omega
  ·intro x y hp;obtain ⟨p1,p2,p3,p4,p5,p6⟩:=h.pairNot ht hj hp;exact nd y (fun e=>hne (h.o.pq j i u t x t.work.stand y hj ht hp ⟨hb,k2,.inr (.inr (.inr ⟨hn,hd⟩)),rfl,e.symm⟩)) (fun e=>p1 (e ▸ ⟨m.us,m.hs⟩)) (fun e=>p1 ⟨p6,e⟩)
  ·intro x hx;have hx' : Us P.mem x:=by simp only [Us,u1] at hx ⊢; exact hx
   rw [uh,hho x hx'];constructor
   ·intro e;refine ⟨hx',?_⟩;split at e <;> omega
   ·rintro ⟨_,e⟩;rw [if_neg (by omega)]; exact e
 ·-- the nodes
  have hled:=fun x s=>h.outLed (x:=x) (s:=s)
  obtain ⟨gt,⟨ag1,ag2⟩,n0,tn,us,ou,od,ot,re,ro,lk,ph,pr,pp,rg,bd⟩:=h.n;refine ⟨gt,⟨?_,?_⟩,?_,?_,?_,?_,?_,?_,?_,?_,?_,?_,?_,?_,rg,bd⟩
  ·simp only [Us,Ln,Ky,u1,u4,u6] at *; exact ag1
  ·simp only [Us,Ln,Ky,u1,u4,u6,u7] at *; exact ag2
  ·have:=ur2 0 (by rintro (e | e); exact m.a0 e.symm; exact hA.2.2.1 e.symm)
   refine ⟨by simp only [Us,u1]; exact n0.1,by simp only [Ln,u6]; exact n0.2.1,by rw [u9]; exact n0.2.2.1,by rw [this.1]; exact n0.2.2.2⟩
  ·intro x hx
   have:=ur2 x (by rintro (e | e); exact (ou _ hOs.2).2.1 (e ▸ hx); exact (ou _ hOs.1).2.1 (e ▸ hx))
   rw [u9,this.1]; exact tn x hx
  ·intro x hx;simp only [Us,u1] at hx;rw [fr8]; exact us x hx
  ·intro x hx;simp only [Us,Ln,u1,u6]; exact ou x hx
  ·intro x hx;simp only [De,u9] at hx; exact od x hx
  ·intro x hx;simp only [De,u9]; rw [tk]; exact ot x hx
  ·intro x hx;simp only [De,u9];by_cases e : x = t.work.ahead\/x = t.work.stand
   ·refine ⟨?_,by rw [(ur1 x e).2]; omega⟩;rcases e with rfl | rfl
    ·exact qd.2
    ·exact qd.1
   ·have:=ur2 x e
    simp only [Re,Ra] at hx ⊢;rw [this.1] at hx;rw [this.2]; exact re x hx
  ·intro x hx;simp only [De,u9] at hx;by_cases e : x = t.work.ahead\/x = t.work.stand
   ·exact .inl (ur1 x e).1
   ·rcases ro x hx with e2 | e2
    ·left; simp only [Re]; rw [(ur2 x e).1]; exact e2
    ·rcases e2.or ht with ⟨_,_,_,e3⟩ | ⟨j,u,e1,e2,e3⟩
     ·exact absurd e3.symm e
     ·exact .inr (Ex.other e2 e3 e1)
  ·intro x s d hd;simp only [Ld,u5]; rw [xl]; exact lk x s d hd
  ·intro x s;rw [hgd,hgd];simp only [Ln,Ld,u5,u6];intro hx hs;obtain ⟨p1,p2,p3,p4⟩:=ph x s hx hs;refine ⟨p1,p2,?_,p4⟩;intro hr;by_cases e : (P.mem.node x).leads s = t.work.ahead\/(P.mem.node x).leads s = t.work.stand
   ·-- it is one of the two
    rw [(ur1 _ e).2];have fin : Re M1 x->Ra M1 x<=P.clock->Re M1 x/\Ra M1 x<=P.clock:=fun a b=>⟨a,b⟩
    by_cases ex : x = t.work.ahead\/x = t.work.stand
    ·exact ⟨(ur1 x ex).1,by rw [(ur1 x ex).2]; omega⟩
    ·have hOd : g.O (Ld P.mem x s):=by
      simp only [Ld];rcases e with e | e
      ·rw [e]; exact hOs.2
      ·rw [e]; exact hOs.1
     have key : Re P.mem x:=by
      by_cases hOx : g.O x
      ·have hx0:=(ou x hOx).2.2.1;have hl2 : Ln P.mem x = 2:=by
        rcases hx with hx | hx
        ·exact absurd hx hx0
        ·exact hx.1
       rcases pp x s hOx hl2 hOd with e1 | ⟨j,u,hj,hp⟩
       ·exact e1
       ·exfalso;have hp':=hp;obtain ⟨b,hk,hn',e1,e2⟩:=hp;have hl:=(h.pairNot ht hj hp').2.2.2.1;rcases e with e | e
        ·have:=h.o.pq j i u t x t.work.stand _ hj ht hp' ⟨hb,k2,.inr (.inr (.inr ⟨hn,hd⟩)),rfl,e.symm⟩
         subst this;rw [ht] at hj; injection hj with hj; subst hj
         exact ex (.inr e1.symm)
        ·simp only [Ld] at hl;rw [e] at hl
         have:=hA.2.2.2.2; omega
      ·exfalso;have hx' : x = 0/\s = false\/(g.V P.clock).Inn x:=by
        rcases hx with hx | hx
        ·exact .inl ⟨hx,hs hx⟩
        ·right;rcases hx.2.1 with q1 | q1
         ·exact absurd q1 hOx
         ·rcases Tr.has_or q1 with ⟨q2,hq⟩ | ⟨q2,w,hq⟩
          ·exact Tr.nod_inn hq
          ·have:=(ag2 x q2 w hq).2.1; have:=hx.1; simp only [Ln] at *; omega
       obtain ⟨j,u,hj,b,hk,hn',e1,e2,e3⟩:=hled x s hx' hOd;have hTj:=h.th j u hj;have hs1:=hTj.hStand b (by omega) (by omega);rw [e1] at hs1;simp only [Ld] at hs1;rcases e with e | e
       ·rw [e] at hs1;rcases h.heldGd hj hs1.1 hs1.2 with e5 | e5
        ·exact m.a0 e5
        ·have:=m.al; omega
       ·rw [e] at hs1
        have:=m.hs
        rw [hs1.2] at this;have hij : j = i:=by omega
        subst hij;rw [ht] at hj; injection hj with hj; subst hj
        omega
     have:=ur2 x ex
     simp only [Re,Ra] at key ⊢;rw [this.1,this.2];exact ⟨key,(re x key).2⟩
   ·have e1:=ur2 _ e;simp only [Re,Ra] at hr ⊢;rw [e1.1] at hr;have e2:=p3 hr;have e3:=ur2 x (ur3 x e2.1);rw [e1.2,e3.1,e3.2]; exact e2
  ·intro x s k;simp only [Ld,Ln,u5,u6,usd,hgd] at *; exact pr x s k
  ·intro x s hx hl hO;simp only [Ld,Ln,u5,u6] at *;by_cases ex : x = t.work.ahead\/x = t.work.stand
   ·exact .inl (ur1 x ex).1
   ·rcases pp x s hx hl hO with e | e
    ·left; simp only [Re] at e ⊢; rw [(ur2 x ex).1]; exact e
    ·rcases e.or ht with ⟨_,_,_,e3,_⟩ | ⟨j,u,e1,e2,e3⟩
     ·exact absurd (.inr e3.symm) ex
     ·exact .inr (Ex.other e2 e3 e1)
 ·refine ⟨?_,?_⟩
  ·intro x s st d hd;simp only [Us,Ln,u1,u6]; exact h.e.ms x s st d ((hsd _ _ _ _).1 hd)
  ·intro x s d hd;rw [hpd] at hd;exact (pn x s).2 (h.e.pd x s d hd)
 ·refine h.o.keep ht (Int.le_refl _) (fun x hx=>?_) (fun x y hx=>?_) ?_ ?_
  ·obtain ⟨_,_,e,_⟩:=hx; have : (13 : Nat) = 8\/(13 : Nat) = 10:=e; omega
  ·obtain ⟨a1,a2,a3,a4⟩:=hx; have : (13 : Nat) = 9\/(13 : Nat) = 10\/(13 : Nat) = 11\/((13 : Nat) = 12/\_):=a3; omega
  ·intro x hx;have hx' : Us P.mem x:=by simp only [Us,u1] at hx ⊢; exact hx
   rw [uh,hho x hx'];split
   ·exact .inl rfl
   ·exact .inr ⟨hx',rfl⟩
  ·intro x _ hr
   have:=ur2 x (ur3 x hr)
   simp only [Re,Ra] at *; rw [this.1,this.2]; exact ⟨hr,rfl⟩
 ·refine Th.low (fun _=>.inr rfl) hT.kd (fun _=>by show 1<=13/\13<=13; omega) (by simpa [hb] using hsl) (fun b _=>hT.tm b (by omega)) ?_ (fun _=>rfl) hT.ky hT.hi (fun _ _ q=>by have : 13<=3:=q; omega) hT.l3 (fun _ q=>by have : 13<=7:=q; omega) (fun _ _ q=>by have : 13 = 4:=q; omega) (fun _ _ q=>by have : 13 = 4:=q; omega);intro x hx;rw [uh];refine hfree x ?_;simp only [Us,u1] at hx ⊢;rw [(hsame x).1]; exact hx
end
end T
end
end Go.Proofs.YtfccelbmacjifabGreat
