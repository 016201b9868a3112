import Derived.Test.YtfccelbmacjifabGreatP0
import Derived.Test.YtfccelbmacjifabGreatP18
set_option linter.unusedSimpArgs false
set_option maxRecDepth 100000
set_option maxHeartbeats 4000000
namespace Go.Proofs.YtfccelbmacjifabGreat
section
namespace T
section
variable {g g' : Gh} {M M' : PMem} {c c' : Int} {r : PSweep} {i j : Nat} {t t' u : PThread} {ts ts' : List PThread} {P : PSt} {x : Int}
theorem ex_iff {p : PThread->Prop} (ht : ts[i]? = some t) (h : p t' ↔ p t) : Ex (ts.set i t') p ↔ Ex ts p:=by
 constructor
 ·intro hh;rcases (Ex.get ht).1 hh with h1 | ⟨j,u,_,h2,h3⟩
  ·exact ⟨i,t,ht,h.1 h1⟩
  ·exact ⟨j,u,h2,h3⟩
 ·intro hh; exact hh.set ht h.2
structure Same (ts ts' : List PThread) : Prop where
 fr8 : ∀ x,Ex ts' (Fr8 x) ↔ Ex ts (Fr8 x)
 fr : ∀ x,Ex ts' (Fr x) ↔ Ex ts (Fr x)
 tk : ∀ x,Ex ts' (Tk x) ↔ Ex ts (Tk x)
 own : ∀ x,Ex ts' (Own x) ↔ Ex ts (Own x)
 pair : ∀ x y,Ex ts' (Pair x y) ↔ Ex ts (Pair x y)
 xl : ∀ x s,Ex ts' (Xl x s) ↔ Ex ts (Xl x s)
 pn : ∀ x s,Ex ts' (fun t=>Pn x s t\/Fr8 x t) ↔ Ex ts (fun t=>Pn x s t\/Fr8 x t)
theorem Same.calm (ht : ts[i]? = some t) (h : Calm t) (h' : Calm t') : Same ts (ts.set i t'):=by
 constructor <;> intros <;> apply ex_iff ht
 ·exact iff_of_false h'.fr8 h.fr8
 ·exact iff_of_false h'.fr h.fr
 ·exact iff_of_false h'.tk h.tk
 ·exact iff_of_false h'.own h.own
 ·exact iff_of_false h'.pair h.pair
 ·exact iff_of_false h'.xl h.xl
 ·exact iff_of_false (fun hh=>hh.elim (fun q=>h'.pn q) (fun q=>h'.fr8 q)) (fun hh=>hh.elim (fun q=>h.pn q) (fun q=>h.fr8 q))
theorem Same.gd (h : Same ts ts') (x : Int) : Gd g c ts' x ↔ Gd g c ts x:=by unfold Gd; rw [h.fr]
theorem HoldEq.refl (M : PMem) : HoldEq M M:=fun x=>⟨(M.node x).holder,rfl⟩
theorem HoldEq.to (hh : HoldEq M M') (x : Int) : (M'.node x).used = (M.node x).used/\(M'.node x).dead = (M.node x).dead/\(M'.node x).retired = (M.node x).retired/\(M'.node x).retiredAt = (M.node x).retiredAt/\(M'.node x).key = (M.node x).key/\(M'.node x).leads = (M.node x).leads/\(M'.node x).links = (M.node x).links/\(M'.node x).value = (M.node x).value:=by
 obtain ⟨g,hg⟩:=hh x; rw [hg]; exact ⟨rfl,rfl,rfl,rfl,rfl,rfl,rfl,rfl⟩
theorem HoldEq.sd (hh : HoldEq M M') (x k : Int) : sd M' x k = sd M x k:=sd_congr (hh.to x).2.2.2.2.1 (hh.to x).2.2.2.2.2.2.1
theorem InvN.congr (h : InvN g M c r ts) (hh : HoldEq M M') (hs : Same ts ts') : InvN g M' c r ts':=by
 have q:=hh.to;have q1:=fun x=>(q x).1
 have q2:=fun x=>(q x).2.1
 have q3:=fun x=>(q x).2.2.1
 have q4:=fun x=>(q x).2.2.2.1
 have q5:=fun x=>(q x).2.2.2.2.1
 have q6:=fun x=>(q x).2.2.2.2.2.1
 have q7:=fun x=>(q x).2.2.2.2.2.2.1
 have q8:=fun x=>(q x).2.2.2.2.2.2.2
 have q9:=hh.sd;obtain ⟨gt,⟨ag1,ag2⟩,n0,tn,us,ou,od,ot,re,ro,lk,ph,pr,pp,rg,bd⟩:=h;have hgd:=fun x=>hs.gd (g:=g) (c:=c) x
 obtain ⟨s1,s2,s3,s4,s5,s6,s7⟩:=hs;refine ⟨gt,⟨?_,?_⟩,?_,?_,?_,?_,?_,?_,?_,?_,?_,?_,?_,?_,rg,bd⟩ <;> simp only [Us,De,Re,Ra,Ky,Ld,Ln,q1,q2,q3,q4,q5,q6,q7,q8,q9,hgd,s1,s2,s3,s4,s5,s6] at * <;> assumption
theorem InvE.congr (h : InvE M c ts) (hh : HoldEq M M') (he : M'.es = M.es) (hs : Same ts ts') : InvE M' c ts':=by
 have q:=hh.to;refine ⟨?_,?_⟩
 ·intro x s st d hd
  have:=h.ms x s st d ((sd_es he _ _ _ _).1 hd)
  simp only [Us,Ln] at this ⊢;rw [(q x).1,(q x).2.2.2.2.2.2.1]; exact this
 ·intro x s d hd;rw [pd_es he] at hd;exact (hs.pn x s).2 (h.pd x s d hd)
theorem Inv.heldGd (h : Inv g P) (hj : P.ts[j]? = some u) (hx : Us P.mem x) (hh : Ho P.mem x = j) : x = 0\/(Ln P.mem x = 2/\Gd g P.clock P.ts x):=by
 rcases ((h.th j u hj).held h.n.one.1 hx hh).2.2.2.2.2 with e | ⟨e1,e2,e3⟩
 ·exact .inl e
 ·exact .inr ⟨e1,e3⟩
theorem Inv.freshUs (h : Inv g P) (hj : P.ts[j]? = some u) (hf : Fr x u) : Us P.mem x/\x≠0/\Ho P.mem x = -1:=by
 obtain ⟨b,hk,hn,hm⟩:=hf;rcases hn with hn | hn
 ·obtain ⟨a,n,q⟩:=(h.th j u hj).f8 b hk hn;rw [q.md] at hm
  have:=q.ua; have:=q.z; have:=q.da; have:=q.dn
  simp at hm; grind
 ·obtain ⟨a,n,q⟩:=(h.th j u hj).f10 b hk hn;rw [q.md] at hm
  have:=q.ua; have:=q.h; have:=h.n.gt.z
  have e1:=@Tr.inn_has;simp at hm; grind
theorem Inv.usedGd (h : Inv g P) (hx : x = 0\/Gd g P.clock P.ts x) : Us P.mem x:=by
 rcases hx with rfl | ⟨hx | hx,_⟩
 ·exact h.n.n0.1
 ·exact (h.n.ou x hx).1
 ·rcases Tr.has_or hx with ⟨q,hq⟩ | ⟨q,w,hq⟩
  ·exact (h.n.ag.n x q hq).1
  ·exact (h.n.ag.l x q w hq).1
theorem Inv.gd0 (h : Inv g P) : ¬ Gd g P.clock P.ts 0:=by
 rintro ⟨hx | hx,_⟩
 ·exact (h.n.ou 0 hx).2.2.1 rfl
 ·exact h.n.gt.z hx
theorem Inv.hold (h : Inv g P) (ht : P.ts[i]? = some t) (hct : Calm t) (hct' : Calm t') (hw : Wm M') (he : M'.es = P.mem.es) (hh : HoldEq P.mem M')
  (chg : ∀ x,M'.node x = P.mem.node x\/((x = 0\/(Ln P.mem x = 2/\Gd g P.clock P.ts x))/\(Ho P.mem x = -1\/Ho P.mem x = i)/\(Ho M' x = -1\/Ho M' x = i)))
  (hth : Th g M' P.clock P.sweep (P.ts.set i t') i t') : Inv g { P with mem:=M',ts:=P.ts.set i t' }:=by
 have hi:=(List.getElem?_eq_some_iff.1 ht).1;have hs:=Same.calm ht hct hct';have q:=hh.to;have q1:=fun x=>(q x).1
 have q3:=fun x=>(q x).2.2.1
 have q4:=fun x=>(q x).2.2.2.1
 refine ⟨h.kind,hw,h.n.congr hh hs,h.e.congr hh he hs,?_,?_⟩
 ·obtain ⟨ho,pw,pq,sw,sc,sm,sz⟩:=h.o;refine ⟨?_,?_,?_,?_,sc,by simpa using sm,sz⟩
  ·intro x hx;simp only [Us,q1] at hx;rcases chg x with h1 | ⟨_,_,h1 | h1⟩
   ·have:=ho x hx
    simp only [Ho,h1,List.length_set] at this ⊢;exact this
   ·exact .inl h1
   ·exact .inr ⟨i,by simpa using hi,h1⟩
  ·intro a b u v x ha hb hu hv;rw [List.getElem?_set] at ha hb
   have:=hct'.fr (x:=x)
   grind
  ·intro a b u v x x' y ha hb hu hv;rw [List.getElem?_set] at ha hb
   have:=hct'.pair (x:=x) (y:=y)
   have:=hct'.pair (x:=x') (y:=y)
   grind
  ·intro x hx;simp only [Re,Ra,q3,q4];exact sw x hx
 ·intro j u hj;rw [List.getElem?_set] at hj;by_cases ej : i = j
  ·subst ej; simp [hi] at hj; subst hj; exact hth
  ·rw [if_neg ej] at hj;have hT:=h.th j u hj;have nd : ∀ x,(Us P.mem x/\Ho P.mem x = j)\/Fr x u->M'.node x = P.mem.node x:=by
    intro x hx;rcases chg x with h1 | ⟨h1,h2,_⟩
    ·exact h1
    ·exfalso;rcases hx with hx | hx
     ·simp only [Ho] at hx h2; omega
     ·rcases h1 with rfl | h1
      ·exact (h.freshUs hj hx).2.1 rfl
      ·exact h1.2.2 ⟨j,u,hj,hx⟩
   refine hT.rely h.n.one.1 ⟨Int.le_refl _,fun x hx=>(hs.gd x).2 hx,?_,fun x hx=>hx,?_,?_,?_,?_,h.n.gt.z⟩
   ·intro x hx;have hu:=h.usedGd hx;obtain ⟨a1,a2,a3,a4,a5,a6,a7,a8⟩:=q x;refine ⟨by simp only [Us]; rw [a1]; exact hu,a5,a7,rfl,fun _ hk=>hk,?_⟩;intro hr;left;simp only [Re,Ra] at hr ⊢;rw [a3] at hr; exact ⟨hr,a4⟩
   ·intro x hx;exact ⟨nd x hx,fun s=>pd_es he x s,fun s st d=>(sd_es he x s st d).1,fun s d hh=>hh,rfl⟩
   ·intro x hx;obtain ⟨b,hk,hn,hm⟩:=hx;obtain ⟨a,n,q⟩:=hT.f8 b hk hn;rw [q.md] at hm
    have:=q.h
    simp at hm; grind
   ·intro x y hp;rcases chg y with h1 | ⟨h1,h2,h3⟩
    ·exact h1
    ·exfalso
     -- its leaf is held by nobody
     obtain ⟨b,hk,hn,e1,e2⟩:=hp;have hc:=hT.cs b (by omega) (by omega);have hz:=h.gd0;rw [e2] at hc;rcases h1 with h1 | ⟨h1,_⟩
     ·rw [h1] at hc; exact hz hc.1
     ·have:=hc.2.2.1; omega
   ·intro x hu;have hu' : Us P.mem x:=by show (P.mem.node x).used = true; rw [<- q1]; exact hu
    rcases chg x with h1 | ⟨_,h2,h3⟩
    ·simp only [Ho,h1]; exact ⟨fun h=>⟨hu',h⟩,fun h=>h.2⟩
    ·constructor
     ·intro h4; simp only [Ho] at h3 h4; omega
     ·rintro ⟨_,h4⟩; simp only [Ho] at h2 h4; omega
theorem Inv.calm (h : Inv g P) (ht : P.ts[i]? = some t) (hct : Calm t) (hct' : Calm t') (hth : Th g P.mem P.clock P.sweep (P.ts.set i t') i t') : Inv g { P with ts:=P.ts.set i t' } :=
 h.hold ht hct hct' h.wm rfl (HoldEq.refl _) (fun _=>.inl rfl) hth
end
end T
end
section
namespace T
section
variable {g g' : Gh} {M M' : PMem} {c c' : Int} {r : PSweep} {i j : Nat} {t t' u : PThread} {ts ts' : List PThread} {P : PSt} {x : Int}
theorem Th.low (h4 : t.busy = true->t.work.next<=4\/t.work.next = 13)
  (kd : t.busy = true->t.work.kind = 1\/t.work.kind = 2\/t.work.kind = 3\/t.work.kind = 4)
  (nx : t.busy = true->1<=t.work.next/\t.work.next<=13)
  (sl : t.slot = if t.busy = true/\t.work.next≠1 then (if t.work.next<=3 then 1 else 2) else 0)
  (tm : t.busy = true->3<=t.work.next->t.work.time<=c/\(i + 1 < r.made->(r.hasTime = true/\r.time<=t.work.time)\/r.clock<=t.work.time))
  (hd : ∀ x,Us M x->¬ Ho M x = i)
  (l4 : t.busy = true->t.work.locks = 0)
  (ky : t.busy = true->t.work.kind≠4->0<=t.work.key/\t.work.key<=1099511627776)
  (hi : t.busy = true->t.work.kind = 4->greatestHi t.work.spans<=1099511627776)
  (lk : t.busy = true->t.work.kind = 4->t.work.next<=3->t.work.links = [(0,false)])
  (l3 : t.busy = true->t.work.kind≠4->t.work.links = [])
  (m7 : t.busy = true->t.work.next<=7->t.work.made = [])
  (xs : t.busy = true->t.work.kind = 1\/t.work.kind = 2->t.work.next = 4->Wk g M c ts t.work.key t.work.stand/\Safe M r i t.work.time t.work.stand)
  (xa : t.busy = true->t.work.kind = 1\/t.work.kind = 2->t.work.next = 4->t.work.stand≠0->Wk g M c ts t.work.key t.work.above/\Safe M r i t.work.time t.work.above/\g.B t.work.above < g.B t.work.stand) : Th g M c r ts i t:=by
 constructor
 case kd=>exact kd
 case nx=>exact nx
 case sl=>exact sl
 case tm=>exact tm
 case ky=>exact ky
 case hi=>exact hi
 case lk=>exact lk
 case l3=>exact l3
 case m7=>exact m7
 case hd =>
  intro x hx;refine iff_of_false (hd x hx) ?_;rintro ⟨b,hm⟩;rw [l4 b] at hm; simp at hm
 case l4=>exact fun b _=>l4 b
 case xs=>intro b hk h1 h2; exact xs b hk (by have:=h4 b; omega)
 case xa=>intro b hk h1 h2; exact xa b hk (by have:=h4 b; omega)
 all_goals (intro b; intros; have:=h4 b; omega)
theorem calm7 (h6 : t.busy = true->t.work.next<=7\/t.work.next = 13) : Calm t:=fun b _=>by have:=h6 b; omega
theorem Th.free (h : Th g M c r ts i t) (hl : t.busy = true->t.work.next<=4\/t.work.next = 13) (x : Int) (hx : Us M x) : ¬ Ho M x = i:=by
 rw [h.hd x hx];rintro ⟨b,hm⟩;rw [h.l4 b (hl b)] at hm;simp at hm
theorem Inv.safe0 (h : Inv g P) {time : Int} (ht : i + 1 < P.sweep.made->(P.sweep.hasTime = true/\P.sweep.time<=time)\/P.sweep.clock<=time) (hx : x = 0\/(g.V P.clock).Has x) : Safe P.mem P.sweep i time x:=by
 have hr : (P.mem.node x).retired = false:=by
  rcases hx with rfl | hx
  ·exact h.n.n0.2.2.2
  ·exact (h.n.tn x hx).2
 have hu : Us P.mem x:=by
  rcases hx with rfl | hx
  ·exact h.n.n0.1
  ·rcases Tr.has_or hx with ⟨q,hq⟩ | ⟨q,w,hq⟩
   ·exact (h.n.ag.n x q hq).1
   ·exact (h.n.ag.l x q w hq).1
 refine ⟨hu,?_,?_⟩
 ·intro hh; simp only [Re] at hh; rw [hr] at hh; cases hh
 ·intro hm;rcases ht hm with h3 | h3
  ·exact .inl h3
  ·refine .inr ⟨h3,fun hs=>?_⟩
   have:=(h.o.sw x hs).1
   simp only [Re] at this; rw [hr] at this; cases this
theorem Inv.step1 (h : Inv g P) (ht : P.ts[i]? = some t) (hb : t.busy = true) (hn : t.work.next = 1) : Inv g { P with ts:=P.ts.set i { t with slot:=1,work:={ t.work with next:=2 } } }:=by
 have hT:=h.th i t ht;refine h.calm ht (calm7 fun _=>by omega) (calm7 fun _=>.inl (by show 2<=7; omega)) ?_;refine Th.low (fun _=>.inl (by show 2<=4; omega)) hT.kd (fun _=>by show 1<=2/\2<=13; omega) (by simp [hb]) (fun _ h3=>by have : 3<=2:=h3; omega) (hT.free fun _=>by omega) (fun b=>hT.l4 b (by omega)) hT.ky hT.hi (fun b k _=>hT.lk b k (by omega)) hT.l3 (fun b _=>hT.m7 b (by omega)) (fun _ _ h=>by have : 2 = 4:=h; omega) (fun _ _ h=>by have : 2 = 4:=h; omega)
theorem Inv.step2 (h : Inv g P) (ht : P.ts[i]? = some t) (hb : t.busy = true) (hn : t.work.next = 2) : Inv g { P with ts:=P.ts.set i { t with work:={ t.work with time:=P.clock,next:=3 } } }:=by
 have hT:=h.th i t ht;have hsl:=hT.sl;rw [hn] at hsl;refine h.calm ht (calm7 fun _=>by omega) (calm7 fun _=>.inl (by show 3<=7; omega)) ?_;refine Th.low (fun _=>.inl (by show 3<=4; omega)) hT.kd (fun _=>by show 1<=3/\3<=13; omega) (by simpa [hb] using hsl) (fun _ h3=>⟨Int.le_refl _,fun _=>.inr h.o.sc.1⟩) (hT.free fun _=>by omega) (fun b=>hT.l4 b (by omega)) hT.ky hT.hi (fun b k _=>hT.lk b k (by omega)) hT.l3 (fun b _=>hT.m7 b (by omega)) (fun _ _ h=>by have : 3 = 4:=h; omega) (fun _ _ h=>by have : 3 = 4:=h; omega)
theorem Inv.step3 (h : Inv g P) (ht : P.ts[i]? = some t) (hb : t.busy = true) (hn : t.work.next = 3) : Inv g { P with ts:=P.ts.set i { t with slot:=2,work:=t.work.home } }:=by
 have hT:=h.th i t ht;have htm:=hT.tm hb (by omega);refine h.calm ht (calm7 fun _=>by omega) (calm7 fun _=>.inl (by show 4<=7; omega)) ?_;refine Th.low (fun _=>.inl (by show 4<=4; omega)) hT.kd (fun _=>by show 1<=4/\4<=13; omega) (by simp [hb,PWork.home]) (fun _ h3=>htm) (hT.free fun _=>by omega) (fun b=>hT.l4 b (by omega)) hT.ky hT.hi (fun b k h=>by have : 4<=3:=h; omega) hT.l3 (fun b _=>hT.m7 b (by omega)) (fun _ _ _=>⟨.inl rfl,h.safe0 htm.2 (.inl rfl)⟩) (fun _ _ _ h=>absurd rfl h)
theorem Inv.step13 (h : Inv g P) (ht : P.ts[i]? = some t) (hn : t.work.next = 13) : Inv g { P with ts:=P.ts.set i t.leave }:=by
 have hT:=h.th i t ht;refine h.calm ht (calm7 fun _=>by omega) (calm7 fun b=>by cases b) ?_;exact Th.low (fun b=>by cases b) (fun b=>by cases b) (fun b=>by cases b) rfl (fun b=>by cases b) (hT.free fun _=>by omega) (fun b=>by cases b) (fun b=>by cases b) (fun b=>by cases b) (fun b=>by cases b) (fun b=>by cases b) (fun b=>by cases b) (fun b=>by cases b) (fun b=>by cases b)
theorem Inv.begin (h : Inv g P) (ht : P.ts[i]? = some t) (hb : t.busy = false) {k : PWork} (h1 : k.next = 1) (h2 : k.kind = 1\/k.kind = 2\/k.kind = 3\/k.kind = 4) (h3 : k.locks = 0) (h4 : k.made = []) (h5 : k.kind≠4->0<=k.key/\k.key<=1099511627776) (h6 : k.kind = 4->greatestHi k.spans<=1099511627776) (h7 : k.kind = 4->k.links = [(0,false)]) (h8 : k.kind≠4->k.links = []) : Inv g { P with ts:=P.ts.set i { t with busy:=true,work:=k } }:=by
 have hT:=h.th i t ht;have hsl:=hT.sl;rw [hb] at hsl;refine h.calm ht (calm7 fun b=>by rw [hb] at b; cases b) (calm7 fun b=>.inl (by show k.next<=7; omega)) ?_;exact Th.low (fun b=>.inl (by show k.next<=4; omega)) (fun b=>h2) (fun b=>by show 1<=k.next/\k.next<=13; omega) (by simpa [h1] using hsl) (fun b q=>by have : 3<=k.next:=q; omega) (hT.free fun b=>by rw [hb] at b; cases b) (fun b=>h3) (fun b=>h5) (fun b=>h6) (fun b q _=>h7 q) (fun b=>h8) (fun b _=>h4) (fun b _ q=>by have : k.next = 4:=q; omega) (fun b _ q=>by have : k.next = 4:=q; omega)
theorem Inv.readTo (h : Inv g P) (ht : P.ts[i]? = some t) (hb : t.busy = true) (hn : t.work.next = 4) (hk : t.work.kind = 3\/t.work.kind = 4) {k : PWork} (h1 : k.kind = t.work.kind) (h2 : k.next = 4\/k.next = 13) (h3 : k.locks = t.work.locks) (h4 : k.key = t.work.key) (h5 : k.spans = t.work.spans) (h6 : k.time = t.work.time) (h7 : k.made = t.work.made) (h8 : k.kind≠4->k.links = t.work.links) : Inv g { P with ts:=P.ts.set i { t with work:=k } }:=by
 have hT:=h.th i t ht;have hsl:=hT.sl;have htm:=hT.tm hb (by omega);refine h.calm ht (calm7 fun _=>by omega) (calm7 fun _=>by show k.next<=7\/k.next = 13; omega) ?_;refine Th.low (fun _=>by show k.next<=4\/k.next = 13; omega) (fun b=>by show k.kind = 1\/_; rw [h1]; exact hT.kd hb) (fun _=>by show 1<=k.next/\k.next<=13; omega) ?_ (fun _ h3=>by show k.time<=_/\_; rw [h6]; exact htm) (hT.free fun _=>by omega) (fun b=>by show k.locks = 0; rw [h3]; exact hT.l4 b (by omega)) (fun b q=>by show 0<=k.key/\k.key<=_; rw [h4]; exact hT.ky b (by rw [<- h1]; exact q)) (fun b q=>by show greatestHi k.spans<=_; rw [h5]; exact hT.hi b (by rw [<- h1]; exact q)) (fun b _ q=>by have : k.next<=3:=q; omega) (fun b q=>by show k.links = _; rw [h8 q]; exact hT.l3 b (by rw [<- h1]; exact q)) (fun b q=>by show k.made = _; rw [h7]; exact hT.m7 b (by omega)) (fun b q=>by have : k.kind = 1\/k.kind = 2:=q; omega) (fun b q=>by have : k.kind = 1\/k.kind = 2:=q; omega);show t.slot = if t.busy = true/\k.next≠1 then (if k.next<=3 then 1 else 2) else 0
 rw [hsl]; simp [hb,hn];rw [if_neg (by omega),if_neg (by omega)]
end
end T
end
section
namespace T
theorem setW_to {i : Nat} {t : PThread} (P : PSt) (ht : P.ts[i]? = some t) (k : PWork) : P.setW i k = { P with ts:=P.ts.set i { t with work:=k } }:=by
 unfold PSt.setW
 congr 1
 apply List.ext_getElem?;intro j;rw [List.getElem?_modify,List.getElem?_set];by_cases e : i = j
 ·subst e;obtain ⟨h1,h2⟩:=List.getElem?_eq_some_iff.1 ht;simp [h1,h2]
 ·simp [e]
theorem setMW_to {i : Nat} {t : PThread} (P : PSt) (ht : P.ts[i]? = some t) (M : PMem) (k : PWork) : (P.setM M).setW i k = { P with mem:=M,ts:=P.ts.set i { t with work:=k } }:=setW_to (P.setM M) ht k
section
variable {g g' : Gh} {M M' : PMem} {c c' : Int} {r : PSweep} {i j : Nat} {t t' u : PThread} {ts ts' : List PThread} {P : PSt} {x : Int} {s : Bool} {key : Int}
theorem Th.of7 (h7 : t.busy = true->t.work.next<=7\/t.work.next = 13\/(t.work.next = 12/\¬ (t.work.kind = 2/\t.work.ans.did = true)))
  (kd : t.busy = true->t.work.kind = 1\/t.work.kind = 2\/t.work.kind = 3\/t.work.kind = 4)
  (nx : t.busy = true->1<=t.work.next/\t.work.next<=13)
  (rd : t.busy = true->(t.work.kind = 3\/t.work.kind = 4)->t.work.next<=4\/t.work.next = 13)
  (sl : t.slot = if t.busy = true/\t.work.next≠1 then (if t.work.next<=3 then 1 else 2) else 0)
  (tm : t.busy = true->3<=t.work.next->t.work.time<=c/\(i + 1 < r.made->(r.hasTime = true/\r.time<=t.work.time)\/r.clock<=t.work.time))
  (hd : ∀ x,Us M x->(Ho M x = i ↔ t.busy = true/\x ∈ (hl M t.work).take t.work.locks))
  (l4 : t.busy = true->t.work.next<=4\/t.work.next = 13->t.work.locks = 0)
  (l5 : t.busy = true->t.work.next = 5->t.work.locks < (hl M t.work).length)
  (l6 : t.busy = true->6<=t.work.next->t.work.next<=12->t.work.locks = (hl M t.work).length)
  (ky : t.busy = true->t.work.kind≠4->0<=t.work.key/\t.work.key<=1099511627776)
  (hi : t.busy = true->t.work.kind = 4->greatestHi t.work.spans<=1099511627776)
  (lk : t.busy = true->t.work.kind = 4->t.work.next<=3->t.work.links = [(0,false)])
  (l3 : t.busy = true->t.work.kind≠4->t.work.links = [])
  (m7 : t.busy = true->t.work.next<=7->t.work.made = [])
  (xs : t.busy = true->t.work.kind = 1\/t.work.kind = 2->4<=t.work.next->t.work.next<=12->Wk g M c ts t.work.key t.work.stand/\Safe M r i t.work.time t.work.stand)
  (xa : t.busy = true->t.work.kind = 1\/t.work.kind = 2->4<=t.work.next->t.work.next<=12->t.work.stand≠0->Wk g M c ts t.work.key t.work.above/\Safe M r i t.work.time t.work.above/\g.B t.work.above < g.B t.work.stand)
  (cs : t.busy = true->5<=t.work.next->t.work.next<=12->Gd g c ts t.work.ahead/\Safe M r i t.work.time t.work.ahead/\Ln M t.work.ahead = 0/\(t.work.stand = 0->t.work.ahead = 1))
  (c7 : t.busy = true->t.work.next = 7->(Ky M t.work.ahead = t.work.key ↔ t.work.kind = 2))
  (e7 : t.busy = true->t.work.next = 7->A (g.V c) t.work.stand (sd M t.work.stand t.work.key) t.work.ahead/\Ld M t.work.stand (sd M t.work.stand t.work.key) = t.work.ahead/\(t.work.kind = 2->A (g.V c) t.work.above (sd M t.work.above t.work.key) t.work.stand/\Ld M t.work.above (sd M t.work.above t.work.key) = t.work.stand)) : Th g M c r ts i t:=by
 refine ⟨kd,nx,rd,sl,tm,hd,l4,l5,l6,ky,hi,lk,l3,m7,xs,xa,cs,?_,?_,?_,?_,?_,?_,?_,?_,?_,?_⟩
 ·intro b h1; have:=h7 b; omega
 ·intro b h1 h2; exact c7 b (by have:=h7 b; omega)
 ·intro b h1 h2; exact e7 b (by have:=h7 b; omega)
 ·intro b h1 h2; have:=h7 b; omega
 ·intro b _ h1; have:=h7 b; omega
 ·intro b _ h1; have:=h7 b; omega
 ·intro b _ h1 h2; have:=h7 b; omega
 ·intro b hk hn; have:=h7 b; grind
 ·intro b h1; have:=h7 b; omega
 ·intro b h1 h2; have:=h7 b; omega
theorem sd0 (h : Ln M 0 = 1) (key : Int) : sd M 0 key = false:=by unfold sd PMem.sideFor; simp only [Ln] at h; rw [h]; rfl
theorem Inv.gdLn (h : Inv g P) (hx : Gd g P.clock P.ts x) : Ln P.mem x = 0\/Ln P.mem x = 2:=by
 rcases hx.1 with hx | hx
 ·exact (h.n.ou x hx).2.2.2
 ·rcases Tr.has_or hx with ⟨q,hq⟩ | ⟨q,w,hq⟩
  ·exact .inr (h.n.ag.n x q hq).2.1
  ·exact .inl (h.n.ag.l x q w hq).2.1
theorem Inv.hasLink (h : Inv g P) (hx : x = 0\/(Ln P.mem x = 2/\Gd g P.clock P.ts x)) (hs : x = 0->s = false) : P.mem.hasLink x s = true:=by
 rw [hasLink_iff];have hu:=h.usedGd (x:=x) (by rcases hx with e | e; exact .inl e; exact .inr e.2);refine ⟨hasN_used hu,?_⟩;rcases hx with rfl | hx
 ·rw [hs rfl]; have:=h.n.n0.2.1; simp only [Ln] at this; rw [this]; simp [b2i]
 ·have:=hx.1; simp only [Ln] at this; rw [this]; cases s <;> simp [b2i]
theorem Inv.leads (h : Inv g P) (hx : x = 0\/(Ln P.mem x = 2/\Gd g P.clock P.ts x)) (key : Int) : P.leadsFrom x key = Ld P.mem x (sd P.mem x key):=by
 unfold PSt.leadsFrom PMem.leadsTo;rw [h.hasLink hx (by rintro rfl; exact sd0 h.n.n0.2.1 key)]; rfl
theorem Wk.sn (h : Wk g M c ts key x) : x = 0\/(Ln M x = 2/\Gd g c ts x):=by
 rcases h with h | h
 ·exact .inl h
 ·exact .inr ⟨h.1,h.2.2⟩
theorem Inv.safeNext (h : Inv g P) (hx : x = 0\/(Ln P.mem x = 2/\Gd g P.clock P.ts x)) (hs : x = 0->s = false) {time : Int} (hS : Safe P.mem P.sweep i time x) : Safe P.mem P.sweep i time (Ld P.mem x s):=by
 obtain ⟨h1,h2,h3,h4⟩:=h.n.ph x s hx hs;refine ⟨h.usedGd (.inr h1),?_,?_⟩
 ·intro hr; have:=h3 hr; have:=hS.2.1 this.1; omega
 ·intro hm;rcases hS.2.2 hm with q | q
  ·exact .inl q
  ·exact .inr ⟨q.1,fun hh=>q.2 (h4 hh)⟩
theorem Inv.first (h : Inv g P) (h0 : Ln P.mem (Ld P.mem 0 false)≠2) : Ld P.mem 0 false = 1:=by
 rcases h.n.lk 0 false _ (Tr.ed_pl 0 false (g.V P.clock)) with e | ⟨j,u,hj,hx⟩
 ·rw [e] at h0 ⊢;have h1:=h.n.gt.one;have h2:=h.n.ag.n;cases hv : g.V P.clock with
  | lf p k v=>rw [hv] at h1; simp [Tr.Lea] at h1; simp [Tr.pl,h1]
  | nd p k l r =>
   rw [hv] at h0 h2;exact absurd (h2 p k (.inl ⟨rfl,rfl⟩)).2.1 h0
 ·obtain ⟨b,hk,hn,e1,e2⟩:=hx;have hT:=h.th j u hj;obtain ⟨q1,q2⟩:=hT.tt b (by omega) (by omega);rcases hk with hk | hk
  ·have hn : u.work.next = 10:=by
    rcases hn with hn | hn
    ·have:=hT.n9 b hn; omega
    ·exact hn
   obtain ⟨a,n,q⟩:=hT.f10 b hk hn;rw [if_neg (by omega)] at q1;have h3:=q.ls;have h4:=(hT.cs b (by omega) (by omega));rw [q1] at e1;rw [e1,sd0 h.n.n0.2.1] at h3;rw [h3]; exact h4.2.2.2 e1
  ·have:=hT.q8 b hk (by omega) (by omega)
   have h5:=(hT.q9 b hk (by omega)).1.ln;rw [if_pos hk] at q1;rw [q1] at e1;rw [e1,sd0 h.n.n0.2.1] at this;rw [this.2.1] at h0; exact absurd h5 h0
theorem Inv.walk (h : Inv g P) (ht : P.ts[i]? = some t) (hb : t.busy = true) (hn : t.work.next = 4) (hk : t.work.kind = 1\/t.work.kind = 2) : Inv g (P.setW i (P.walk t.work)):=by
 have hT:=h.th i t ht;obtain ⟨x1,x2⟩:=hT.xs hb hk (by omega) (by omega);have xz:=x1.sn;have hl0:=hT.l4 hb (.inl (by omega));have hfree:=hT.free (fun _=>by omega);have htm:=hT.tm hb (by omega);have hsl:=hT.sl;rw [hn] at hsl;simp [hb] at hsl;rw [setW_to P ht];have hs0 : t.work.stand = 0->sd P.mem t.work.stand t.work.key = false:=fun e=>by rw [e]; exact sd0 h.n.n0.2.1 _
 obtain ⟨p1,p2,p3,p4⟩:=h.n.ph _ _ xz hs0;have hSn:=h.safeNext xz hs0 x2;have hld:=h.leads xz t.work.key;have hp : P.isPassed (P.leadsFrom t.work.stand t.work.key) t.work.key = decide (Ln P.mem (Ld P.mem t.work.stand (sd P.mem t.work.stand t.work.key)) = 2):=by
  unfold PSt.isPassed;rw [if_pos h.kind,hld]
  rfl
 have hct : Calm t:=calm7 fun _=>by omega
 unfold PSt.walk;rw [hp,hld];by_cases hd : Ln P.mem (Ld P.mem t.work.stand (sd P.mem t.work.stand t.work.key)) = 2
 ·rw [if_pos (by simpa using hd)];have hR:=h.n.pr _ _ t.work.key xz (by rcases x1 with e | e; exact .inl e; exact .inr e.2.1) rfl hd;have hct' : Calm { t with work:={ t.work with above:=t.work.stand,stand:=Ld P.mem t.work.stand (sd P.mem t.work.stand t.work.key) } }:=calm7 fun _=>.inl (by show t.work.next<=7; omega)
  have hs:=Same.calm ht hct hct';refine h.calm ht hct hct' ?_;refine Th.low (fun _=>.inl (by show t.work.next<=4; omega)) hT.kd hT.nx (by show t.slot = if t.busy = true/\t.work.next≠1 then _ else _; rw [hn]; simpa [hb] using hsl) hT.tm hfree (fun _=>hl0) hT.ky hT.hi hT.lk hT.l3 hT.m7 ?_ ?_
  ·intro _ _ _;refine ⟨.inr ⟨hd,hR,(hs.gd _).2 p1⟩,hSn⟩
  ·intro _ _ _ _;refine ⟨?_,x2,p2 hd⟩;rcases x1 with e | e
   ·exact .inl e
   ·exact .inr ⟨e.1,e.2.1,(hs.gd _).2 e.2.2⟩
 ·rw [if_neg (by simpa using hd)];have hct' : Calm { t with work:={ t.work with ahead:=Ld P.mem t.work.stand (sd P.mem t.work.stand t.work.key),next:=5 } }:=calm7 fun _=>.inl (by show 5<=7; omega)
  have hs:=Same.calm ht hct hct';have wk : ∀ y,Wk g P.mem P.clock P.ts t.work.key y->Wk g P.mem P.clock (P.ts.set i { t with work:={ t.work with ahead:=Ld P.mem t.work.stand (sd P.mem t.work.stand t.work.key),next:=5 } }) t.work.key y:=by
   rintro y (e | e)
   ·exact .inl e
   ·exact .inr ⟨e.1,e.2.1,(hs.gd _).2 e.2.2⟩
  refine h.calm ht hct hct' ?_;refine Th.of7 (fun _=>.inl (by show 5<=7; omega)) hT.kd (fun _=>by show 1<=5/\5<=13; omega) (fun _ q=>by have : t.work.kind = 3\/t.work.kind = 4:=q; omega) (by simpa [hb] using hsl) (fun _ _=>htm) ?_ (fun _ _=>hl0) (fun _ _=>by show t.work.locks < _; rw [hl0]; exact (hl_len _ _).1) (fun _ q=>by have : 6<=5:=q; omega) hT.ky hT.hi (fun _ _ q=>by have : 5<=3:=q; omega) hT.l3 (fun _ _=>hT.m7 hb (by omega)) ?_ ?_ ?_ (fun _ q=>by have : 5 = 7:=q; omega) (fun _ q=>by have : 5 = 7:=q; omega)
  ·intro x hx;refine iff_of_false (hfree x hx) ?_;rintro ⟨_,hm⟩;have : t.work.locks = 0:=hl0;rw [this] at hm; simp at hm
  ·intro _ _ _ _; exact ⟨wk _ x1,x2⟩
  ·intro _ _ _ _ hz;obtain ⟨a1,a2,a3⟩:=hT.xa hb hk (by omega) (by omega) hz;exact ⟨wk _ a1,a2,a3⟩
  ·intro _ _ _;refine ⟨(hs.gd _).2 p1,hSn,?_,?_⟩
   ·rcases h.gdLn p1 with e | e
    ·exact e
    ·exact absurd e hd
   ·intro e;have e' : t.work.stand = 0:=e;show Ld P.mem t.work.stand (sd P.mem t.work.stand t.work.key) = 1;rw [e',sd0 h.n.n0.2.1] at hd ⊢;exact h.first hd
end
end T
end
section
namespace T
section
variable {g g' : Gh} {M M' : PMem} {c c' : Int} {r : PSweep} {i j : Nat} {t t' u : PThread} {ts ts' : List PThread} {P : PSt} {x : Int} {s : Bool} {key : Int}
theorem Inv.takes (P : PSt) (k : PWork) : P.takesOut k = decide (Mt P.mem k):=by
 have : P.takesOut k = true ↔ Mt P.mem k:=by unfold PSt.takesOut PSt.meetsKey; simp [Mt]
 rw [Bool.eq_iff_iff,this]; simp
theorem Inv.wanted (h : Inv g P) (k : PWork) : P.wanted k = hl P.mem k:=by
 unfold PSt.wanted hl;rw [Inv.takes,if_pos h.kind];by_cases hm : Mt P.mem k
 ·rw [if_pos hm,if_pos (by simpa using hm)]
 ·rw [if_neg hm,if_neg (by simpa using hm)]
def lockNext (M : PMem) (k : PWork) : Int:=(hl M k)[k.locks]?.getD 0
theorem Th.sap (h : Th g M c r ts i t) (h1 : Ky M 1 = 1099511627777) (hb : t.busy = true) (h5 : 5<=t.work.next) (h12 : t.work.next<=12) (hm : Mt M t.work) : t.work.above≠t.work.stand:=by
 intro e
 have:=(h.xa hb (h.upd hb h5 h12) (by omega) h12 (h.ns h1 hb h5 h12 hm)).2.2
 rw [e] at this; omega
theorem Inv.lockIs (h : Inv g P) (ht : P.ts[i]? = some t) (hb : t.busy = true) (hn : t.work.next = 5) : Us P.mem (lockNext P.mem t.work)/\Wk g P.mem P.clock P.ts t.work.key (lockNext P.mem t.work)/\Ho P.mem (lockNext P.mem t.work)≠i/\(∀ x,x ∈ (hl P.mem t.work).take (t.work.locks + 1) ↔ x ∈ (hl P.mem t.work).take t.work.locks\/x = lockNext P.mem t.work)/\(t.work.kind = 1\/t.work.kind = 2)/\t.work.locks < (hl P.mem t.work).length:=by
 have hT:=h.th i t ht;have hk:=hT.upd hb (by omega) (by omega);have hlt:=hT.l5 hb hn;have hln:=hl_len P.mem t.work;have h1:=h.n.one.1;obtain ⟨x1,x2⟩:=hT.xs hb hk (by omega) (by omega);have key : Us P.mem (lockNext P.mem t.work)/\Wk g P.mem P.clock P.ts t.work.key (lockNext P.mem t.work)/\¬ lockNext P.mem t.work ∈ (hl P.mem t.work).take t.work.locks:=by
  unfold lockNext hl at *;by_cases hm : Mt P.mem t.work
  ·rw [if_pos hm] at hlt ⊢;have hne:=hT.sap h1 hb (by omega) (by omega) hm;obtain ⟨y1,y2,y3⟩:=hT.xa hb hk (by omega) (by omega) (hT.ns h1 hb (by omega) (by omega) hm);rcases (show t.work.locks = 0\/t.work.locks = 1 by simp at hlt; omega) with e | e
   ·rw [e]; simp; exact ⟨y2.1,y1⟩
   ·rw [e]; simp; exact ⟨x2.1,x1,fun e=>hne e.symm⟩
  ·rw [if_neg hm] at hlt ⊢;have e : t.work.locks = 0:=by simp at hlt; omega
   rw [e]; simp; exact ⟨x2.1,x1⟩
 refine ⟨key.1,key.2.1,fun hh=>key.2.2 ((hT.hd _ key.1).1 hh).2,?_,hk,hlt⟩;intro x;rw [List.take_add_one];unfold lockNext;rw [List.getElem?_eq_getElem hlt];simp only [List.mem_append,Option.toList_some,List.mem_singleton,Option.getD_some]
theorem Safe.hold {time : Int} (hh : HoldEq M M') (hs : Safe M r i time x) : Safe M' r i time x:=by
 have q:=hh.to x;refine ⟨by simp only [Us]; rw [q.1]; exact hs.1,?_,hs.2.2⟩;simp only [Re,Ra]; rw [q.2.2.1,q.2.2.2.1]; exact hs.2.1
theorem Wk.hold (hh : HoldEq M M') (hs : Same ts ts') (h : Wk g M c ts key x) : Wk g M' c ts' key x:=by
 rcases h with e | e
 ·exact .inl e
 ·exact .inr ⟨by simp only [Ln]; rw [(hh.to x).2.2.2.2.2.2.1]; exact e.1,e.2.1,(hs.gd _).2 e.2.2⟩
theorem hl_hold (hh : HoldEq M M') (k : PWork) : hl M' k = hl M k:=hl_congr (hh.to _).2.2.2.2.1
theorem Inv.lock (h : Inv g P) (ht : P.ts[i]? = some t) (hb : t.busy = true) (hn : t.work.next = 5) :
  (Ho P.mem (lockNext P.mem t.work) = -1/\P.lock i t.work = ((P.setM (P.mem.modN (lockNext P.mem t.work) fun x=>{ x with holder:=i })).setW i { t.work with locks:=t.work.locks + 1,next:=if (hl P.mem t.work).length<=t.work.locks + 1 then 6 else 5 },1)/\Inv g (P.lock i t.work).1) \/
  (Ho P.mem (lockNext P.mem t.work)≠-1/\P.lock i t.work = (P,2)):=by
 have hT:=h.th i t ht;obtain ⟨l1,l2,l3,l4,hk,l6⟩:=h.lockIs ht hb hn;have hlk:=lock_eq (M:=P.mem) (t:=(i : Int)) l1;unfold PSt.lock;rw [h.wanted,if_pos l6,show (hl P.mem t.work)[t.work.locks]?.getD 0 = lockNext P.mem t.work from rfl];by_cases hf : Ho P.mem (lockNext P.mem t.work) = -1
 ·left;refine ⟨hf,?_⟩;rw [if_pos (Or.inl hf)] at hlk;rw [hlk,if_pos rfl];simp only;rw [hn];refine ⟨rfl,?_⟩;rw [setMW_to P ht];have hnd:=node_modN (hasN_used l1) (fun x=>{ x with holder:=(i : Int) });have hh : HoldEq P.mem (P.mem.modN (lockNext P.mem t.work) fun x=>{ x with holder:=(i : Int) }):=by
   intro x;rw [hnd];split
   ·next e=>subst e; exact ⟨_,rfl⟩
   ·exact ⟨(P.mem.node x).holder,rfl⟩
  have hw1 : Wm (P.mem.modN (lockNext P.mem t.work) fun x=>{ x with holder:=(i : Int) }):=h.wm.modN l1 _ l1;have hes:=modN_ents P.mem (lockNext P.mem t.work) (fun x=>{ x with holder:=(i : Int) });generalize (P.mem.modN (lockNext P.mem t.work) fun x=>{ x with holder:=(i : Int) }) = M1 at *;have hlen:=hl_len P.mem t.work;generalize hN : (if (hl P.mem t.work).length<=t.work.locks + 1 then 6 else 5) = nn;have hnn : (nn = 6/\(hl P.mem t.work).length = t.work.locks + 1)\/(nn = 5/\t.work.locks + 1 < (hl P.mem t.work).length):=by
   rw [<- hN]; split
   ·left; exact ⟨rfl,by omega⟩
   ·right; exact ⟨rfl,by omega⟩
  have hct : Calm t:=calm7 fun _=>by omega
  have hct' : Calm { t with work:={ t.work with locks:=t.work.locks + 1,next:=nn } }:=calm7 fun _=>.inl (by show nn<=7; omega)
  have hs:=Same.calm ht hct hct';have hhl : hl M1 { t.work with locks:=t.work.locks + 1,next:=nn } = hl P.mem t.work:=hl_hold hh t.work;obtain ⟨x1,x2⟩:=hT.xs hb hk (by omega) (by omega);obtain ⟨c1,c2,c3,c4⟩:=hT.cs hb (by omega) (by omega);refine h.hold (M':=M1) (t':={ t with work:={ t.work with locks:=t.work.locks + 1,next:=nn } }) ht hct hct' hw1 hes hh ?_ ?_
  ·intro x;rw [hnd];split
   ·next e=>subst e; exact .inr ⟨l2.sn,.inl hf,.inr (by show (M1.node _).holder = _; rw [hnd,if_pos rfl])⟩
   ·exact .inl rfl
  ·refine Th.of7 (fun _=>.inl (by show nn<=7; omega)) hT.kd (fun _=>by show 1<=nn/\nn<=13; omega) (fun _ hh=>by have : t.work.kind = 3\/t.work.kind = 4:=hh; omega) ?_ (fun b _=>hT.tm b (by omega)) ?_ (fun _ hh=>by have : nn<=4\/nn = 13:=hh; omega) ?_ ?_ hT.ky hT.hi (fun _ hh=>by have : t.work.kind = 4:=hh; omega) hT.l3 (fun b _=>hT.m7 b (by omega)) (fun _ _ _ _=>⟨x1.hold hh hs,x2.hold hh⟩) ?_ (fun _ _ _=>⟨(hs.gd _).2 c1,c2.hold hh,by show Ln M1 t.work.ahead = 0; simp only [Ln]; rw [(hh.to _).2.2.2.2.2.2.1]; exact c3,c4⟩) (fun _ q=>by have : nn = 7:=q; omega) (fun _ q=>by have : nn = 7:=q; omega)
   ·show t.slot = if t.busy = true/\nn≠1 then (if nn<=3 then 1 else 2) else 0
    rw [hT.sl,hn];have q1 : nn≠1:=by omega
    have q2 : ¬ nn<=3:=by omega
    simp [hb,q1,q2]
   ·intro x hx;show Ho M1 x = i ↔ t.busy = true/\x ∈ (hl M1 { t.work with locks:=t.work.locks + 1,next:=nn }).take (t.work.locks + 1);rw [hhl,l4 x];have hx' : Us P.mem x:=by show (P.mem.node x).used = true; rw [<- (hh.to x).1]; exact hx
    have hold:=hT.hd x hx';show (M1.node x).holder = i ↔ _;rw [hnd];by_cases e : x = lockNext P.mem t.work
    ·rw [if_pos e]; simp [hb,e]
    ·rw [if_neg e];show Ho P.mem x = i ↔ _;rw [hold]; simp [e]
   ·intro _ q;show t.work.locks + 1 < (hl M1 { t.work with locks:=t.work.locks + 1,next:=nn }).length;rw [hhl]; have : nn = 5:=q; omega
   ·intro _ q _;show t.work.locks + 1 = (hl M1 { t.work with locks:=t.work.locks + 1,next:=nn }).length;rw [hhl]; have : 6<=nn:=q; omega
   ·intro _ _ _ _ hz;obtain ⟨y1,y2,y3⟩:=hT.xa hb hk (by omega) (by omega) hz;exact ⟨y1.hold hh hs,y2.hold hh,y3⟩
 ·right;refine ⟨hf,?_⟩;rw [if_neg (by simp only [not_or]; exact ⟨hf,l3⟩)] at hlk;rw [hlk]; rfl
theorem unlock_hold (M : PMem) (i : Int) : HoldEq M (M.unlock i):=by
 intro x;rw [unlock_node];unfold unlocked;split
 ·exact ⟨_,rfl⟩
 ·exact ⟨(M.node x).holder,rfl⟩
theorem unlock_ho (M : PMem) (i x : Int) (hx : Us M x) : Ho (M.unlock i) x = if Ho M x = i then -1 else Ho M x:=by
 simp only [Ho];rw [unlock_node];unfold unlocked;simp only [Us] at hx;rw [hx];by_cases h : (M.node x).holder = i
 ·simp [h]
 ·simp [h]
theorem unlock_free (M : PMem) (i x : Int) (hi : i≠-1) (hx : Us (M.unlock i) x) : ¬ Ho (M.unlock i) x = i:=by
 have hx' : Us M x:=by have:=(unlock_hold M i).to x; simp only [Us] at hx ⊢; rw [<- this.1]; exact hx
 rw [unlock_ho M i x hx'];split <;> omega
theorem Inv.unlocked (h : Inv g P) (ht : P.ts[i]? = some t) (hct : Calm t) (hct' : Calm t') (hth : Th g (P.mem.unlock i) P.clock P.sweep (P.ts.set i t') i t') : Inv g { P with mem:=P.mem.unlock i,ts:=P.ts.set i t' }:=by
 refine h.hold ht hct hct' (h.wm.unlock i) rfl (unlock_hold _ _) ?_ hth;intro x;by_cases hu : Us P.mem x
 ·by_cases hh : Ho P.mem x = i
  ·right;refine ⟨h.heldGd ht hu hh,.inr hh,.inl ?_⟩;rw [unlock_ho _ _ _ hu,if_pos hh]
  ·left;rw [unlock_node];unfold Proofs.YtfccelbmacjifabGreat.unlocked;rw [if_neg];simp only [Ho] at hh;simp [hh]
 ·left;rw [unlock_node];unfold Proofs.YtfccelbmacjifabGreat.unlocked;rw [if_neg];simp only [Us] at hu;simp [hu]
end
end T
end
end Go.Proofs.YtfccelbmacjifabGreat
