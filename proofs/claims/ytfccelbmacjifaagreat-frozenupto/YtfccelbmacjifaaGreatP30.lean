import Derived.Test.YtfccelbmacjifaaGreatP0
import Derived.Test.YtfccelbmacjifaaGreatP29
import Derived.Test.YtfccelbmacjifaaGreatP22
import Derived.Test.YtfccelbmacjifaaGreatP21
import Derived.Test.YtfccelbmacjifaaGreatP24
set_option linter.unusedSimpArgs false
set_option maxRecDepth 100000
set_option maxHeartbeats 4000000
namespace Go.Proofs.YtfccelbmacjifaaGreat
section
theorem fresh_qm (nn en : Nat) : QM (freshMem nn (en + 1)) 0 []:=by
 rw [fresh_mem];have hes : ∀ x ∈ (⟨true,false,0,false,1,0⟩ :: List.replicate en PEntry.zero : List PEntry),x = ⟨true,false,0,false,1,0⟩\/x = PEntry.zero:=by
  intro x hx;rcases List.mem_cons.1 hx with rfl | hx
  ·exact .inl rfl
  ·exact .inr (List.mem_replicate.1 hx).2
 have hns : ∀ (j : Nat) x,(linked false 1 anchorNode :: endNode :: List.replicate nn PNode.zero)[j]? = some x->(j = 0/\x = linked false 1 anchorNode)\/(j = 1/\x = endNode)\/x = PNode.zero:=by
  intro j x hj
  match j,hj with
  | 0,hj=>exact .inl ⟨rfl,(Option.some.inj hj).symm⟩
  | 1,hj=>exact .inr (.inl ⟨rfl,(Option.some.inj hj).symm⟩)
  | j + 2,hj =>
   have hj' : (List.replicate nn PNode.zero)[j]? = some x:=hj;exact .inr (.inr (List.mem_replicate.1 (List.mem_of_getElem? hj')).2)
 refine ⟨⟨endNode,rfl,rfl,rfl,rfl,rfl,rfl,rfl⟩,?_,?_,List.Pairwise.nil,by simp,by simp,?_,?_,?_,?_,?_,?_⟩
 ·intro q hq;obtain rfl : q = (anchor3,1):=by simpa [edges] using hq
  exact ⟨linked false 1 anchorNode,rfl,rfl,rfl,rfl,rfl,rfl,rfl,rfl,rfl⟩
 ·intro q hq;obtain rfl : q = (anchor3,1):=by simpa [edges] using hq
  refine ⟨⟨true,false,0,false,1,0⟩,by simp,rfl,rfl,rfl,?_⟩;intro e' he hu _;rcases hes e' he with rfl | rfl
  ·exact Int.le_refl _
  ·cases hu
 ·intro i nd hi hu;rcases hns i nd hi with ⟨rfl,_⟩ | ⟨rfl,_⟩ | rfl
  ·left; simp
  ·left; simp
  ·cases hu
 ·intro nd hm hu;obtain ⟨j,hj⟩:=mem_get hm;rcases hns j nd hj with ⟨_,rfl⟩ | ⟨_,rfl⟩ | rfl <;> rfl
 ·intro nd hm hu;obtain ⟨j,hj⟩:=mem_get hm;rcases hns j nd hj with ⟨_,rfl⟩ | ⟨_,rfl⟩ | rfl
  ·rfl
  ·rfl
  ·cases hu
 ·intro en' he;rcases hes en' he with rfl | rfl <;> rfl
 ·intro en' he hu;rcases hes en' he with rfl | rfl
  ·exact ⟨rfl,Int.le_refl _,Int.le_refl _,0,linked false 1 anchorNode,rfl,by decide,rfl,rfl⟩
  ·cases hu
 ·intro i j a b hi hj ua ub _ _;have one : ∀ (i : Nat) a,(⟨true,false,0,false,1,0⟩ :: List.replicate en PEntry.zero : List PEntry)[i]? = some a->a.used = true->i = 0:=by
   intro i a hi hu;cases i with
   | zero=>rfl
   | succ i =>
    have hi' : (List.replicate en PEntry.zero)[i]? = some a:=hi
    have:=(List.mem_replicate.1 (List.mem_of_getElem? hi')).2
    subst this; cases hu
  rw [one i a hi ua,one j b hj ub]
end
section
theorem fresh_qs {T N E L : Int} (hN : 0<=N) (hE : 1<=E) (hL : 0<=L) : QS N E L (freshP 0 T N E L) [] N (E - 1) 0:=by
 obtain ⟨en,hen⟩ : ∃ en : Nat,E.toNat = en + 1:=⟨E.toNat - 1,by omega⟩;have hmem : (freshP 0 T N E L).mem = freshMem N.toNat (en + 1):=by show freshMem N.toNat E.toNat = _; rw [hen]
 have hrep : ∀ k : Nat,count (fun x : PNode=>!x.used) (List.replicate k PNode.zero) = k:=by
  intro k; unfold count; rw [List.filter_eq_self.2 (fun x hx=>by rw [(List.mem_replicate.1 hx).2]; rfl)]; simp
 have hrepE : ∀ k : Nat,count (fun x : PEntry=>!x.used) (List.replicate k PEntry.zero) = k:=by
  intro k; unfold count; rw [List.filter_eq_self.2 (fun x hx=>by rw [(List.mem_replicate.1 hx).2]; rfl)]; simp
 refine ⟨by rw [hmem]; exact fresh_qm _ _,⟨rfl,Int.le_refl _,hL⟩,rfl,rfl,rfl,?_,?_,?_⟩
 ·intro t ht
  have:=(List.mem_replicate.1 (show t ∈ List.replicate T.toNat PThread.zero from ht)).2
  subst this; exact ⟨rfl,rfl⟩
 ·rw [hmem,fresh_mem];have h1 : (count (fun x : PNode=>!x.used) (linked false 1 anchorNode :: endNode :: List.replicate N.toNat PNode.zero)) = N.toNat:=hrep N.toNat;have h2 : (count (fun x : PEntry=>!x.used) (⟨true,false,0,false,1,0⟩ :: List.replicate en PEntry.zero)) = en:=hrepE en;unfold PMem.room;simp only;rw [h1,h2];constructor <;> omega
 ·rw [hmem,fresh_mem];simp only [List.length_cons,List.length_replicate];constructor <;> omega
theorem quiets {T N E L : Int} (hN : 0<=N/\N<=64) (hE : 1<=E/\E<=256) (hL : 0<=L/\L<=1099511627776) : Quiets T N E L (Qof N E L):=by
 refine ⟨⟨[],fresh_qs hN.1 hE.1 hL.1,rfl⟩,?_,?_,?_,?_⟩
 ·rintro P ps n e c ⟨ch,h,rfl⟩;exact h.rooms hN hE hL
 ·rintro P ps n e c ⟨ch,h,rfl⟩ t ht;exact (h.idle t ht).1
 ·rintro P ps n e c i t kd ky va sp ⟨ch,h,rfl⟩ ht hp;show Asked N E L P (ch.map (·.2)) n e c i t kd ky va sp;have hr:=h.rooms hN hE hL;unfold properB checkOp at hp;by_cases h123 : kd = 1\/kd = 2\/kd = 3
  ·rw [if_pos h123] at hp;have hk : 0<=ky/\ky<=1099511627776:=by
    by_cases hh : isIn ky 0 (2 ^ 40) = true
    ·have:=isIn_iff.1 hh; omega
    ·rw [if_neg hh] at hp; simp at hp
   rcases h123 with rfl | rfl | rfl
   ·rcases h.mem.split ky with ⟨a,b,hab,ha,hb⟩ | ⟨a,w,b,hab,hw,ha,hb⟩
    ·exact h.insNew hN.1 ht ky va sp hk hab ha hb
    ·have hq:=h.mem;rw [hab] at hq;have hl:=(hq.live (w,heads b) (mem_split (.inr (mem_edges_self w b)))).key;refine h.noChange hN.1 ht 1 ky va sp (.inl rfl) hk.2 hab ha ?_ ?_ ?_
     ·intro q hq;rcases List.mem_cons.1 hq with rfl | hq
      ·omega
      ·have:=hb q hq; omega
     ·show ((P.mem.node w.1).key == ky) = _;rw [hl.1]; simpa using hw
     ·obtain ⟨v1,_,_⟩:=sheet_hit hw ha hb;rw [hab]; unfold shUpd; rw [v1]; rfl
   ·rcases h.mem.split ky with ⟨a,b,hab,ha,hb⟩ | ⟨a,w,b,hab,hw,ha,hb⟩
    ·have hq:=h.mem;rw [hab] at hq;have hg:=hq.headGt hk.2 hb;refine h.noChange hN.1 ht 2 ky va sp (.inr rfl) hk.2 hab ha (fun q hq=>by have:=hb q hq; omega) ?_ ?_
     ·have : (P.mem.node (heads b)).key≠ky:=by omega
      simpa using this
     ·obtain ⟨v1,_,_⟩:=sheet_miss ha hb;rw [hab]; unfold shUpd; rw [v1]; rfl
    ·exact h.remOld hr.2.2.2.1.1 ht ky va sp hk hab hw ha hb
   ·exact h.look hN.1 ht ky va sp hk
  ·rw [if_neg h123] at hp;by_cases h4 : kd = 4
   ·subst h4;rw [if_pos rfl] at hp;have hs : spansOkX sp = true:=by
     cases hh : spansOkX sp with
     | true=>rfl
     | false=>rw [hh] at hp; simp at hp
    exact h.scan hN.1 ht ky va sp hs
   ·rw [if_neg h4] at hp; simp at hp
 ·rintro P ps n e c ⟨ch,h,rfl⟩;obtain ⟨h1,h2,h3⟩:=h.sweeps;exact ⟨h1,h2,ch,h3,rfl⟩
end
section
def path (M : PMem) : Nat->Int->List Int
 | 0,_=>[]
 | f + 1,x=>if Ld M x = 1 then [] else Ld M x :: path M f (Ld M x)
def Linked (M : PMem) : Int->List Int->Prop
 | x,[]=>Ld M x = 1
 | x,y :: r=>Ld M x = y/\y≠1/\Linked M y r
section
variable {C : Int->Prop} {i j : Nat} {t : PThread} {P : PSt} {L : Nat}
theorem Inv.path (h : Inv C P) : ∀ (f : Nat) (x : Int),C x->wp P.mem.ns.length P.mem C x<=f->Linked P.mem x (path P.mem f x)/\∀ y ∈ path P.mem f x,C y/\y≠0
 | 0,x,hx,hf=>by have:=h.wp_pos h.wm.len x; omega
 | f + 1,x,hx,hf=>by
  obtain ⟨_,_,_,n4,n5,n6⟩:=h.n.mc x hx;unfold Go.Proofs.YtfccelbmacjifaaGreat.path;by_cases h1 : Ld P.mem x = 1
  ·rw [if_pos h1]; exact ⟨h1,by simp⟩
  ·rw [if_neg h1];have hc:=n4.resolve_left h1
   have:=h.wp_lt rfl (.inl hc) n5 n6
   obtain ⟨i1,i2⟩:=Inv.path h f (Ld P.mem x) hc (by omega);refine ⟨⟨rfl,h1,i1⟩,?_⟩;intro y hy;rcases List.mem_cons.1 hy with rfl | hy
   ·exact ⟨hc,n5⟩
   ·exact i2 y hy
theorem Linked.next {M : PMem} : ∀ {l : List Int} {x z : Int},Linked M x l->(z = x\/z ∈ l)->Ld M z≠1->Ld M z ∈ l
 | [],x,z,h,hz,h1=>by
  rcases hz with rfl | hz
  ·exact absurd h h1
  ·cases hz
 | y :: r,x,z,h,hz,h1=>by
  obtain ⟨e1,e2,e3⟩:=h;rcases hz with rfl | hz
  ·rw [e1]; simp
  ·exact List.mem_cons_of_mem _ (Linked.next e3 (List.mem_cons.1 hz) h1)
theorem Inv.chain (h : Inv C P) (hX : InvX C P) : ∃ l : List Int,Linked P.mem 0 l/\(∀ x,x ∈ l ↔ C x/\x≠0):=by
 obtain ⟨h1,h2⟩:=h.path P.mem.ns.length 0 h.n.a0.1 (by have:=wp_le (L:=P.mem.ns.length) (by have:=h.wm.len; omega) P.mem C 0; omega);refine ⟨_,h1,fun x=>⟨h2 x,?_⟩⟩;rintro ⟨hx,h0⟩;have key : ∀ (n : Nat) (x : Int),C x->x≠0->(Ky P.mem x).toNat<=n->x ∈ Go.Proofs.YtfccelbmacjifaaGreat.path P.mem P.mem.ns.length 0:=by
  intro n
  induction n with
  | zero =>
   intro x hx h0 hn;obtain ⟨y,y1,y2⟩:=hX.pr x hx h0;have hx1 : x≠1:=(h.gdLinks (.inl hx)).2;by_cases hy : y = 0
   ·rw [<- y2]; exact h1.next (.inl hy) (by rw [y2]; exact hx1)
   ·exfalso
    have:=(h.n.mc y y1).2.2.2.2.2.resolve_left hy
    rw [y2] at this
    have:=h.gd01 (.inl y1) hy
    omega
  | succ n ih =>
   intro x hx h0 hn;obtain ⟨y,y1,y2⟩:=hX.pr x hx h0;have hx1 : x≠1:=(h.gdLinks (.inl hx)).2;by_cases hy : y = 0
   ·rw [<- y2]; exact h1.next (.inl hy) (by rw [y2]; exact hx1)
   ·have hlt:=(h.n.mc y y1).2.2.2.2.2.resolve_left hy;rw [y2] at hlt
    have:=h.gd01 (.inl y1) hy
    have hm:=ih y y1 hy (by omega);rw [<- y2]; exact h1.next (.inr hm) (by rw [y2]; exact hx1)
 exact key _ x hx h0 (Nat.le_refl _)
theorem Inv.sorted (h : Inv C P) : ∀ (l : List Int) (x : Int),Linked P.mem x l->C x->(∀ y ∈ l,C y/\y≠0)->l.Pairwise (fun a b=>Ky P.mem a < Ky P.mem b)/\∀ y ∈ l,x = 0\/Ky P.mem x < Ky P.mem y
 | [],x,_,_,_=>⟨List.Pairwise.nil,by simp⟩
 | y :: r,x,hl,hx,hc=>by
  obtain ⟨e1,e2,e3⟩:=hl;obtain ⟨yc,y0⟩:=hc y (by simp);obtain ⟨i1,i2⟩:=Inv.sorted h r y e3 yc (fun z hz=>hc z (by simp [hz]));have hxy:=(h.n.mc x hx).2.2.2.2.2;rw [e1] at hxy;refine ⟨List.Pairwise.cons (fun z hz=>(i2 z hz).resolve_left y0) i1,?_⟩;intro z hz;rcases List.mem_cons.1 hz with rfl | hz
  ·exact hxy
  ·rcases hxy with q | q
   ·exact .inl q
   ·right
    have:=(i2 z hz).resolve_left y0
    omega
def spot (M : PMem) (x : Int) : Spot3:=(x.toNat,Ky M x,(M.node x).value)
theorem mem_edges_spot {M : PMem} (hn : ∀ x,(M.node x).used = true->0<=x) : ∀ (l : List Int) (x : Int),Linked M x l->(∀ y ∈ l,(M.node y).used = true)->∀ q ∈ edges (spot M x) (l.map (spot M)),∃ y,(y = x\/y ∈ l)/\q.1 = spot M y/\((q.2 : Nat) : Int) = Ld M y
 | [],x,hl,_,q,hq=>by
  obtain rfl : q = (spot M x,1):=by simpa [edges] using hq
  exact ⟨x,.inl rfl,rfl,hl.symm⟩
 | y :: r,x,hl,hu,q,hq=>by
  obtain ⟨e1,e2,e3⟩:=hl;have hq' : q = (spot M x,(spot M y).1)\/q ∈ edges (spot M y) (r.map (spot M)):=by
   simpa [edges] using hq
  rcases hq' with rfl | hq'
  ·refine ⟨x,.inl rfl,rfl,?_⟩;show ((y.toNat : Nat) : Int) = _
   have:=hn y (hu y (by simp))
   rw [e1]; omega
  ·obtain ⟨z,z1,z2,z3⟩:=mem_edges_spot hn r y e3 (fun z hz=>hu z (by simp [hz])) q hq';refine ⟨z,.inr ?_,z2,z3⟩;rcases z1 with rfl | z1
   ·simp
   ·simp [z1]
theorem Inv.quiet (h : Inv C P) (hX : InvX C P) (hi : ∀ t ∈ P.ts,t.busy = false) : ∃ l : List Int,(∀ x,x ∈ l ↔ C x/\x≠0)/\l.Nodup/\QM P.mem P.clock (l.map (spot P.mem)):=by
 obtain ⟨l,hl,hm⟩:=h.chain hX;have nob : ∀ {p : PThread->Prop},(∀ t,p t->t.busy = true)->¬ Ex P.ts p:=by
  rintro p hp ⟨j,u,hj,hu⟩
  have:=hi u (List.mem_of_getElem? hj)
  rw [hp u hu] at this; cases this
 have hus : ∀ x,(P.mem.node x).used = true->0<=x:=fun x hx=>(hasN_iff.1 (hasN_used hx)).1
 have hlc : ∀ y ∈ l,C y/\y≠0:=fun y hy=>(hm y).1 hy
 have hlu : ∀ y ∈ l,(P.mem.node y).used = true:=fun y hy=>(h.n.mc y (hlc y hy).1).1
 obtain ⟨s1,s2⟩:=h.sorted l 0 hl h.n.a0.1 hlc;have hget : ∀ x,(P.mem.node x).used = true->P.mem.ns[x.toNat]? = some (P.mem.node x):=by
  intro x hx;obtain ⟨k,e,rfl,h1,h2⟩:=node_at (hasN_used hx);rw [h2]; exact h1
 have hback : ∀ (k : Nat) nd,P.mem.ns[k]? = some nd->P.mem.node (k : Int) = nd:=fun k nd hk=>(node_get hk).1
 have hpd : ∀ x,Pd P.mem x = []:=by
  intro x;cases hp : Pd P.mem x with
  | nil=>rfl
  | cons d r =>
   exfalso;refine nob ?_ (h.e.pd x d (by rw [hp]; simp));rintro t (q | q)
   ·exact q.1
   ·exact q.1
 have hcalm : ∀ en ∈ P.mem.es,en.pending = false:=by
  intro en he;cases hq : en.pending
  ·rfl
  ·exfalso;have : en.dst ∈ Pd P.mem en.src:=by
    unfold Pd;exact List.mem_map.2 ⟨en,List.mem_filter.2 ⟨he,by simp [isPd,hq,h.wm.sd en he]⟩,rfl⟩
   rw [hpd] at this; cases this
 have hsd : ∀ en ∈ P.mem.es,en.used = true->Sd P.mem en.src en.stamp en.dst:=fun en he hu=>⟨en,he,by simp [isSt,hu,hcalm en he,h.wm.sd en he],rfl,rfl⟩
 have hho : ∀ x,Us P.mem x->Ho P.mem x = -1:=by
  intro x hx;rcases h.o.ho x hx with q | ⟨k,hk,q⟩
  ·exact q
  ·exfalso;have hu : P.ts[k]? = some P.ts[k]:=List.getElem?_eq_getElem hk
   have:=((h.th k _ hu).hd x hx).1 q
   rw [hi _ (List.getElem_mem hk)] at this;exact nomatch this.1
 have hdead : ∀ x,C x->(P.mem.node x).dead = false:=by
  intro x hx;cases hd : (P.mem.node x).dead
  ·rfl
  ·exact (nob (fun t q=>q.1) (h.o.ki x hd hx)).elim
 have hC0 : ∀ y,(y = 0\/y ∈ l)->C y:=by
  rintro y (rfl | hy)
  ·exact h.n.a0.1
  ·exact (hlc y hy).1
 have hedge : ∀ q ∈ edges anchor3 (l.map (spot P.mem)),∃ y,C y/\q.1 = spot P.mem y/\((q.2 : Nat) : Int) = Ld P.mem y:=by
  intro q hq;have ha : anchor3 = spot P.mem 0:=by unfold spot anchor3; simp only [Ky]; rw [hX.k0.1,hX.k0.2]; rfl
  rw [ha] at hq;obtain ⟨y,y1,y2,y3⟩:=mem_edges_spot hus l 0 hl hlu q hq;exact ⟨y,hC0 y y1,y2,y3⟩
 have hnd : l.Nodup:=s1.imp (fun hab e=>by rw [e] at hab; omega);refine ⟨l,hm,hnd,⟨?_,?_,?_,?_,?_,?_,?_,?_,?_,hcalm,?_,?_⟩⟩
 ·obtain ⟨_,b2,b3,b4,b5,b6⟩:=h.n.a1;exact ⟨P.mem.node 1,hget 1 b2,b2,b4,b5,hho 1 b2,b3,b6⟩
 ·intro q hq;obtain ⟨y,y1,y2,y3⟩:=hedge q hq;obtain ⟨n1,n2,n3,_⟩:=h.n.mc y y1;refine ⟨P.mem.node y,by rw [y2]; exact hget y n1,n1,hdead y y1,n3,hho y n1,n2,by rw [y2]; rfl,by rw [y2]; rfl,y3.symm⟩
 ·intro q hq;obtain ⟨y,y1,y2,y3⟩:=hedge q hq;obtain ⟨s,d,e,he,he1,_⟩:=hX.en y (.inl y1);obtain ⟨m,q1,q2,q3⟩:=maxE (isSt y false) P.mem.es ⟨e,he,he1⟩;have hy0:=hus y (h.n.mc y y1).1;have q2':=q2;simp only [isSt,Bool.and_eq_true,beq_iff_eq] at q2';refine ⟨m,q1,q2'.1,?_,?_,?_⟩
  ·rw [y2,q2'.2.2.1];show y = ((y.toNat : Nat) : Int);omega
  ·rw [y3];rcases h.e.nw y m.stamp m.dst ⟨m,q1,q2,rfl,rfl⟩ with z | ⟨s',z1,z2⟩
   ·exact z
   ·exfalso;rcases z2 with ⟨d',e',he',h1',rfl,_⟩ | z2
    ·have:=q3 e' he' h1'; omega
    ·exact nob (fun t q=>q.1) z2
  ·intro e' he' hu hs;refine q3 e' he' ?_;rw [y2] at hs;have : e'.src = y:=by rw [hs]; show ((y.toNat : Nat) : Int) = y; omega
   simp [isSt,hu,hcalm e' he',this,h.wm.sd e' he']
 ·rw [List.pairwise_map];exact s1
 ·intro q hq;obtain ⟨y,hy,rfl⟩:=List.mem_map.1 hq;obtain ⟨y1,y2⟩:=hlc y hy;exact h.gd01 (.inl y1) y2
 ·have h2 : ∀ y ∈ l,2<=y:=by
   intro y hy;obtain ⟨y1,y2⟩:=hlc y hy
   have:=hus y (hlu y hy)
   have:=(h.gdLinks (.inl y1)).2
   omega
  refine List.nodup_cons.2 ⟨?_,List.nodup_cons.2 ⟨?_,?_⟩⟩
  ·intro hh;rcases List.mem_cons.1 hh with e | hh
   ·cases e
   ·simp only [List.map_map,List.mem_map] at hh;obtain ⟨y,hy,e⟩:=hh
    have:=h2 y hy
    have e' : y.toNat = 0:=e;omega
  ·intro hh;simp only [List.map_map,List.mem_map] at hh;obtain ⟨y,hy,e⟩:=hh
   have:=h2 y hy
   have e' : y.toNat = 1:=e;omega
  ·rw [List.map_map];refine List.Pairwise.map _ ?_ (List.Pairwise.and_mem.1 hnd);intro a b hab e;have e' : a.toNat = b.toNat:=e
   have:=h2 a hab.1
   have:=h2 b hab.2.1
   exact hab.2.2 (by omega)
 ·intro k nd hk hu;have hn:=hback k nd hk;rw [<- hn] at hu ⊢;rcases h.o.us k hu with q | q | q | q
  ·left;have : k = 1:=by omega
   subst this; simp
  ·left;by_cases h0 : (k : Int) = 0
   ·have : k = 0:=by omega
    subst this; simp
   ·simp only [List.map_map,List.mem_cons,List.mem_map];exact .inr (.inr ⟨k,(hm k).2 ⟨q,h0⟩,by show ((k : Int)).toNat = k; omega⟩)
  ·by_cases hc : C k
   ·have:=hdead k hc
    simp only [De] at q; rw [this] at q; cases q
   ·right;refine ⟨?_,q⟩;cases hr : (P.mem.node k).retired
    ·exact (nob (fun t q=>q.1) (h.o.ou k q hc hr)).elim
    ·rfl
  ·exact (nob (fun t q=>q.1) q).elim
 ·intro nd hm' hu;obtain ⟨k,hk⟩:=List.mem_iff_getElem?.1 hm';have hn:=hback k nd hk;rw [<- hn] at hu ⊢;rw [h.wm.un k hu]; rfl
 ·intro nd hm' hu;obtain ⟨k,hk⟩:=List.mem_iff_getElem?.1 hm';have hn:=hback k nd hk;rw [<- hn] at hu ⊢;exact hho k hu
 ·intro en he hu;obtain ⟨m1,m2,m3,m4,_⟩:=h.e.ms _ _ _ (hsd en he hu);have h0:=hus _ m1;refine ⟨h.wm.sd en he,m3,m4,en.src.toNat,P.mem.node en.src,by omega,?_,hget _ m1,m1⟩;intro e; exact m2 (by omega)
 ·intro a b x y ha hb ux uy e1 e2;exact hX.uq a b x y ha hb (by unfold stp; rw [ux,hcalm x (List.mem_of_getElem? ha)]; rfl) (by unfold stp; rw [uy,hcalm y (List.mem_of_getElem? hb)]; rfl) e1 e2
end
end
section
def SameOp (t t' : PThread) : Prop:=t'.work.kind = t.work.kind/\t'.work.key = t.work.key/\t'.work.value = t.work.value/\t'.work.spans = t.work.spans
section
variable {C C' : Int->Prop} {i j : Nat} {t : PThread} {P : PSt} {L : Nat} {D D' : PlD}
theorem step_work (hk : P.kind = 0) (ht : P.ts[i]? = some t) (hb : t.busy = true) : ∃ t',(P.step i t).1.ts = P.ts.set i t'/\((P.step i t).2 = 3->t'.busy = false)/\((P.step i t).2≠3->t'.busy = true/\SameOp t t'/\t'.hasEnded = t.hasEnded/\t'.last = t.last):=by
 have same : P.ts.set i t = P.ts:=by
  apply List.ext_getElem?;intro j;rw [List.getElem?_set];split
  ·next e=>subst e; split <;> simp_all
  ·rfl
 have fin : ∀ (Q : PSt) (k : PWork),Q.ts = P.ts->k.kind = t.work.kind->k.key = t.work.key->k.value = t.work.value->k.spans = t.work.spans->∀ n : Int,n≠3->∃ t',(Q.setW i k,n).1.ts = P.ts.set i t'/\((Q.setW i k,n).2 = 3->t'.busy = false)/\((Q.setW i k,n).2≠3->t'.busy = true/\SameOp t t'/\t'.hasEnded = t.hasEnded/\t'.last = t.last):=by
  intro Q k hQ h1 h2 h3 h4 n hn;refine ⟨{ t with work:=k },?_,fun e=>absurd e hn,fun _=>⟨hb,⟨h1,h2,h3,h4⟩,rfl,rfl⟩⟩;show (Q.setW i k).ts = _;rw [setW_to Q (t:=t) (by rw [hQ]; exact ht) k,hQ]
 have stay : ∀ n : Int,n≠3->∃ t',(P,n).1.ts = P.ts.set i t'/\((P,n).2 = 3->t'.busy = false)/\((P,n).2≠3->t'.busy = true/\SameOp t t'/\t'.hasEnded = t.hasEnded/\t'.last = t.last) :=
  fun n hn=>⟨t,same.symm,fun e=>absurd e hn,fun _=>⟨hb,⟨rfl,rfl,rfl,rfl⟩,rfl,rfl⟩⟩
 unfold PSt.step;split
 ·exact ⟨_,rfl,fun e=>absurd e (by show ¬ (1 : Int) = 3; decide),fun _=>⟨hb,⟨rfl,rfl,rfl,rfl⟩,rfl,rfl⟩⟩
 ·exact ⟨_,rfl,fun e=>absurd e (by show ¬ (1 : Int) = 3; decide),fun _=>⟨hb,⟨rfl,rfl,rfl,rfl⟩,rfl,rfl⟩⟩
 ·exact ⟨_,rfl,fun e=>absurd e (by show ¬ (1 : Int) = 3; decide),fun _=>⟨hb,⟨rfl,rfl,rfl,rfl⟩,rfl,rfl⟩⟩
 ·exact ⟨_,rfl,fun _=>rfl,fun e=>absurd rfl e⟩
 ·split
  ·unfold PSt.read;simp only;split
   ·exact stay 2 (by decide)
   ·split
    ·refine fin P _ rfl ?_ ?_ ?_ ?_ 1 (by decide) <;> (unfold PSt.lookUp; split <;> rfl)
    ·refine fin P _ rfl ?_ ?_ ?_ ?_ 1 (by decide) <;> (unfold PSt.scan; simp only; split <;> rfl)
  ·unfold PSt.update;split
   ·refine fin P _ rfl ?_ ?_ ?_ ?_ 1 (by decide) <;> (unfold PSt.walk; split <;> rfl)
   ·unfold PSt.lock;split
    ·split
     ·refine fin _ _ ?_ ?_ ?_ ?_ ?_ 1 (by decide) <;> rfl
     ·exact stay 2 (by decide)
    ·refine fin _ _ ?_ ?_ ?_ ?_ ?_ 1 (by decide) <;> rfl
   ·unfold PSt.check;split
    ·refine fin _ _ ?_ ?_ ?_ ?_ ?_ 1 (by decide) <;> rfl
    ·split
     ·refine fin _ _ ?_ ?_ ?_ ?_ ?_ 1 (by decide) <;> rfl
     ·refine fin _ _ ?_ ?_ ?_ ?_ ?_ 1 (by decide) <;> rfl
   ·unfold PSt.prepare;split
    ·refine fin _ _ ?_ ?_ ?_ ?_ ?_ 1 (by decide) <;> rfl
    ·have hpp : ∀ pp : PMem × PWork,pp.2.kind = t.work.kind/\pp.2.key = t.work.key/\pp.2.value = t.work.value/\pp.2.spans = t.work.spans->∃ t',(((P.setM pp.1).setW i { pp.2 with next:=8 },(1 : Int)) : PSt × Int).1.ts = P.ts.set i t'/\(((((P.setM pp.1).setW i { pp.2 with next:=8 },(1 : Int)) : PSt × Int)).2 = 3->t'.busy = false)/\(((((P.setM pp.1).setW i { pp.2 with next:=8 },(1 : Int)) : PSt × Int)).2≠3->t'.busy = true/\SameOp t t'/\t'.hasEnded = t.hasEnded/\t'.last = t.last):=by
      rintro pp ⟨h1,h2,h3,h4⟩;exact fin (P.setM pp.1) { pp.2 with next:=8 } rfl h1 h2 h3 h4 1 (by decide)
     refine hpp (if t.work.kind = 1 then P.prepareInsert t.work else P.prepareRemove t.work) ?_;split
     ·unfold PSt.prepareInsert;simp only [if_pos hk];refine ⟨?_,?_,?_,?_⟩ <;> first | rfl | trivial
     ·unfold PSt.prepareRemove;simp only [if_pos hk];refine ⟨?_,?_,?_,?_⟩ <;> first | rfl | trivial
   ·unfold PSt.take;split
    ·refine fin _ _ ?_ ?_ ?_ ?_ ?_ 1 (by decide) <;> rfl
    ·simp only;split
     ·refine fin _ _ ?_ ?_ ?_ ?_ ?_ 1 (by decide) <;> rfl
     ·refine fin _ _ ?_ ?_ ?_ ?_ ?_ 1 (by decide) <;> rfl
   ·refine fin _ _ ?_ ?_ ?_ ?_ ?_ 1 (by decide) <;> rfl
   ·refine fin _ _ ?_ ?_ ?_ ?_ ?_ 1 (by decide) <;> rfl
   ·refine fin _ _ ?_ ?_ ?_ ?_ ?_ 1 (by decide) <;> rfl
   ·refine fin _ _ ?_ ?_ ?_ ?_ ?_ 1 (by decide) <;> rfl
   ·exact stay 1 (by decide)
theorem ok_step (hk : D.P.kind = 0) (hok : D.ok) (ht : D.P.ts[i]? = some t) (hb : t.busy = true) (hs : Stepped D i t D') : D'.ok:=by
 obtain ⟨t',h1,h2,h3⟩:=step_work hk ht hb;show D'.bs = D'.P.ts.map (·.busy);rw [hs.P,h1,hs.bs,List.map_set];have hok' : D.bs = D.P.ts.map (·.busy):=hok;split
 ·next e=>rw [h2 e,hok']
 ·next e =>
  rw [(h3 e).1,hok'];apply List.ext_getElem?;intro j;rw [List.getElem?_set];split
  ·next e=>subst e; rw [List.getElem?_map,ht]; simp [hb]; exact (List.getElem?_eq_some_iff.1 ht).1
  ·rfl
def Pot (N : Nat) (D : PlD) (n : Nat) : Prop:=∃ C,Inv C D.P/\D.P.mem.ns.length = N + 2/\Phi (N + 2) C D.P<=n
theorem Pot.move {N n : Nat} (h : Pot N D n) (ht : D.P.ts[i]? = some t) (hb : t.busy = true) (hs : Stepped D i t D') (hm : (D.P.step i t).2≠2) : ∃ n',n' + 1<=n/\Pot N D' n':=by
 obtain ⟨C,h1,h2,h3⟩:=h;have hd:=h1.drops h2 ht hb hm;refine ⟨Phi (N + 2) (nextC C t) (D.P.step i t).1,by omega,nextC C t,?_,?_,?_⟩
 ·rw [hs.P]; exact h1.step ht hb
 ·rw [hs.P,step_len h1.kind]; exact h2
 ·rw [hs.P]; exact Nat.le_refl _
theorem Pot.wait {N n : Nat} (h : Pot N D n) (ht : D.P.ts[i]? = some t) (hb : t.busy = true) (hs : Stepped D i t D') (hm : (D.P.step i t).2 = 2) : Pot N D' n/\D'.P = D.P/\D'.bs = D.bs:=by
 obtain ⟨C,h1,h2,h3⟩:=h;have hw:=(h1.waits ht hb hm).1;have hP : D'.P = D.P:=by rw [hs.P,hw]
 refine ⟨⟨C,?_,?_,?_⟩,hP,?_⟩
 ·rw [hP]; exact h1
 ·rw [hP]; exact h2
 ·rw [hP]; exact h3
 ·rw [hs.bs,if_neg (by omega)]
structure Plays (f : Nat) (T N E L : Int) (J : PlD->Prop) : Prop where
 inv : ∀ {D},J D->∃ C,Inv C D.P
 len : ∀ {D},J D->D.P.mem.ns.length = N.toNat + 2
 ok : ∀ {D},J D->D.ok
 cfg : ∀ {D},J D->D.k = 0/\D.t = T/\D.n = N/\D.e = E/\D.l = L
 step : ∀ {D D' : PlD} {i : Nat} {t : PThread},J D->Fit D.N D.P->D.P.ts[i]? = some t->t.busy = true->f<=i->Stepped D i t D'->J D'
 begin : ∀ {D D' : PlD} {i : Nat} {t : PThread} {o : OpV},J D->D.P.ts[i]? = some t->f<=i->Begun D i t o D'->J D'
 sweep : ∀ {D : PlD} (L' : ZLay),J D->J { D with L:=L',P:=D.P.doSweep.1 }
 low : ∀ {D : PlD} {i : Nat} {t : PThread},J D->i < f->D.P.ts[i]? = some t->t.busy = true->t.work.kind = 3\/t.work.kind = 4
def Sz (b : Nat) (D : PlD) : Prop:=D.N<=b/\D.deeds.length<=b/\0<=D.puts/\D.puts<=b/\0<=D.takes/\D.takes<=b
theorem Sz.mono {b b' : Nat} (h : Sz b D) (hb : b<=b') : Sz b' D:=by unfold Sz at *; omega
theorem Sz.step {b : Nat} (h : Sz b D) (hs : Stepped D i t D') : Sz (b + 1) D':=by
 have hd : D'.deeds.length<=D.deeds.length + 1:=by
  by_cases e : (D.P.step i t).2 = 3
  ·obtain ⟨av,o,f,_,_,q⟩:=hs.deeds.2 e;rw [q]; simp
  ·rw [hs.deeds.1 e]; omega
 unfold Sz at *;rw [hs.N,hs.cnt.1,hs.cnt.2]; omega
theorem Sz.begin {b : Nat} {o : OpV} (h : Sz b D) (hs : Begun D i t o D') : Sz (b + 1) D':=by
 have hc : (D'.puts = D.puts\/D'.puts = D.puts + 1)/\(D'.takes = D.takes\/D'.takes = D.takes + 1):=by
  by_cases hh : t.busy = true\/properB o.kind o.key o.spans = false
  ·obtain ⟨_,_,_,_,q1,q2⟩:=hs.no hh; exact ⟨.inl q1,.inl q2⟩
  ·simp only [not_or,Bool.not_eq_true,Bool.not_eq_false] at hh;obtain ⟨_,_,_,_,q1,q2⟩:=hs.yes hh.1 hh.2;rw [q1,q2];exact ⟨by split <;> omega,by split <;> omega⟩
 unfold Sz at *;rw [hs.N,hs.deeds]; omega
end
end
section
open Go.RowKit
structure Turning (f N : Nat) (D : PlD) (k m s : Nat) (D1 : PlD) : Prop where
 pot : ∀ n,Pot N D n->∃ n',n' + m<=n/\Pot N D1 n'
 still : m = 0->D1.P = D.P/\∀ j u,f<=j->j < k->D.P.ts[j]? = some u->u.busy = true->(D.P.step j u).2 = 2
 none_ : s = 0->D1.P = D.P/\m = 0/\∀ j u,f<=j->j < k->D.P.ts[j]? = some u->u.busy = false
 some_ : s≠0->m = 0->∃ j u,f<=j/\D.P.ts[j]? = some u/\u.busy = true
 le : m<=k/\s<=k
section
variable {own : Own} {z : Nat} {w w' : World} {pb : Nat} {D D1 D2 : PlD} {i f k m s N b : Nat} {t : PThread} {J : PlD->Prop} {T Nn E L : Int}
theorem Turning.start : Turning f N D f 0 0 D:=⟨fun n h=>⟨n,by omega,h⟩,fun _=>⟨rfl,fun j u h1 h2=>by omega⟩,fun _=>⟨rfl,rfl,fun j u h1 h2=>by omega⟩,fun h=>absurd rfl h,by omega⟩
theorem Turning.skip (h : Turning f N D k m s D1) (hk : D1.P.ts[k]? = some t) (hb : t.busy = false) : Turning f N D (k + 1) m s D1:=by
 refine ⟨h.pot,?_,?_,h.some_,by have:=h.le; omega⟩
 ·intro hm;obtain ⟨h1,h2⟩:=h.still hm;refine ⟨h1,?_⟩;intro j u hj hjk hu hub;rcases (show j < k\/j = k by omega) with e | e
  ·exact h2 j u hj e hu hub
  ·subst e; rw [<- h1,hk] at hu; injection hu with hu; subst hu; rw [hb] at hub; cases hub
 ·intro hs;obtain ⟨h1,h2,h3⟩:=h.none_ hs;refine ⟨h1,h2,?_⟩;intro j u hj hjk hu;rcases (show j < k\/j = k by omega) with e | e
  ·exact h3 j u hj e hu
  ·subst e; rw [<- h1,hk] at hu; injection hu with hu; subst hu; exact hb
theorem Turning.wait (h : Turning f N D k m s D1) (hf : f<=k) (hp : ∃ C,Inv C D1.P) (hk : D1.P.ts[k]? = some t) (hb : t.busy = true) (hs : Stepped D1 k t D2) (h2 : (D1.P.step k t).2 = 2) : Turning f N D (k + 1) m (s + 1) D2:=by
 obtain ⟨C,hC⟩:=hp;have hP2 : D2.P = D1.P:=by rw [hs.P,(hC.waits hk hb h2).1]
 refine ⟨?_,?_,fun e=>by omega,?_,by have:=h.le; omega⟩
 ·intro n hn;obtain ⟨n',q1,q2⟩:=h.pot n hn;exact ⟨n',q1,(q2.wait hk hb hs h2).1⟩
 ·intro hm;obtain ⟨g1,g2⟩:=h.still hm;refine ⟨hP2.trans g1,?_⟩;intro j u hj hjk hu hub;rcases (show j < k\/j = k by omega) with e | e
  ·exact g2 j u hj e hu hub
  ·subst e; rw [<- g1,hk] at hu; injection hu with hu; subst hu; rw [<- g1]; exact h2
 ·intro _ hm;obtain ⟨g1,_⟩:=h.still hm;exact ⟨k,t,hf,by rw [<- g1]; exact hk,hb⟩
theorem Turning.move (h : Turning f N D k m s D1) (hk : D1.P.ts[k]? = some t) (hb : t.busy = true) (hs : Stepped D1 k t D2) (h2 : (D1.P.step k t).2≠2) : Turning f N D (k + 1) (m + 1) (s + 1) D2:=by
 refine ⟨?_,fun e=>by omega,fun e=>by omega,fun _ e=>by omega,by have:=h.le; omega⟩;intro n hn;obtain ⟨n',q1,q2⟩:=h.pot n hn;obtain ⟨n'',q3,q4⟩:=q2.move hk hb hs h2;exact ⟨n'',by omega,q4⟩
theorem Turning.done (hJ : Plays f T Nn E L J) (hj : J D) (h : Turning f N D D.P.ts.length m s D1) (hm : m = 0) : s = 0:=by
 by_cases hs : s = 0
 ·exact hs
 ·exfalso;obtain ⟨j,u,h1,h2,h3⟩:=h.some_ hs hm;obtain ⟨C,hC⟩:=hJ.inv hj;obtain ⟨j',u',g1,g2,g3,g4⟩:=hC.live h2 h3;have hf : f<=j':=by
   rcases Nat.lt_or_ge j' f with hlt | hge
   ·have hl:=hJ.low hj hlt g1 g2;rcases g4 with e | e
    ·omega
    ·omega
   ·exact hge
  exact g3 ((h.still hm).2 j' u' hf (List.getElem?_eq_some_iff.1 g1).1 g1 g2)
theorem Psteps_busy (h : PlAt own z w pb D) (hb : D.bs[i]? = some true) (ht : D.P.ts[i]? = some t) (htb : t.busy = true) (hN : D.N < 2 ^ 39) (hdl : D.deeds.length<=2 ^ 38) :
  Calls Tryz.prog 56 #[pv pb,.int .i64 i] w fun r w'=>r = .returned (.tuple #[.int .i64 (D.P.step i t).2,.bool true])/\PlGoes own z w pb w' (Stepped D i t):=by
 by_cases h3 : (D.P.step i t).2 = 3
 ·rw [h3]; exact Psteps_end h hb ht htb hN hdl h3
 ·exact Psteps_on h hb ht htb hN h3
theorem Pturn_calls (hJ : Plays f T Nn E L J) (h : PlAt own z w pb D) (hj : J D) (hS : Sz b D) (hb : b<=2 ^ 37) (hf : (f : Int) < T) :
  Calls Tryz.prog 80 #[pv pb,.int .i64 f] w fun r w'=>∃ m s : Nat,r = .returned (.tuple #[.int .i64 m,.int .i64 s,.bool true])/\m<=8/\PlGoes own z w pb w' (fun D1=>J D1/\Sz (b + 8) D1/\Turning f Nn.toNat D D.P.ts.length m s D1):=by
 have hT8:=h.fit.thr;have hTt : D.t = D.P.ts.length:=h.thr;obtain ⟨q,hq⟩ : ∃ q : Nat,Hid (q = D.P.ts.length):=⟨_,rfl⟩;have hTq : Hid (T = q):=by show T = q; rw [<- (hJ.cfg hj).2.1,hTt,hq.out]
 have hq8 : q<=8:=by have:=hq.out; omega
 have hfq : f < q:=by have:=hTq.out; omega
 have H:=(mkH (PlAt own z w pb D/\J D/\Sz b D) <|⟨h,hj,hS⟩);have HJ:=(mkH (Plays f T Nn E L J) <|hJ);have HL:=(mkH (∀ (own1 : Own) (w1 : World) (D1 : PlD),PlAt own1 z w1 pb D1->J D1->D1.P.ts.length = q/\D1.t = q) <|by
  intro own1 w1 D1 h1 j1;have h2:=h1.thr;have h3:=(hJ.cfg j1).2.1;have h4:=hTq.out;have : (D1.P.ts.length : Int) = q:=by rw [<- h2,h3,h4]
  exact ⟨by omega,by rw [h3,h4]⟩)
 have HQ:=(mkH (∀ (w' : World) (m s : Nat),PlGoes own z w pb w' (fun D1=>J D1/\Sz (b + 8) D1/\Turning f Nn.toNat D q m s D1)->PlGoes own z w pb w' (fun D1=>J D1/\Sz (b + 8) D1/\Turning f Nn.toNat D D.P.ts.length m s D1)) <|by
  intro w' m s hh; rw [hq.out] at hh; exact hh)
 clear h hj hS hT8 hTt hJ hq hTq hf;unfold pv
 go_enter Tryz.func80,Tryz.ntmps80
 go_wp2
 go_loopw [7,8,9] (fun v1 v2 v3 wr=>∃ k m s : Nat,f<=k/\k<=q/\m<=8/\s<=8/\v1 = .int .i64 m/\v2 = .int .i64 s/\v3 = .int .i64 k/\Hid (PlGoes own z w pb wr (fun D1=>J D1/\Sz (b + k) D1/\Turning f Nn.toNat D k m s D1))) (fun _ _ v3 _=>q - (intOf v3).toNat)
 case atStart=>exact ⟨f,0,0,Nat.le_refl _,by omega,by omega,by omega,rfl,rfl,rfl,own,D,H.out.1,Ext.refl _ _,Fr.refl _ _,H.out.2.1,H.out.2.2.mono (by omega),Turning.start⟩
 case round =>
  clear H;obtain ⟨k,m,s,hfk,hkq,hm8,hs8,rfl,rfl,rfl,HG⟩:=hrel;obtain ⟨own1,D1,hP,hE,hF,hj1,hS1,hTu⟩:=HG.out;obtain ⟨l1,l2⟩:=HL.out own1 wr D1 hP hj1;have HP:=(mkH (PlAt own1 z wr pb D1/\J D1/\Sz (b + k) D1/\Turning f Nn.toNat D k m s D1) <|⟨hP,hj1,hS1,hTu⟩);have HX:=(mkH (Ext own own1 w/\FrP own z w wr) <|⟨hE,hF⟩);have hok : D1.ok:=HJ.out.ok hj1;by_cases hlt : k < q
  ·have hkl : k < D1.P.ts.length:=by omega
   have ht1 : D1.P.ts[k]? = some D1.P.ts[k]:=List.getElem?_eq_getElem hkl;generalize D1.P.ts[k] = t1 at ht1;have hbs : D1.bs[k]? = some t1.busy:=by
    have hok' : D1.bs = D1.P.ts.map (·.busy):=hok;rw [hok',List.getElem?_map,ht1]; rfl
   obtain ⟨g,gc,hv,hc,hz,hg,hgl⟩:=hP.busyRow hbs;have ha:=hP.at_.cell;rw [l1] at hv;simp only [PlD.cells,hv,l2,pv] at ha;have HT:=(mkH (D1.P.ts[k]? = some t1/\D1.bs[k]? = some t1.busy) <|⟨ht1,hbs⟩);have hle:=hTu.le;clear hP hE hF hj1 hS1 hTu HG hok ht1 hbs hv hg;cases hbz : t1.busy
   ·rw [hbz] at hc;have HG2:=(mkH (PlGoes own z w pb wr (fun D1=>J D1/\Sz (b + (k + 1)) D1/\Turning f Nn.toNat D (k + 1) m s D1)) <|⟨own1,D1,HP.out.1,HX.out.1,HX.out.2,HP.out.2.1,HP.out.2.2.1.mono (by omega),HP.out.2.2.2.skip HT.out.1 hbz⟩);clear HT hbz;go_wp2
    go_roundw
    case rel=>exact ⟨k + 1,m,s,by omega,by omega,hm8,hs8,rfl,rfl,by go_num,HG2⟩
    case measure=>simp [intOf]; omega
   ·rw [hbz] at hc;have HT2:=(mkH (t1.busy = true/\D1.bs[k]? = some true) <|⟨hbz,by rw [<- hbz]; exact HT.out.2⟩);clear hbz;have HN:=(mkH (D1.N < 2 ^ 39/\D1.deeds.length<=2 ^ 38) <|by have:=HP.out.2.2.1; unfold Sz at this; exact ⟨by omega,by omega⟩);go_wp2_with fail;refine (Psteps_busy HP.out.1 HT2.out.2 HT.out.1 HT2.out.1 HN.out.1 HN.out.2).mono ?_;rintro r w2 ⟨rfl,own2,D2,hP2,hE2,hF2,hS2⟩;have HS2:=(mkH (PlGoes own z w pb w2 (fun D2=>J D2/\Sz (b + (k + 1)) D2/\Stepped D1 k t1 D2)) <|PlGoes.trans HX.out.1 HX.out.2 ⟨own2,D2,hP2,hE2,hF2,HJ.out.step HP.out.2.1 HP.out.1.fit HT.out.1 HT2.out.1 hfk hS2,HP.out.2.2.1.step hS2,hS2⟩);have hrg:=(HP.out.1.fit.turn HT.out.1 HT2.out.1).how;clear hP2 hE2 hF2 hS2 ha hc hz;by_cases h2 : (D1.P.step k t1).2 = 2
    ·have HG2:=(mkH (PlGoes own z w pb w2 (fun D2=>J D2/\Sz (b + (k + 1)) D2/\Turning f Nn.toNat D (k + 1) m (s + 1) D2)) <|by
      obtain ⟨o,d,y1,y2,y3,y4,y5,y6⟩:=HS2.out;exact ⟨o,d,y1,y2,y3,y4,y5,HP.out.2.2.2.wait hfk (HJ.out.inv HP.out.2.1) HT.out.1 HT2.out.1 y6 h2⟩)
     rw [h2];clear h2 HS2 hrg;go_wp2
     go_roundw
     case rel=>exact ⟨k + 1,m,s + 1,by omega,by omega,hm8,by omega,rfl,by go_num,by go_num,HG2⟩
     case measure=>simp [intOf]; omega
    ·have HG2:=(mkH (PlGoes own z w pb w2 (fun D2=>J D2/\Sz (b + (k + 1)) D2/\Turning f Nn.toNat D (k + 1) (m + 1) (s + 1) D2)) <|by
      obtain ⟨o,d,y1,y2,y3,y4,y5,y6⟩:=HS2.out;exact ⟨o,d,y1,y2,y3,y4,y5,HP.out.2.2.2.move HT.out.1 HT2.out.1 y6 h2⟩)
     generalize (D1.P.step k t1).2 = hw at h2 hrg ⊢;have h2' : (hw == 2) = false:=by simpa using h2
     clear HS2 h2;go_wp2
     go_roundw
     case rel=>exact ⟨k + 1,m + 1,s + 1,by omega,by omega,by omega,by omega,by go_num,by go_num,by go_num,HG2⟩
     case measure=>simp [intOf]; omega
  ·have hkq' : Hid (k = q):=by show k = q; omega
   have ha:=hP.at_.cell;simp only [PlD.cells,l2,pv] at ha;have HF:=(mkH (PlGoes own z w pb wr (fun D1=>J D1/\Sz (b + 8) D1/\Turning f Nn.toNat D q m s D1)) <|⟨own1,D1,hP,hE,hF,hj1,hS1.mono (by omega),by rw [<- hkq'.out]; exact hTu⟩);clear hP hE hF hj1 hS1 hTu HG hok HP HX;go_wp2;go_ret3;exact ⟨m,s,rfl,hm8,HQ.out _ _ _ HF.out⟩
end
end
section
open Go.RowKit
section
variable {own : Own} {z : Nat} {w w' : World} {pb : Nat} {D D1 D2 : PlD} {i f k m s N b : Nat} {t : PThread} {J : PlD->Prop} {T Nn E L : Int}
theorem Plays.pot (hJ : Plays f T Nn E L J) (hj : J D) (hT : (D.P.ts.length : Int) = T) (hN : 0<=Nn) : Pot Nn.toNat D (T * (T + 2) * (Nn + 16)).toNat:=by
 obtain ⟨C,hC⟩:=hJ.inv hj;refine ⟨C,hC,hJ.len hj,?_⟩
 have:=hC.bound Nn.toNat
 have e : (T * (T + 2) * (Nn + 16)).toNat = D.P.ts.length * ((D.P.ts.length + 2) * (Nn.toNat + 16)):=by
  rw [<- hT];have : ((D.P.ts.length : Int) * (D.P.ts.length + 2) * (Nn + 16)) = ((D.P.ts.length * ((D.P.ts.length + 2) * (Nn.toNat + 16)) : Nat) : Int):=by
   rw [<- Nat.mul_assoc];simp only [Int.natCast_mul,Int.natCast_add];rw [Int.toNat_of_nonneg hN]; rfl
  rw [this]; rfl
 rw [e]; exact this
def Still (f : Nat) (D : PlD) : Prop:=∀ j u,f<=j->D.P.ts[j]? = some u->u.busy = false
theorem most_le {T Nn : Int} (hT : 1<=T/\T<=8) (hN : 0<=Nn/\Nn<=64) : (0<=T * (T + 2)/\T * (T + 2)<=80)/\0<=T * (T + 2) * (Nn + 16)/\T * (T + 2) * (Nn + 16)<=6400:=by
 have h1 : T * (T + 2)<=8 * 10:=Int.mul_le_mul hT.2 (by omega) (by omega) (by omega);have h2 : 0<=T * (T + 2):=Int.mul_nonneg (by omega) (by omega);have h3 : T * (T + 2) * (Nn + 16)<=80 * 80:=Int.mul_le_mul (by omega) (by omega) (by omega) (by omega);have h4 : 0<=T * (T + 2) * (Nn + 16):=Int.mul_nonneg h2 (by omega);omega
theorem Pfinish_calls (hJ : Plays f T Nn E L J) (h : PlAt own z w pb D) (hj : J D) (hS : Sz b D) (hb : b<=2 ^ 36) (hf : (f : Int) < T) (hNn : 0<=Nn/\Nn<=64) :
  Calls Tryz.prog 48 #[pv pb,.int .i64 f] w fun r w'=>r = .returned (.bool true)/\PlGoes own z w pb w' (fun D1=>J D1/\Sz (b + 60000) D1/\Still f D1):=by
 have hT8:=h.fit.thr;have hTt : D.t = D.P.ts.length:=h.thr;have hT1 : (1 : Int)<=T/\T<=8:=by have:=(hJ.cfg hj).2.1; omega
 obtain ⟨⟨m1,m2⟩,m3,m4⟩:=most_le hT1 hNn;obtain ⟨n1,n2⟩:=hNn;obtain ⟨t1,t2⟩:=hT1;have hpot:=hJ.pot hj (by rw [<- hTt]; exact (hJ.cfg hj).2.1) n1;have H:=(mkH (PlAt own z w pb D/\J D/\Sz b D) <|⟨h,hj,hS⟩);have HJ:=(mkH (Plays f T Nn E L J) <|hJ);have HF:=(mkH ((f : Int) < T) <|hf);have ha:=h.at_.cell;simp only [PlD.cells,(hJ.cfg hj).2.1,(hJ.cfg hj).2.2.1,pv] at ha;obtain ⟨M,hM⟩ : ∃ M : Nat,Hid (T * (T + 2) * (Nn + 16) = M):=⟨(T * (T + 2) * (Nn + 16)).toNat,by show _ = _; omega⟩;have hM6 : M<=6400:=by have:=hM.out; omega
 have HPot:=(mkH (Pot Nn.toNat D M) <|by
  show Pot Nn.toNat D M;rw [hM.out] at hpot; simpa using hpot)
 clear h hj hS hT8 hTt hJ hf hpot;unfold pv
 go_enter Tryz.func48,Tryz.ntmps48
 go_wp2;go_region;rw [hM.out];have HD:=(mkH (PlAt own z w.drew pb D) <|H.out.1.calm ((Fr.refl _ _).drew));have HW:=(mkH (FrP own z w w.drew) <|(Fr.refl _ _).drew);clear ha;generalize w.drew = w0 at HD HW ⊢;go_wp2
 go_loopw [6] (fun v wr=>∃ j : Nat,j<=M/\v = .int .i64 j/\Hid (PlGoes own z w pb wr (fun D1=>J D1/\Sz (b + 8 * j) D1/\∃ n,n + j<=M/\Pot Nn.toNat D1 n))) (fun v _=>M + 1 - (intOf v).toNat)
 case atStart=>exact ⟨0,by omega,rfl,own,D,HD.out,Ext.refl _ _,HW.out,H.out.2.1,H.out.2.2,M,by omega,HPot.out⟩
 case round =>
  clear H HD HW HPot;obtain ⟨j,hjM,rfl,HG⟩:=hrel;obtain ⟨own1,D1,hP,hE,hF,hj1,hS1,n,hn,hpt⟩:=HG.out;have HP:=(mkH (PlAt own1 z wr pb D1/\J D1/\Sz (b + 8 * j) D1/\n + j<=M/\Pot Nn.toNat D1 n) <|⟨hP,hj1,hS1,hn,hpt⟩);have HX:=(mkH (Ext own own1 w/\FrP own z w wr) <|⟨hE,hF⟩);clear hP hE hF hj1 hS1 hn hpt HG;have HB:=(mkH (b + 8 * j<=2 ^ 37) <|by show b + 8 * j<=2 ^ 37; omega);go_wp2_with fail;refine (Pturn_calls HJ.out HP.out.1 HP.out.2.1 HP.out.2.2.1 HB.out HF.out).mono ?_;rintro r w2 ⟨mm,ss,rfl,hm8,own2,D2,hP2,hE2,hF2,hj2,hS2,hTu⟩;have HG2:=(mkH (PlGoes own z w pb w2 (fun D2=>J D2/\Sz (b + 8 * (j + 1)) D2/\Turning f Nn.toNat D1 D1.P.ts.length mm ss D2)) <|PlGoes.trans HX.out.1 HX.out.2 ⟨own2,D2,hP2,hE2,hF2,hj2,hS2.mono (by omega),hTu⟩);clear hP2 hE2 hF2 hj2 hS2 hTu hm8;by_cases hs : ss = 0
  ·have HR:=(mkH (PlGoes own z w pb w2 (fun D1=>J D1/\Sz (b + 60000) D1/\Still f D1)) <|by
    obtain ⟨o,d,y1,y2,y3,y4,y5,y6⟩:=HG2.out;obtain ⟨z1,z2,z3⟩:=y6.none_ hs;refine ⟨o,d,y1,y2,y3,y4,y5.mono (by omega),?_⟩;intro q u hq hu;rw [z1] at hu;exact z3 q u hq (List.getElem?_eq_some_iff.1 hu).1 hu)
   subst hs;clear HG2;go_wp2;go_ret;exact ⟨rfl,HR.out⟩
  ·have hm : mm≠0:=by
    intro e;obtain ⟨o,d,y1,y2,y3,y4,y5,y6⟩:=HG2.out;exact hs (y6.done HJ.out HP.out.2.1 e)
   have HG3:=(mkH (j + 1<=M/\PlGoes own z w pb w2 (fun D2=>J D2/\Sz (b + 8 * (j + 1)) D2/\∃ n,n + (j + 1)<=M/\Pot Nn.toNat D2 n)) <|by
    obtain ⟨o,d,y1,y2,y3,y4,y5,y6⟩:=HG2.out;obtain ⟨n',q1,q2⟩:=y6.pot n HP.out.2.2.2.2
    have:=HP.out.2.2.2.1
    exact ⟨by omega,o,d,y1,y2,y3,y4,y5,n',by omega,q2⟩)
   have hs' : ((ss : Int) == 0) = false:=by simp; exact hs
   have hm' : ((mm : Int) == 0) = false:=by simp; exact hm
   have hj1:=HG3.out.1;have HG4:=(mkH (PlGoes own z w pb w2 (fun D2=>J D2/\Sz (b + 8 * (j + 1)) D2/\∃ n,n + (j + 1)<=M/\Pot Nn.toNat D2 n)) <|HG3.out.2);clear HG2 HG3 hs hm;go_wp2
   go_roundw
   case rel=>exact ⟨j + 1,hj1,by go_num,HG4⟩
   case measure=>simp [intOf]; omega
end
end
section
open Go.RowKit
section
variable {own : Own} {z : Nat} {w w' : World} {pb : Nat} {D D1 D2 : PlD} {i f k m s N b : Nat} {t : PThread} {J : PlD->Prop} {T Nn E L : Int}
theorem Plays.busy (hJ : Plays f T Nn E L J) (hj : J D) (hi : i < D.P.ts.length) : ∃ t,D.P.ts[i]? = some t/\D.bs[i]? = some t.busy:=by
 have ht : D.P.ts[i]? = some D.P.ts[i]:=List.getElem?_eq_getElem hi;refine ⟨D.P.ts[i],ht,?_⟩;have hok : D.bs = D.P.ts.map (·.busy):=hJ.ok hj;rw [hok,List.getElem?_map,ht]; rfl
theorem Psteps_any (hJ : Plays f T Nn E L J) (h : PlAt own z w pb D) (hj : J D) (hS : Sz b D) (hb : b<=2 ^ 37) (hi : i < D.P.ts.length) (hf : f<=i) :
  ∃ how : Int,0<=how/\how<=3/\Calls Tryz.prog 56 #[pv pb,.int .i64 i] w fun r w'=>r = .returned (.tuple #[.int .i64 how,.bool true])/\PlGoes own z w pb w' (fun D1=>J D1/\Sz (b + 1) D1):=by
 obtain ⟨t,ht,hbs⟩:=hJ.busy hj hi;cases hbz : t.busy
 ·rw [hbz] at hbs;refine ⟨0,by omega,by omega,(Psteps_idle h hbs ht hbz).mono ?_⟩;rintro r w1 ⟨rfl,rfl⟩;exact ⟨rfl,own,D,h,Ext.refl _ _,Fr.refl _ _,hj,hS.mono (by omega)⟩
 ·rw [hbz] at hbs;have hrg:=(h.fit.turn ht hbz).how;refine ⟨(D.P.step i t).2,by omega,by omega,(Psteps_busy h hbs ht hbz (by unfold Sz at hS; omega) (by unfold Sz at hS; omega)).mono ?_⟩;rintro r w1 ⟨rfl,own1,D1,hP,hE,hF,hs⟩;exact ⟨rfl,own1,D1,hP,hE,hF,hJ.step hj h.fit ht hbz hf hs,hS.step hs⟩
theorem Psweep_any (hJ : Plays f T Nn E L J) (h : PlAt own z w pb D) (hj : J D) (hS : Sz b D) :
  ∃ how : Int,1<=how/\how<=3/\Calls Tryz.prog 73 #[pv D.L.s] w fun r w'=>r = .returned (.int .i64 how)/\PlGoes own z w pb w' (fun D1=>J D1/\Sz b D1):=by
 have hrg : 1<=D.P.doSweep.2/\D.P.doSweep.2<=3:=by
  unfold PSt.doSweep;simp only;split
  ·simp
  ·split
   ·split <;> simp
   ·split <;> simp
 refine ⟨D.P.doSweep.2,hrg.1,hrg.2,(ZSweep_fit h.st h.fit).mono ?_⟩;rintro r w2 ⟨rfl,hG⟩;have hf:=(h.fit.sweep h.st.mem.nsmall).1;obtain ⟨own2,L2,hP2,hE2,hF2,e2⟩:=h.store hG hf (by rw [sweep_ts]);exact ⟨rfl,own2,_,hP2,hE2,hF2,hJ.sweep L2 hj,hS⟩
theorem Pruns_calls (hJ : Plays f T Nn E L J) (h : PlAt own z w pb D) (hj : J D) (hS : Sz b D) (hb : b<=2 ^ 36) (hi : (i : Int) < T) (hf : f<=i) (n : Nat) (hn : n<=40) :
  Calls Tryz.prog 86 #[pv pb,.int .i64 i,.int .i64 n] w fun r w'=>r = .returned (.bool true)/\PlGoes own z w pb w' (fun D1=>J D1/\Sz (b + 40) D1):=by
 have H:=(mkH (PlAt own z w pb D/\J D/\Sz b D) <|⟨h,hj,hS⟩);have HJ:=(mkH (Plays f T Nn E L J) <|hJ);have hT8 : T<=8:=by have:=(hJ.cfg hj).2.1; have:=h.thr; have:=h.fit.thr; omega
 have HI:=(mkH (∀ (own1 : Own) (w1 : World) (D1 : PlD),PlAt own1 z w1 pb D1->J D1->i < D1.P.ts.length) <|by
  intro own1 w1 D1 h1 j1;have h2:=h1.thr;have h3:=(hJ.cfg j1).2.1;omega)
 clear h hj hS hJ;unfold pv
 go_enter Tryz.func86,Tryz.ntmps86
 go_wp2
 go_loopw [7] (fun v wr=>∃ k : Nat,k<=n/\v = .int .i64 k/\Hid (PlGoes own z w pb wr (fun D1=>J D1/\Sz (b + k) D1))) (fun v _=>n - (intOf v).toNat)
 case atStart=>exact ⟨0,by omega,rfl,own,D,H.out.1,Ext.refl _ _,Fr.refl _ _,H.out.2.1,H.out.2.2⟩
 case round =>
  clear H;obtain ⟨k,hkn,rfl,HG⟩:=hrel;obtain ⟨own1,D1,hP,hE,hF,hj1,hS1⟩:=HG.out;have HP:=(mkH (PlAt own1 z wr pb D1/\J D1/\Sz (b + k) D1) <|⟨hP,hj1,hS1⟩);have HX:=(mkH (Ext own own1 w/\FrP own z w wr) <|⟨hE,hF⟩);have hil:=HI.out own1 wr D1 hP hj1;obtain ⟨t1,ht1,hbs⟩:=HJ.out.busy hj1 hil;obtain ⟨g,gc,hv,hc,hz,hg,hgl⟩:=hP.busyRow hbs;have ha:=hP.at_.cell;simp only [PlD.cells,hv,pv] at ha;have HE:=(mkH (PlGoes own z w pb wr (fun D1=>J D1/\Sz (b + 40) D1)) <|⟨own1,D1,hP,hE,hF,hj1,hS1.mono (by omega)⟩);have HB:=(mkH (i < D1.P.ts.length) <|hil);clear hP hE hF hj1 hS1 HG ht1 hbs hv hg;by_cases hlt : k < n
  ·cases hbz : t1.busy
   ·rw [hbz] at hc;clear hbz;go_wp2;go_ret;exact ⟨rfl,HE.out⟩
   ·rw [hbz] at hc;clear hbz;obtain ⟨how,h0,h3,hcall⟩:=Psteps_any HJ.out HP.out.1 HP.out.2.1 HP.out.2.2 (by omega) HB.out hf;have HC:=(mkH (Calls _ _ _ _ _) <|hcall);clear hcall;unfold pv at HC;go_wp2_with fail;refine Calls.mono HC.out ?_;rintro r w2 ⟨rfl,own2,D2,hP2,hE2,hF2,hj2,hS2⟩;have HG2:=(mkH (PlGoes own z w pb w2 (fun D2=>J D2/\Sz (b + (k + 1)) D2)) <|PlGoes.trans HX.out.1 HX.out.2 ⟨own2,D2,hP2,hE2,hF2,hj2,hS2⟩);have HE2:=(mkH (PlGoes own z w pb w2 (fun D2=>J D2/\Sz (b + 40) D2)) <|PlGoes.trans HX.out.1 HX.out.2 ⟨own2,D2,hP2,hE2,hF2,hj2,hS2.mono (by omega)⟩);clear hP2 hE2 hF2 hj2 hS2 ha hc hz HC HE;by_cases h2 : how = 2
    ·subst h2;go_wp2;go_ret;exact ⟨rfl,HE2.out⟩
    ·have h2' : (how == 2) = false:=by simpa using h2
     clear h2;go_wp2
     go_roundw
     case rel=>exact ⟨k + 1,by omega,by go_num,HG2⟩
     case measure=>simp [intOf]; omega
  ·go_wp2;go_ret;exact ⟨rfl,HE.out⟩
end
end
section
open Go.RowKit
section
variable {w w1 : World} {i : Nat}
theorem ActIn.keep {sa : Option Addr} {a : ActD} (h : ActIn w sa i a) (hf : Fr (fun _=>False) w w1) : ActIn w1 sa i a:=by
 obtain ⟨b,off,e,h1,h2,h3⟩:=h;exact ⟨b,off,e,fun j v hj=>hf.keepCell (h1 j v hj),h2.keep hf,h3⟩
theorem OwnSpans.keep {w0 : World} {v : Value} {sp : List (Int × Int)} (h : OwnSpans w0 w v sp) (hf : Fr (fun _=>False) w w1) : OwnSpans w0 w1 v sp:=⟨hf.owns h.row (fun _ _ h=>h),h.new,h.fr.trans hf⟩
end
end
end Go.Proofs.YtfccelbmacjifaaGreat
