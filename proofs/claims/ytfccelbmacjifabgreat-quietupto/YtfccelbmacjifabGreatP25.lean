import Derived.Test.YtfccelbmacjifabGreatP0
import Derived.Test.YtfccelbmacjifabGreatP24
import Derived.Test.YtfccelbmacjifabGreatP23
set_option linter.unusedSimpArgs false
set_option maxRecDepth 100000
set_option maxHeartbeats 4000000
namespace Go.Proofs.YtfccelbmacjifabGreat
section
section
variable {C : Int->Prop} {Rt : Int->List (Int × Int)} {Vt : Int->Int->Prop} {i j : Nat} {t t' : PThread} {P : PSt} {x s d : Int}
structure To (P : PSt) (i : Nat) (t t' : PThread) : Prop where
 ts : (P.step i t).1.ts = P.ts.set i t'
 kd : t'.busy = true->t'.work.kind = t.work.kind
 n9 : t.work.next = 9->t' = { t with work:={ t.work with next:=10 } }
 n10 : t.work.next = 10->t' = { t with work:={ t.work with next:=11 } }
 n8 : t.work.next = 8->if P.limit<=P.clock then t' = { t with work:=t.work.settle { err:=8 } } else if t.work.kind = 2 then t' = { t with work:={ t.work with ans:={ did:=true,stamp:=P.clock + 1,value:=(P.mem.node t.work.ahead).value },next:=9 } } else t' = { t with work:={ t.work with ans:={ did:=true,stamp:=P.clock + 1 },next:=10 } }
 nx : t.work.next≠8->t.work.next≠9->t'.busy = true->t'.work.next≠9/\t'.work.next≠10
 n7 : t'.busy = true->t'.work.next = 8->(t.work.kind = 1\/t.work.kind = 2)->(t' = t\/t.work.next = 7)
 rd : Rdr t'->(t.work.next = 2/\t'.work.time = P.clock)\/(Rdr t/\t'.work.time = t.work.time)
 ck : (P.step i t).1.clock = if t.work.next = 8/\¬ P.limit<=P.clock/\(t.work.kind = 1\/t.work.kind = 2) then P.clock + 1 else P.clock
theorem Inv.goTo (h : Inv C P) (ht : P.ts[i]? = some t) (hb : t.busy = true) : ∃ t',To P i t t':=by
 have hT:=h.th i t ht;have hnx:=hT.nx hb;have hkd:=hT.kd hb;have hrd:=hT.rd hb;have same : P.ts.set i t = P.ts:=by
  apply List.ext_getElem?;intro j;rw [List.getElem?_set];split
  ·next e=>subst e; split <;> simp_all
  ·rfl
 have stay : ∀ n : Int,t.work.next = 4\/t.work.next = 5->(P.step i t) = (P,n)->∃ t',To P i t t':=by
  intro n hn hs;refine ⟨t,by rw [hs]; exact same.symm,fun _=>rfl,fun e=>by omega,fun e=>by omega,fun e=>by omega,fun _ _ _=>by omega,fun _ e=>by omega,fun q=>.inr ⟨q,rfl⟩,?_⟩;rw [hs,if_neg (fun q=>by omega)]
 -- a work that is set
 have fin : ∀ {Q : PSt} {k : PWork} {n : Int},(P.step i t) = (Q.setW i k,n)->Q.ts = P.ts->k.kind = t.work.kind->Q.clock = P.clock->4<=t.work.next->t.work.next≠8->t.work.next≠9->t.work.next≠10->k.next≠9->k.next≠10->(k.next = 8->t.work.next = 7)->(Rdr { t with work:=k }->Rdr t/\k.time = t.work.time)->∃ t',To P i t t':=by
  intro Q k n hs hQ h1 h2 h3 h4 h5 h6 h7 h8 h9 h10;refine ⟨{ t with work:=k },?_,fun _=>h1,fun e=>absurd e h5,fun e=>absurd e h6,fun e=>absurd e h4,fun _ _ _=>⟨h7,h8⟩,fun _ e _=>.inr (h9 e),fun q=>.inr (h10 q),?_⟩
  ·rw [hs];show (Q.setW i k).ts = _;rw [setW_to Q (t:=t) (by rw [hQ]; exact ht) k,hQ]
  ·rw [hs,if_neg (fun q=>h4 q.1)];exact h2
 rcases (show t.work.next = 1\/t.work.next = 2\/t.work.next = 3\/t.work.next = 13\/(4<=t.work.next/\t.work.next<=12) by omega) with hn | hn | hn | hn | hn
 ·have hs : P.step i t = (P.setT i { t with slot:=1,work:={ t.work with next:=2 } },1):=by unfold PSt.step; simp only [hn]
  refine ⟨{ t with slot:=1,work:={ t.work with next:=2 } },by rw [hs]; rfl,fun _=>rfl,fun e=>by omega,fun e=>by omega,fun e=>by omega,fun _ _ _=>⟨by show (2 : Nat)≠9; omega,by show (2 : Nat)≠10; omega⟩,fun _ e=>absurd (show (2 : Nat) = 8 from e) (by omega),?_,by rw [hs,if_neg (fun q=>by omega)]; rfl⟩;rintro ⟨_,_,q,_⟩;have : 3<=(2 : Nat):=q;omega
 ·have hs : P.step i t = (P.setT i { t with work:={ t.work with time:=P.clock,next:=3 } },1):=by unfold PSt.step; simp only [hn]
  refine ⟨{ t with work:={ t.work with time:=P.clock,next:=3 } },by rw [hs]; rfl,fun _=>rfl,fun e=>by omega,fun e=>by omega,fun e=>by omega,fun _ _ _=>⟨by show (3 : Nat)≠9; omega,by show (3 : Nat)≠10; omega⟩,fun _ e=>absurd (show (3 : Nat) = 8 from e) (by omega),fun _=>.inl ⟨hn,rfl⟩,by rw [hs,if_neg (fun q=>by omega)]; rfl⟩
 ·have hs : P.step i t = (P.setT i { t with slot:=2,work:=t.work.home },1):=by unfold PSt.step; simp only [hn]
  refine ⟨{ t with slot:=2,work:=t.work.home },by rw [hs]; rfl,fun _=>rfl,fun e=>by omega,fun e=>by omega,fun e=>by omega,fun _ _ _=>⟨by show (4 : Nat)≠9; omega,by show (4 : Nat)≠10; omega⟩,fun _ e=>absurd (show (4 : Nat) = 8 from e) (by omega),?_,by rw [hs,if_neg (fun q=>by omega)]; rfl⟩;rintro ⟨q1,q2,_,_⟩;exact .inr ⟨⟨hb,q2,by omega,by omega⟩,rfl⟩
 ·have hs : P.step i t = (P.setT i t.leave,3):=by unfold PSt.step; simp only [hn]
  exact ⟨t.leave,by rw [hs]; rfl,(fun b=>nomatch b),fun e=>by omega,fun e=>by omega,fun e=>by omega,(fun _ _ b=>nomatch b),(fun b=>nomatch b),(fun q=>nomatch q.1),by rw [hs,if_neg (fun q=>by omega)]; rfl⟩
 ·have hsm:=step_mid (i:=i) P hn.1 hn.2;by_cases hk : t.work.kind = 3\/t.work.kind = 4
  ·rw [if_pos hk] at hsm;have hn4 : t.work.next = 4:=by have:=hrd hk; omega
   unfold PSt.read at hsm;simp only at hsm;split at hsm
   ·exact stay 2 (.inl hn4) hsm
   ·have hkk : ∀ k,k = (if t.work.kind = 3 then P.lookUp t.work (P.mem.ledTo (P.linkNext t.work).1 (P.linkNext t.work).2 t.work.time) else P.scan t.work (P.mem.ledTo (P.linkNext t.work).1 (P.linkNext t.work).2 t.work.time))->k.kind = t.work.kind/\(k.next = 4\/k.next = 13)/\k.time = t.work.time:=by
     rintro k rfl;split
     ·unfold PSt.lookUp; split
      ·exact ⟨rfl,.inl hn4,rfl⟩
      ·exact ⟨rfl,.inr rfl,rfl⟩
     ·unfold PSt.scan; simp only; split
      ·exact ⟨rfl,.inr rfl,rfl⟩
      ·exact ⟨rfl,.inl hn4,rfl⟩
    obtain ⟨k1,k2,k3⟩:=hkk _ rfl;exact fin hsm rfl k1 rfl (by omega) (by omega) (by omega) (by omega) (by omega) (by omega) (fun e=>by omega) (fun _=>⟨⟨hb,hk,by omega,by omega⟩,k3⟩)
  ·rw [if_neg hk] at hsm;have hk : t.work.kind = 1\/t.work.kind = 2:=by omega
   have nr : ∀ k : PWork,k.kind = t.work.kind->Rdr { t with work:=k }->Rdr t/\k.time = t.work.time:=by
    rintro k e ⟨_,q,_⟩;have q' : k.kind = 3\/k.kind = 4:=q;omega
   unfold PSt.update at hsm;rcases (show t.work.next = 4\/t.work.next = 5\/t.work.next = 6\/t.work.next = 7\/t.work.next = 8\/t.work.next = 9\/t.work.next = 10\/t.work.next = 11\/t.work.next = 12 by omega) with hn | hn | hn | hn | hn | hn | hn | hn | hn
   ·simp only [hn] at hsm;have hw : (P.walk t.work).kind = t.work.kind/\((P.walk t.work).next = 4\/(P.walk t.work).next = 5):=by
     unfold PSt.walk; split
     ·exact ⟨rfl,.inl hn⟩
     ·exact ⟨rfl,.inr rfl⟩
    exact fin hsm rfl hw.1 rfl (by omega) (by omega) (by omega) (by omega) (by omega) (by omega) (fun e=>by omega) (nr _ hw.1)
   ·simp only [hn] at hsm;rcases h.lock ht hb hn with ⟨_,q,_⟩ | ⟨_,q⟩
    ·have hq:=hsm.trans q;have hnn : ∀ nn,nn = (if wl P.mem t.work<=t.work.locks + 1 then 6 else 5)->nn = 6\/nn = 5:=by rintro nn rfl; split <;> omega
     have:=hnn _ rfl
     exact fin hq rfl rfl rfl (by omega) (by omega) (by omega) (by omega) (by simp only; omega) (by simp only; omega) (fun e=>by simp only at e; omega) (nr _ rfl)
    ·exact stay 2 (.inr hn) (hsm.trans q)
   ·simp only [hn] at hsm;unfold PSt.check at hsm;split at hsm
    ·exact fin hsm rfl rfl rfl (by omega) (by omega) (by omega) (by omega) (by show (4 : Nat)≠9; omega) (by show (4 : Nat)≠10; omega) (fun e=>absurd (show (4 : Nat) = 8 from e) (by omega)) (nr _ rfl)
    ·split at hsm
     ·exact fin hsm rfl rfl rfl (by omega) (by omega) (by omega) (by omega) (by show (12 : Nat)≠9; omega) (by show (12 : Nat)≠10; omega) (fun e=>absurd (show (12 : Nat) = 8 from e) (by omega)) (nr _ rfl)
     ·exact fin hsm rfl rfl rfl (by omega) (by omega) (by omega) (by omega) (by show (7 : Nat)≠9; omega) (by show (7 : Nat)≠10; omega) (fun e=>absurd (show (7 : Nat) = 8 from e) (by omega)) (nr _ rfl)
   ·simp only [hn] at hsm;unfold PSt.prepare at hsm;split at hsm
    ·exact fin hsm rfl rfl rfl (by omega) (by omega) (by omega) (by omega) (by show (12 : Nat)≠9; omega) (by show (12 : Nat)≠10; omega) (fun e=>absurd (show (12 : Nat) = 8 from e) (by omega)) (nr _ rfl)
    ·have hkd2 : (if t.work.kind = 1 then P.prepareInsert t.work else P.prepareRemove t.work).2.kind = t.work.kind:=by
      split
      ·unfold PSt.prepareInsert; simp only; split <;> rfl
      ·unfold PSt.prepareRemove; simp only; split <;> rfl
     exact fin hsm rfl hkd2 rfl (by omega) (by omega) (by omega) (by omega) (by show (8 : Nat)≠9; omega) (by show (8 : Nat)≠10; omega) (fun _=>hn) (nr _ hkd2)
   ·simp only [hn] at hsm;unfold PSt.take at hsm;by_cases hl : P.limit<=P.clock
    ·rw [if_pos hl] at hsm;refine ⟨{ t with work:=t.work.settle { err:=8 } },by rw [hsm,setMW_to P ht],fun _=>rfl,fun e=>by omega,fun e=>by omega,fun _=>by rw [if_pos hl],fun e=>absurd hn e,fun _ e=>absurd (show (12 : Nat) = 8 from e) (by omega),fun q=>.inr (nr _ rfl q),by rw [hsm,if_neg (fun q=>q.2.1 hl)]; rfl⟩
    ·rw [if_neg hl] at hsm;simp only at hsm;by_cases hk2 : t.work.kind = 2
     ·rw [if_pos hk2] at hsm;refine ⟨{ t with work:={ t.work with ans:={ did:=true,stamp:=P.clock + 1,value:=(P.mem.node t.work.ahead).value },next:=9 } },by rw [hsm,setW_to { P with clock:=P.clock + 1 } ht],fun _=>rfl,fun e=>by omega,fun e=>by omega,fun _=>by rw [if_neg hl,if_pos hk2],fun e=>absurd hn e,fun _ e=>absurd (show (9 : Nat) = 8 from e) (by omega),fun q=>.inr (nr _ rfl q),by rw [hsm,if_pos ⟨hn,hl,hk⟩]; rfl⟩
     ·rw [if_neg hk2] at hsm;refine ⟨{ t with work:={ t.work with ans:={ did:=true,stamp:=P.clock + 1 },next:=10 } },by rw [hsm,setMW_to { P with clock:=P.clock + 1 } ht],fun _=>rfl,fun e=>by omega,fun e=>by omega,fun _=>by rw [if_neg hl,if_neg hk2],fun e=>absurd hn e,fun _ e=>absurd (show (10 : Nat) = 8 from e) (by omega),fun q=>.inr (nr _ rfl q),by rw [hsm,if_pos ⟨hn,hl,hk⟩]; rfl⟩
   ·simp only [hn] at hsm;exact ⟨{ t with work:={ t.work with next:=10 } },by rw [hsm,setMW_to P ht],fun _=>rfl,fun _=>rfl,fun e=>by omega,fun e=>by omega,fun _ e=>absurd hn e,fun _ e=>absurd (show (10 : Nat) = 8 from e) (by omega),fun q=>.inr (nr _ rfl q),by rw [hsm,if_neg (fun q=>by omega)]; rfl⟩
   ·simp only [hn] at hsm;exact ⟨{ t with work:={ t.work with next:=11 } },by rw [hsm,setMW_to P ht],fun _=>rfl,fun e=>by omega,fun _=>rfl,fun e=>by omega,fun _ _ _=>⟨by show (11 : Nat)≠9; omega,by show (11 : Nat)≠10; omega⟩,fun _ e=>absurd (show (11 : Nat) = 8 from e) (by omega),fun q=>.inr (nr _ rfl q),by rw [hsm,if_neg (fun q=>by omega)]; rfl⟩
   ·simp only [hn] at hsm;exact fin hsm rfl rfl rfl (by omega) (by omega) (by omega) (by omega) (by show (12 : Nat)≠9; omega) (by show (12 : Nat)≠10; omega) (fun e=>absurd (show (12 : Nat) = 8 from e) (by omega)) (nr _ rfl)
   ·simp only [hn] at hsm;unfold PSt.unlock at hsm;exact fin hsm rfl rfl rfl (by omega) (by omega) (by omega) (by omega) (by show (13 : Nat)≠9; omega) (by show (13 : Nat)≠10; omega) (fun e=>absurd (show (13 : Nat) = 8 from e) (by omega)) (nr _ rfl)
theorem Inv.ve8 (h : Inv C P) (hj : P.ts[j]? = some t) (hv : VE P.mem P.ts x s d) : ¬ Fresh8 x t:=by
 rintro ⟨f1,f2,f3,f4⟩;obtain ⟨n,g1,_,_,_,g5,_,_,_,_,_,g11⟩:=(h.th j t hj).f8 f1 f2 (.inl f3);have e:=mem_one g1 f4;subst e;rcases hv with hv | ⟨⟨k,u,hk,v1,v2,v3,v4,v5,_⟩,_⟩
 ·exact (g11 f3).2 s d hv
 ·have:=((h.th k u hk).c7 v1 (by omega) (by omega)).1
  rw [v5] at this; exact g5 this
theorem InvV.verStep (hV : InvV C Rt Vt P) (h : Inv C P) (ht : P.ts[i]? = some t) (hb : t.busy = true) {R : List (Int × Int)} {V : Int->Prop} {T : Int} (hR : Ver P.mem P.ts R V T) (hT : T < P.clock\/(T = P.clock/\V = Vt P.clock)) : Ver (P.step i t).1.mem (P.step i t).1.ts R V T:=by
 have hve:=h.veStep ht hb;have hn8 : ∀ x,(x = 0\/V x)->¬ Fresh8 x t:=by
  intro x hx;obtain ⟨s,y,g1,_⟩:=hR.g x hx;exact h.ve8 ht g1
 have hus : ∀ x,(x = 0\/x = 1\/V x)->Us P.mem x:=by
  rintro x (rfl | rfl | hx)
  ·exact h.gdUs (.inr (.inl h.n.a0.1))
  ·exact h.n.a1.2.1
  ·exact (hR.d x hx).1
 have h81 : ¬ Fresh8 1 t:=by
  rintro ⟨f1,f2,f3,f4⟩;obtain ⟨n,g1,_,g3,_⟩:=(h.th i t ht).f8 f1 f2 (.inl f3);exact g3 (mem_one g1 f4).symm
 have hk : ∀ x,(x = 0\/x = 1\/V x)->Nr P.clock P.mem (P.step i t).1.mem x:=by
  intro x hx;refine h.keepsR ht hb x (hus x hx) ?_;rcases hx with hx | rfl | hx
  ·exact hn8 x (.inl hx)
  ·exact h81
  ·exact hn8 x (.inr hx)
 refine hR.mono (fun x hx=>(hk x hx).1) ?_ (fun x s d _ hv _ _=>hve.to x s d hv) ?_
 ·intro x hx;obtain ⟨k1,k2,k3,k4⟩:=hk x (.inr (.inr hx));obtain ⟨d1,_,_,d4⟩:=hR.d x hx;refine ⟨k2,k3 d1,?_⟩;intro hr;rcases k4 hr with ⟨q1,q2⟩ | ⟨q1,q2⟩
  ·rw [q2]; exact d4 q1
  ·rw [q1];rcases hT with hT | ⟨hT,hVe⟩
   ·exact hT
   ·exfalso;rw [hVe,hV.set] at hx;rcases hx with ⟨z1,_,z3⟩ | ⟨j,u,hj,f1,f2,f3,f4⟩
    ·obtain ⟨j,u,hj,w1,w2,w3,w4⟩:=h.o.ki x q2 z1;exact z3 ⟨j,u,hj,w1,w2,.inr w3,w4⟩
    ·obtain ⟨n,g1,_,_,_,_,g6,_⟩:=(h.th j u hj).f8 f1 f2 (.inr f3);rw [mem_one g1 f4] at q2;simp only [De] at q2; rw [g6] at q2; cases q2
 ·intro x s d _ hv hs;rcases hve.fr x s d hv with q | q
  ·exact q
  ·have : T<=P.clock:=by rcases hT with hT | hT <;> omega
   omega
end
end
section
section
variable {C : Int->Prop} {Rt : Int->List (Int × Int)} {Vt : Int->Int->Prop} {i j : Nat} {t t' : PThread} {P : PSt} {x s d : Int} {ts : List PThread}
theorem ex_iff {p : PThread->Prop} (ht : ts[i]? = some t) (h : p t' ↔ p t) : Ex (ts.set i t') p ↔ Ex ts p:=by
 have hi:=(List.getElem?_eq_some_iff.1 ht).1;constructor
 ·rintro ⟨j,u,hj,hu⟩;rw [List.getElem?_set] at hj;by_cases e : i = j
  ·subst e; simp [hi] at hj; subst hj; exact ⟨i,t,ht,h.1 hu⟩
  ·rw [if_neg e] at hj; exact ⟨j,u,hj,hu⟩
 ·intro hx; exact hx.set ht h.2
theorem ex_off {p : PThread->Prop} (ht : ts[i]? = some t) (h : ¬ p t') : Ex (ts.set i t') p ↔ ∃ j u,j≠i/\ts[j]? = some u/\p u:=by
 have hi:=(List.getElem?_eq_some_iff.1 ht).1;constructor
 ·rintro ⟨j,u,hj,hu⟩;rw [List.getElem?_set] at hj;by_cases e : i = j
  ·subst e; simp [hi] at hj; subst hj; exact absurd hu h
  ·rw [if_neg e] at hj; exact ⟨j,u,fun q=>e q.symm,hj,hu⟩
 ·rintro ⟨j,u,hji,hj,hu⟩; exact Ex.other hj hu hji
theorem InvV.freshVal (hV : InvV C Rt Vt P) (h : Inv C P) (ht : P.ts[i]? = some t) (hb : t.busy = true) : ∀ (j : Nat) u,(P.step i t).1.ts[j]? = some u->∀ x,Fresh x u->((P.step i t).1.mem.node x).value = u.work.value:=by
 obtain ⟨t',hto⟩:=h.goTo ht hb;have hT:=h.th i t ht;have hkd:=hT.kd hb;have hrd:=hT.rd hb;have hi:=(List.getElem?_eq_some_iff.1 ht).1;intro j u hj x hf;rw [hto.ts,List.getElem?_set] at hj;by_cases e : i = j
 ·subst e;simp [hi] at hj; subst hj;obtain ⟨f1,f2,f3,f4⟩:=hf;have hk1 : t.work.kind = 1:=by rw [<- hto.kd f1]; exact f2
  rcases f3 with f3 | f3
  ·rcases hto.n7 f1 f3 (.inl hk1) with q | h7
   ·-- it has not moved: there is no such step
    exfalso;have h8 : t.work.next = 8:=by rw [<- q]; exact f3
    have:=hto.n8 h8
    split at this
    ·rw [this] at f3; exact absurd (show (12 : Nat) = 8 from f3) (by omega)
    ·rw [if_neg (by omega)] at this;rw [this] at f3; exact absurd (show (10 : Nat) = 8 from f3) (by omega)
   ·have hsm:=step_mid (i:=i) (t:=t) P (by omega) (by omega);rw [if_neg (by omega)] at hsm;unfold PSt.update at hsm;simp only [h7] at hsm;unfold PSt.prepare at hsm;split at hsm
    ·exfalso;have : (P.step i t).1.ts[i]? = some { t with work:=t.work.settle { err:=7 } }:=by rw [hsm,setW_to P ht]; simp [hi]
     rw [hto.ts] at this;simp [hi] at this;rw [this] at f3; exact absurd (show (12 : Nat) = 8 from f3) (by omega)
    ·next hroom =>
     have hne : P.needs t.work.kind = (1,2):=by unfold PSt.needs; rw [hk1,if_neg (by decide),if_neg (by rw [h.kind]; decide)]
     rw [hne] at hroom;obtain ⟨n,M1,q1,q2,_,q4,_⟩:=h.grown ht hb h7 (by simp only at hroom; omega) (by simp only at hroom; omega);simp only [if_pos hk1,q2] at hsm;have hts : (P.step i t).1.ts[i]? = some { t with work:={ t.work with made:=[n],tsrc:=t.work.stand,tside:=false,next:=8 } }:=by
      rw [hsm];show ((P.setM M1).setW i { t.work with made:=[n],tsrc:=t.work.stand,tside:=false,next:=8 }).ts[i]? = _;rw [setMW_to P ht]; simp [hi]
     rw [hto.ts] at hts;simp [hi] at hts;rw [hts] at f4 ⊢;have hx : x = n:=by
      have : x ∈ [n]:=f4;simpa using this
     show (PMem.node (P.step i t).1.mem x).value = t.work.value;rw [hsm];show (M1.node x).value = _;rw [q4,if_pos hx]; rfl
  ·by_cases h8 : t.work.next = 8
   ·have hn8:=hto.n8 h8;split at hn8
    ·rw [hn8] at f3; exact absurd (show (12 : Nat) = 10 from f3) (by omega)
    ·rw [if_neg (by omega)] at hn8;have hm : x ∈ t.work.made:=by rw [hn8] at f4; exact f4
     have hold:=hV.fv i t ht x ⟨hb,hk1,.inl h8,hm⟩;have hval : t'.work.value = t.work.value:=by rw [hn8]
     rw [hval,<- hold];have hsm:=step_mid (i:=i) (t:=t) P (by omega) (by omega);rw [if_neg (by omega)] at hsm;unfold PSt.update at hsm;simp only [h8] at hsm;unfold PSt.take at hsm;rw [if_neg (by assumption)] at hsm;simp only at hsm;rw [if_neg (by omega)] at hsm;rw [hsm];show (PMem.node (P.mem.stampsNew (P.clock + 1) t.work.made) x).value = _;rw [node_ns (stampsNew_ns _ _ _)]
   ·by_cases h9 : t.work.next = 9
    ·have:=hT.n9 hb h9; omega
    ·exact absurd f3 (hto.nx h8 h9 f1).2
 ·rw [if_neg e] at hj;rw [<- hV.fv j u hj x hf];obtain ⟨f1,f2,f3,f4⟩:=hf;obtain ⟨n,g1,_,_,g4,_⟩:=(h.th j u hj).f8 f1 f2 f3;have hx:=mem_one g1 f4;refine (h.keepsR ht hb x (by rw [hx]; exact g4) ?_).2.1;rintro ⟨k1,k2,k3,k4⟩;exact e (h.o.pw i j t u x ht hj ⟨k1,k2,.inl k3,k4⟩ ⟨f1,f2,f3,f4⟩)
theorem InvV.readers (hV : InvV C Rt Vt P) (h : Inv C P) (ht : P.ts[i]? = some t) (hb : t.busy = true) : ∀ (j : Nat) u,(P.step i t).1.ts[j]? = some u->Rdr u->Ver (P.step i t).1.mem (P.step i t).1.ts (Rt u.work.time) (Vt u.work.time) u.work.time/\u.work.time<=P.clock:=by
 obtain ⟨t',hto⟩:=h.goTo ht hb;have hi:=(List.getElem?_eq_some_iff.1 ht).1;have one : ∀ (j : Nat) u,P.ts[j]? = some u->Rdr u->Ver (P.step i t).1.mem (P.step i t).1.ts (Rt u.work.time) (Vt u.work.time) u.work.time/\u.work.time<=P.clock:=by
  intro j u hj hr;have hle:=((h.th j u hj).tm hr.1 hr.2.2.1).1;refine ⟨hV.verStep h ht hb (hV.rd j u hj hr) ?_,hle⟩;rcases (show u.work.time < P.clock\/u.work.time = P.clock by omega) with q | q
  ·exact .inl q
  ·exact .inr ⟨q,by rw [q]⟩
 intro j u hj hr;have hj':=hj;rw [hto.ts,List.getElem?_set] at hj';by_cases e : i = j
 ·subst e;simp [hi] at hj'; subst hj';rcases hto.rd hr with ⟨q1,q2⟩ | ⟨q1,q2⟩
  ·rw [q2];exact ⟨hV.verStep h ht hb hV.now (.inr ⟨rfl,rfl⟩),Int.le_refl _⟩
  ·rw [q2]; exact one i t ht q1
 ·rw [if_neg e] at hj';exact one j u hj' hr
theorem InvV.still (hV : InvV C Rt Vt P) (h : Inv C P) (ht : P.ts[i]? = some t) (hb : t.busy = true) (hck : (P.step i t).1.clock = P.clock) : InvV (nextC C t) Rt Vt (P.step i t).1:=by
 obtain ⟨t',hto⟩:=h.goTo ht hb;have hT:=h.th i t ht;have hkd:=hT.kd hb;have hrd:=hT.rd hb;have hi:=(List.getElem?_eq_some_iff.1 ht).1;refine ⟨by rw [hck]; exact hV.verStep h ht hb hV.now (.inr ⟨rfl,rfl⟩),?_,hV.freshVal h ht hb,fun j u hj hr=>(hV.readers h ht hb j u hj hr).1⟩;rw [hck];intro x;rw [hV.set,hto.ts];by_cases h10 : t.work.next = 10
 ·have hk : t.work.kind = 1\/t.work.kind = 2:=by omega
  have ht':=hto.n10 h10;have nr : ∀ x,¬ Removing x t':=by
   rintro x ⟨_,_,q,_⟩;rw [ht'] at q;have : (11 : Nat) = 9\/(11 : Nat) = 10:=q;omega
  have nf : ∀ x,¬ Fresh10 x t':=by
   rintro x ⟨_,_,q,_⟩;rw [ht'] at q;have : (11 : Nat) = 10:=q;omega
  rw [ex_off ht (nr x),ex_off ht (nf x)];unfold nextC;rcases hk with hk | hk
  ·rw [if_neg (by omega),if_pos ⟨h10,hk⟩];obtain ⟨n,f1,f2,f3,f4,f5,f6,_⟩:=hT.f8 hb hk (.inr h10);have hmn : ∀ x,x ∈ t.work.made ↔ x = n:=fun x=>by rw [f1]; simp
   have rem : Ex P.ts (Removing x) ↔ ∃ j u,j≠i/\P.ts[j]? = some u/\Removing x u:=by
    constructor
    ·rintro ⟨j,u,hj,hu⟩;refine ⟨j,u,?_,hj,hu⟩;rintro rfl;rw [ht] at hj; injection hj with hj; subst hj
     have:=hu.2.1; omega
    ·rintro ⟨j,u,_,hj,hu⟩; exact ⟨j,u,hj,hu⟩
   rw [rem];constructor
   ·rintro (⟨q1,q2,q3⟩ | ⟨j,u,hj,hu⟩)
    ·exact .inl ⟨.inl q1,q2,q3⟩
    ·by_cases e : j = i
     ·subst e;rw [ht] at hj; injection hj with hj; subst hj
      have hx:=(hmn x).1 hu.2.2.2;refine .inl ⟨.inr hu.2.2.2,by rw [hx]; exact f2,?_⟩;rintro ⟨k,v,_,hk2,r1,r2,r3,r4⟩;have hc7:=(h.th k v hk2).c7 r1 (by omega) (by omega);have hc10:=(h.th k v hk2).c10 r1 (by omega) (by omega);have hcl:=(h.n.mc _ hc7.1).2.2.2.1;rw [hc10,r4,hx] at hcl;rcases hcl with z | z
      ·exact f3 z
      ·exact f5 z
     ·exact .inr ⟨j,u,e,hj,hu⟩
   ·rintro (⟨q1,q2,q3⟩ | ⟨j,u,_,hj,hu⟩)
    ·rcases q1 with q1 | q1
     ·exact .inl ⟨q1,q2,q3⟩
     ·exact .inr ⟨i,t,ht,hb,hk,h10,q1⟩
    ·exact .inr ⟨j,u,hj,hu⟩
  ·rw [if_pos ⟨h10,hk⟩];have fr : Ex P.ts (Fresh10 x) ↔ ∃ j u,j≠i/\P.ts[j]? = some u/\Fresh10 x u:=by
    constructor
    ·rintro ⟨j,u,hj,hu⟩;refine ⟨j,u,?_,hj,hu⟩;rintro rfl;rw [ht] at hj; injection hj with hj; subst hj
     have:=hu.2.1; omega
    ·rintro ⟨j,u,_,hj,hu⟩; exact ⟨j,u,hj,hu⟩
   rw [fr];refine or_congr ?_ Iff.rfl;constructor
   ·rintro ⟨q1,q2,q3⟩;refine ⟨⟨q1,?_⟩,q2,?_⟩
    ·rintro rfl; exact q3 ⟨i,t,ht,hb,hk,.inr h10,rfl⟩
    ·rintro ⟨j,u,_,hj,hu⟩; exact q3 ⟨j,u,hj,hu⟩
   ·rintro ⟨⟨q1,q1'⟩,q2,q3⟩;refine ⟨q1,q2,?_⟩;rintro ⟨j,u,hj,hu⟩;by_cases e : j = i
    ·subst e;rw [ht] at hj; injection hj with hj; subst hj
     exact q1' hu.2.2.2.symm
    ·exact q3 ⟨j,u,e,hj,hu⟩
 ·rw [nextC_ne h10];have hrem : Removing x t' ↔ Removing x t:=by
   by_cases h9 : t.work.next = 9
   ·have ht':=hto.n9 h9;rw [ht'];constructor
    ·rintro ⟨q1,q2,_,q4⟩; exact ⟨q1,q2,.inl h9,q4⟩
    ·rintro ⟨q1,q2,_,q4⟩; exact ⟨q1,q2,.inr rfl,q4⟩
   ·constructor
    ·rintro ⟨q1,q2,q3,q4⟩;exfalso;by_cases h8 : t.work.next = 8
     ·have hlim : P.limit<=P.clock:=by
       by_cases hl : P.limit<=P.clock
       ·exact hl
       ·exfalso
        have:=hto.ck
        rw [if_pos ⟨h8,hl,by omega⟩] at this;omega
      have hn8:=hto.n8 h8;rw [if_pos hlim] at hn8;rw [hn8] at q3;have : (12 : Nat) = 9\/(12 : Nat) = 10:=q3;omega
     ·have:=hto.nx h8 h9 q1; omega
    ·rintro ⟨q1,q2,q3,q4⟩; omega
  have hfr : Fresh10 x t' ↔ Fresh10 x t:=by
   constructor
   ·rintro ⟨q1,q2,q3,q4⟩;exfalso;by_cases h9 : t.work.next = 9
    ·have:=hT.n9 hb h9
     have:=hto.kd q1
     omega
    ·by_cases h8 : t.work.next = 8
     ·have hlim : P.limit<=P.clock:=by
       by_cases hl : P.limit<=P.clock
       ·exact hl
       ·exfalso
        have:=hto.ck
        rw [if_pos ⟨h8,hl,by omega⟩] at this;omega
      have hn8:=hto.n8 h8;rw [if_pos hlim] at hn8;rw [hn8] at q3;have : (12 : Nat) = 10:=q3;omega
     ·exact (hto.nx h8 h9 q1).2 q3
   ·rintro ⟨q1,q2,q3,q4⟩; exact absurd q3 h10
  rw [ex_iff ht hrem,ex_iff ht hfr]
end
end
section
section
variable {C : Int->Prop} {Rt : Int->List (Int × Int)} {Vt : Int->Int->Prop} {i j : Nat} {t t' : PThread} {P : PSt} {x s d : Int} {ts : List PThread}
theorem take_eq (P : PSt) (ht : P.ts[i]? = some t) (hn : t.work.next = 8) (hl : ¬ P.limit<=P.clock) (hk : t.work.kind = 1\/t.work.kind = 2) :
  (t.work.kind = 2->(P.step i t).1 = { P with clock:=P.clock + 1,ts:=P.ts.set i { t with work:={ t.work with ans:={ did:=true,stamp:=P.clock + 1,value:=(P.mem.node t.work.ahead).value },next:=9 } } }) /\
  (t.work.kind = 1->(P.step i t).1 = { P with clock:=P.clock + 1,mem:=P.mem.stampsNew (P.clock + 1) t.work.made,ts:=P.ts.set i { t with work:={ t.work with ans:={ did:=true,stamp:=P.clock + 1 },next:=10 } } }):=by
 have hsm:=step_mid (i:=i) (t:=t) P (by omega) (by omega);rw [if_neg (by omega)] at hsm;unfold PSt.update at hsm;simp only [hn] at hsm;unfold PSt.take at hsm;rw [if_neg hl] at hsm;simp only at hsm;constructor
 ·intro h2;rw [if_pos h2] at hsm;rw [hsm,setW_to { P with clock:=P.clock + 1 } ht]
 ·intro h1;rw [if_neg (by omega)] at hsm;rw [hsm,setMW_to { P with clock:=P.clock + 1 } ht]
def nextR (Rt : Int->List (Int × Int)) (P : PSt) (t : PThread) : Int->List (Int × Int):=fun T=>if T = P.clock + 1 then shNew (Rt P.clock) t.work.kind t.work.key t.work.value else Rt T
def nextV (Vt : Int->Int->Prop) (P : PSt) (t : PThread) : Int->Int->Prop:=fun T=>if T = P.clock + 1 then (if t.work.kind = 2 then (fun x=>Vt P.clock x/\x≠t.work.ahead) else (fun x=>Vt P.clock x\/x ∈ t.work.made)) else Vt T
theorem InvV.tookRest (hV : InvV C Rt Vt P) (h : Inv C P) (ht : P.ts[i]? = some t) (hb : t.busy = true) (hck : (P.step i t).1.clock = P.clock + 1)
  (hnow : Ver (P.step i t).1.mem (P.step i t).1.ts (nextR Rt P t (P.clock + 1)) (nextV Vt P t (P.clock + 1)) (P.clock + 1))
  (hset : ∀ x,nextV Vt P t (P.clock + 1) x ↔ (C x/\x≠0/\¬ Ex (P.step i t).1.ts (Removing x))\/Ex (P.step i t).1.ts (Fresh10 x)) : InvV C (nextR Rt P t) (nextV Vt P t) (P.step i t).1:=by
 refine ⟨by rw [hck]; exact hnow,by rw [hck]; exact hset,hV.freshVal h ht hb,?_⟩;intro j u hj hr;obtain ⟨q1,q2⟩:=hV.readers h ht hb j u hj hr;have e1 : nextR Rt P t u.work.time = Rt u.work.time:=by unfold nextR; rw [if_neg (by omega)]
 have e2 : nextV Vt P t u.work.time = Vt u.work.time:=by unfold nextV; rw [if_neg (by omega)]
 rw [e1,e2]; exact q1
theorem InvV.tookR (hV : InvV C Rt Vt P) (h : Inv C P) (ht : P.ts[i]? = some t) (hb : t.busy = true) (hn : t.work.next = 8) (hl : ¬ P.limit<=P.clock) (hk : t.work.kind = 2) : InvV C (nextR Rt P t) (nextV Vt P t) (P.step i t).1/\shUpd (Rt P.clock) t.work.kind t.work.key = true/\shVal (Rt P.clock) t.work.key = ((P.mem.node t.work.ahead).value,true):=by
 have hT:=h.th i t ht;have hi:=(List.getElem?_eq_some_iff.1 ht).1;obtain ⟨_,m1,m2,m3,m4,m5,m6⟩:=h.mine ht hb (by omega) (by omega);obtain ⟨a1,a2,a3,a4⟩:=m6 hk;obtain ⟨c1,c2,c3⟩:=hT.c7 hb (by omega) (by omega);have c10:=hT.c10 hb (by omega) (by omega);obtain ⟨p1,p2⟩:=hT.p2 hb hk (by omega) (by omega);have hka:=c3.2 hk;obtain ⟨fa,fb,fc⟩:=(hV.found h ht hb (by omega) (by omega) m1 c10).1 hka;have hst : t.work.stand = 0\/Vt P.clock t.work.stand:=(hV.succ h ht m3 m1 (by omega)).1;have hsrow:=(hV.succ h ht m3 m1 (by omega)).2.2;rw [c10] at hsrow;have hCa : C t.work.ahead:=by
  have:=(h.n.mc _ m1).2.2.2.1
  rw [c10] at this;exact this.resolve_left a3
 obtain ⟨_,sa2,sa3⟩:=hV.succ h ht a2 hCa (by omega);have hupd : shUpd (Rt P.clock) t.work.kind t.work.key = true:=by unfold shUpd; rw [fc,hk]; rfl
 refine ⟨?_,hupd,fc⟩;have heq:=(take_eq P ht hn hl (.inr hk)).1 hk;have hck : (P.step i t).1.clock = P.clock + 1:=by rw [heq]
 have hmem : (P.step i t).1.mem = P.mem:=by rw [heq]
 have hts : (P.step i t).1.ts = P.ts.set i { t with work:={ t.work with ans:={ did:=true,stamp:=P.clock + 1,value:=(P.mem.node t.work.ahead).value },next:=9 } }:=by rw [heq]
 have hve:=h.veStep ht hb;have hR' : nextR Rt P t (P.clock + 1) = shDel (Rt P.clock) t.work.key:=by
  unfold nextR shNew;rw [if_pos rfl,hupd,if_pos rfl,if_neg (by omega)]
 have hV' : nextV Vt P t (P.clock + 1) = fun x=>Vt P.clock x/\x≠t.work.ahead:=by
  unfold nextV; rw [if_pos rfl,if_pos hk]
 refine hV.tookRest h ht hb hck ?_ ?_
 ·rw [hR',hV',hmem];have now:=hV.now;have nre : ∀ x,Vt P.clock x->¬ Re P.mem x:=fun x hx hr=>by
   have:=(now.d x hx).2.2.2 hr
   have:=(h.n.mr x hr).2.2
   omega
  -- the new entry
  have top1 : ∀ x d,VE P.mem (P.step i t).1.ts x (P.clock + 1) d->x = t.work.stand/\d = Ld P.mem t.work.ahead:=by
   rintro x d (q | ⟨⟨j,u,hj,hu⟩,hd⟩)
   ·have:=(h.e.ms x _ d q).2.2.2.1; omega
   ·rw [hts,List.getElem?_set] at hj;by_cases e : i = j
    ·subst e;simp [hi] at hj; subst hj;have hx : t.work.stand = x:=hu.2.2.2.2.1;refine ⟨hx.symm,?_⟩;rw [<- hx,p1] at hd;injection hd with hd; exact hd.symm
    ·rw [if_neg e] at hj
     have:=((h.th j u hj).s9 hu.1 hu.2.2.1 hu.2.2.2.1).2.2.1
     rw [hu.2.2.2.2.2] at this; omega
  have hnew : VE P.mem (P.step i t).1.ts t.work.stand (P.clock + 1) (Ld P.mem t.work.ahead):=by
   refine .inr ⟨?_,p1⟩;rw [hts];exact Ex.new ht ⟨hb,.inr hk,by show 9<=9; omega,by show 9<=11; omega,rfl,rfl⟩
  have hfr : ∀ x s d,VE P.mem (P.step i t).1.ts x s d->VE P.mem P.ts x s d\/s = P.clock + 1:=by
   intro x s d hv
   have:=hve.fr x s d
   rw [hmem] at this;exact this hv
  have hto : ∀ x s d,VE P.mem P.ts x s d->VE P.mem (P.step i t).1.ts x s d:=by
   intro x s d hv
   have:=hve.to x s d hv
   rw [hmem] at this; exact this
  refine ⟨?_,?_,?_,?_,Srt.del now.srt _⟩
  ·intro p;rw [mem_shDel,now.a];constructor
   ·rintro ⟨⟨x,hx,rfl⟩,q⟩;refine ⟨x,⟨hx,?_⟩,rfl⟩;rintro rfl; exact q hka
   ·rintro ⟨x,⟨hx,hxa⟩,rfl⟩;refine ⟨⟨x,hx,rfl⟩,?_⟩;intro q;exact hxa (now.b x _ hx fa (by rw [hka]; exact q))
  ·intro x y hx hy e; exact now.b x y hx.1 hy.1 e
  ·intro x hx;obtain ⟨q1,q2,q3,_⟩:=now.d x hx.1;exact ⟨q1,q2,q3,fun hr=>absurd hr (nre x hx.1)⟩
  ·intro x hx;by_cases e : x = t.work.stand
   ·subst e;refine ⟨P.clock + 1,Ld P.mem t.work.ahead,hnew,Int.le_refl _,?_,?_,?_,?_⟩
    ·intro s' d' hv hs;rcases hfr _ _ _ hv with q | q
     ·have:=(h.ve_le q).2; left; omega
     ·right;rw [q] at hv;exact ⟨q,(top1 _ _ hv).2⟩
    ·rcases sa2 with q | q
     ·exact .inl q
     ·refine .inr ⟨q,?_⟩;intro e2
      have:=(h.n.mc _ hCa).2.2.2.2.2.resolve_left a4
      rw [e2] at this; omega
    ·have h1:=(h.n.mc _ m1).2.2.2.2.2;have h2:=(h.n.mc _ hCa).2.2.2.2.2.resolve_left a4;rw [c10] at h1;rcases h1 with q | q
     ·exact .inl q
     ·right; omega
    ·intro p hp h0;rw [mem_shDel] at hp;have h1:=(hsrow p hp.1 h0).2;have h2:=hp.2;exact sa3 p hp.1 (.inr (by omega))
   ·have hx' : x = 0\/Vt P.clock x:=by rcases hx with q | q; exact .inl q; exact .inr q.1
    obtain ⟨s,y,g1,g2,g3,g4,g5,g6⟩:=now.g x hx';refine ⟨s,y,hto x s y g1,by omega,?_,?_,g5,?_⟩
    ·intro s' d' hv hs;rcases hfr _ _ _ hv with q | q
     ·exact g3 s' d' q (h.ve_le q).2
     ·rw [q] at hv;exact absurd (top1 _ _ hv).1 e
    ·rcases g4 with q | q
     ·exact .inl q
     ·refine .inr ⟨q,?_⟩
      -- only the stand is followed by the node ahead
      rintro rfl;by_cases hs0 : t.work.stand = 0
      ·have hx0 : x≠0:=fun q=>e (by rw [q,hs0])
       have hvx:=hx'.resolve_left hx0;have hp : (Ky P.mem x,(P.mem.node x).value) ∈ Rt P.clock:=(now.a _).2 ⟨x,hvx,rfl⟩
       have:=(hsrow _ hp (.inl hs0)).2
       have:=g5.resolve_left hx0
       simp only at *;omega
      ·have hvs:=hst.resolve_left hs0;have hps : (Ky P.mem t.work.stand,(P.mem.node t.work.stand).value) ∈ Rt P.clock:=(now.a _).2 ⟨_,hvs,rfl⟩;have hla:=(h.n.mc _ m1).2.2.2.2.2.resolve_left hs0;rw [c10] at hla;by_cases hx0 : x = 0
       ·have:=(g6 _ hps (.inl hx0)).2
        simp only at this;omega
       ·have hvx:=hx'.resolve_left hx0;have hp : (Ky P.mem x,(P.mem.node x).value) ∈ Rt P.clock:=(now.a _).2 ⟨x,hvx,rfl⟩;have hxa:=g5.resolve_left hx0;rcases (show Ky P.mem x < Ky P.mem t.work.stand\/Ky P.mem x = Ky P.mem t.work.stand\/Ky P.mem t.work.stand < Ky P.mem x by omega) with q | q | q
        ·have:=(g6 _ hps (.inr q)).2
         simp only at this;omega
        ·exact e (now.b x _ hvx hvs q)
        ·have:=(hsrow _ hp (.inr q)).2
         simp only at this;omega
    ·intro p hp h0;rw [mem_shDel] at hp;exact g6 p hp.1 h0
 ·intro x;rw [hV'];show (Vt P.clock x/\x≠t.work.ahead) ↔ _;rw [hV.set,hts];have hrem : Ex (P.ts.set i { t with work:={ t.work with ans:={ did:=true,stamp:=P.clock + 1,value:=(P.mem.node t.work.ahead).value },next:=9 } }) (Removing x) ↔ Ex P.ts (Removing x)\/x = t.work.ahead:=by
   constructor
   ·rintro ⟨j,u,hj,hu⟩;rw [List.getElem?_set] at hj;by_cases e : i = j
    ·subst e; simp [hi] at hj; subst hj; exact .inr hu.2.2.2.symm
    ·rw [if_neg e] at hj; exact .inl ⟨j,u,hj,hu⟩
   ·rintro (q | q)
    ·exact q.set ht (fun r=>by have:=r.2.2.1; omega)
    ·exact Ex.new ht ⟨hb,hk,.inl rfl,q.symm⟩
  have hfr : Ex (P.ts.set i { t with work:={ t.work with ans:={ did:=true,stamp:=P.clock + 1,value:=(P.mem.node t.work.ahead).value },next:=9 } }) (Fresh10 x) ↔ Ex P.ts (Fresh10 x):=by
   refine ex_iff ht ⟨?_,?_⟩
   ·rintro ⟨_,q,_⟩;have : t.work.kind = 1:=q;omega
   ·rintro ⟨_,q,_⟩; omega
  rw [hrem,hfr];constructor
  ·rintro ⟨q | q,qa⟩
   ·refine .inl ⟨q.1,q.2.1,?_⟩;rintro (r | r)
    ·exact q.2.2 r
    ·exact qa r
   ·exact .inr q
  ·rintro (q | q)
   ·exact ⟨.inl ⟨q.1,q.2.1,fun r=>q.2.2 (.inl r)⟩,fun r=>q.2.2 (.inr r)⟩
   ·refine ⟨.inr q,?_⟩;rintro rfl;obtain ⟨j,u,hj,f1,f2,f3,f4⟩:=q;obtain ⟨n,g1,_,_,_,g5,_⟩:=(h.th j u hj).f8 f1 f2 (.inr f3);rw [mem_one g1 f4] at hCa; exact g5 hCa
end
end
section
section
variable {C : Int->Prop} {Rt : Int->List (Int × Int)} {Vt : Int->Int->Prop} {i j : Nat} {t t' : PThread} {P : PSt} {x s d : Int} {ts : List PThread}
theorem InvV.tookI (hV : InvV C Rt Vt P) (h : Inv C P) (ht : P.ts[i]? = some t) (hb : t.busy = true) (hn : t.work.next = 8) (hl : ¬ P.limit<=P.clock) (hk : t.work.kind = 1) : InvV C (nextR Rt P t) (nextV Vt P t) (P.step i t).1/\shUpd (Rt P.clock) t.work.kind t.work.key = true/\shVal (Rt P.clock) t.work.key = (0,false):=by
 have hT:=h.th i t ht;have hi:=(List.getElem?_eq_some_iff.1 ht).1;obtain ⟨_,m1,m2,m3,m4,m5,_⟩:=h.mine ht hb (by omega) (by omega);obtain ⟨c1,c2,c3⟩:=hT.c7 hb (by omega) (by omega);have c10:=hT.c10 hb (by omega) (by omega);obtain ⟨n,f1,f2,f3,f4,f5,f6,f7,f8,f9,f10,f11⟩:=hT.f8 hb hk (.inl hn);obtain ⟨f12,f13⟩:=f11 hn;have hka : Ky P.mem t.work.ahead≠t.work.key:=fun e=>by have:=c3.1 e; omega
 obtain ⟨fa,fc⟩:=(hV.found h ht hb (by omega) (by omega) m1 c10).2 hka;have hst : t.work.stand = 0\/Vt P.clock t.work.stand:=(hV.succ h ht m3 m1 (by omega)).1;have hah:=(hV.succ h ht m3 m1 (by omega)).2.1;have hsrow:=(hV.succ h ht m3 m1 (by omega)).2.2;rw [c10] at hsrow hah;have hsk:=(hT.xs hb (by omega) (by omega) (by omega)).2.2;have hcs:=hT.cs hb (by omega) (by omega);have hlt : t.work.key < Ky P.mem t.work.ahead:=by have:=hcs.2.2.2; omega
 have hfn : Fresh8 n t:=⟨hb,hk,hn,by rw [f1]; simp⟩;have hval:=hV.fv i t ht n ⟨hb,hk,.inl hn,by rw [f1]; simp⟩;have hupd : shUpd (Rt P.clock) t.work.kind t.work.key = true:=by unfold shUpd; rw [fc,hk]; rfl
 refine ⟨?_,hupd,fc⟩;have heq:=(take_eq P ht hn hl (.inl hk)).2 hk;have hck : (P.step i t).1.clock = P.clock + 1:=by rw [heq]
 have hmem : (P.step i t).1.mem = P.mem.stampsNew (P.clock + 1) t.work.made:=by rw [heq]
 have hts : (P.step i t).1.ts = P.ts.set i { t with work:={ t.work with ans:={ did:=true,stamp:=P.clock + 1 },next:=10 } }:=by rw [heq]
 obtain ⟨g1,g2,g3,g4⟩:=stamp_e (P.clock + 1) h.wm f12;have hsn : P.mem.stampsNew (P.clock + 1) t.work.made = P.mem.stamp n false (P.clock + 1):=by
  rw [f1];show (P.mem.stampNew n (P.clock + 1)) = _;unfold PMem.stampNew;rw [stamp_no g2]
 rw [hsn] at hmem;have hnd : ∀ x,(P.step i t).1.mem.node x = P.mem.node x:=fun x=>by rw [hmem]; exact node_ns g1 x
 have hve:=h.veStep ht hb;have hR' : nextR Rt P t (P.clock + 1) = shPut (Rt P.clock) t.work.key t.work.value:=by
  unfold nextR shNew;rw [if_pos rfl,hupd,if_pos rfl,if_pos hk]
 have hmn : ∀ x,x ∈ t.work.made ↔ x = n:=fun x=>by rw [f1]; simp
 have hV' : nextV Vt P t (P.clock + 1) = fun x=>Vt P.clock x\/x = n:=by
  unfold nextV; rw [if_pos rfl,if_neg (by omega)]
  funext x
  rw [hmn]
 have hnV : ¬ Vt P.clock n:=by
  intro hv;obtain ⟨s,y,q1,_⟩:=hV.now.g n (.inr hv);exact h.ve8 ht q1 hfn
 have hstn : t.work.stand≠n:=fun e=>f5 (e ▸ m1)
 refine hV.tookRest h ht hb hck ?_ ?_
 ·rw [hR',hV'];have now:=hV.now;have nre : ∀ x,Vt P.clock x->¬ Re P.mem x:=fun x hx hr=>by
   have:=(now.d x hx).2.2.2 hr
   have:=(h.n.mr x hr).2.2
   omega
  have top1 : ∀ x d,VE (P.step i t).1.mem (P.step i t).1.ts x (P.clock + 1) d->(x = t.work.stand/\d = n)\/(x = n/\d = t.work.ahead):=by
   rintro x d (q | ⟨⟨j,u,hj,hu⟩,hd⟩)
   ·rw [hmem] at q;rcases (g4 x _ d).1 q with q | ⟨q1,_,q3⟩
    ·have:=(h.e.ms x _ d q).2.2.2.1; omega
    ·exact .inr ⟨q1,q3⟩
   ·left;rw [hts,List.getElem?_set] at hj;by_cases e : i = j
    ·subst e;simp [hi] at hj; subst hj;have hx : t.work.stand = x:=hu.2.2.2.2.1;refine ⟨hx.symm,?_⟩;rw [hmem,<- hx,g3,if_neg hstn,f10] at hd;injection hd with hd; exact hd.symm
    ·rw [if_neg e] at hj
     have:=((h.th j u hj).s9 hu.1 hu.2.2.1 hu.2.2.2.1).2.2.1
     rw [hu.2.2.2.2.2] at this; omega
  have hnew : VE (P.step i t).1.mem (P.step i t).1.ts t.work.stand (P.clock + 1) n:=by
   refine .inr ⟨?_,?_⟩
   ·rw [hts];exact Ex.new ht ⟨hb,.inl hk,by show 9<=10; omega,by show 10<=11; omega,rfl,rfl⟩
   ·rw [hmem,g3,if_neg hstn]; exact f10
  have hnew2 : VE (P.step i t).1.mem (P.step i t).1.ts n (P.clock + 1) t.work.ahead:=by
   left; rw [hmem]; exact (g4 _ _ _).2 (.inr ⟨rfl,rfl,rfl⟩)
  have non : ∀ s d,¬ VE P.mem P.ts n s d:=fun s d q=>h.ve8 ht q hfn
  refine ⟨?_,?_,?_,?_,Srt.put now.srt _ _⟩
  ·intro p;rw [mem_shPut,now.a];simp only [Ky,hnd];constructor
   ·rintro (⟨⟨x,hx,rfl⟩,_⟩ | q)
    ·exact ⟨x,.inl hx,rfl⟩
    ·exact ⟨n,.inr rfl,by rw [q,hval]; show _ = (Ky P.mem n,_); rw [f7]⟩
   ·rintro ⟨x,hx | hx,rfl⟩
    ·exact .inl ⟨⟨x,hx,rfl⟩,fa _ ((now.a _).2 ⟨x,hx,rfl⟩)⟩
    ·right;rw [hx,hval];show (Ky P.mem n,_) = _;rw [f7]
  ·intro x y hx hy e;simp only [Ky,hnd] at e;rcases hx with hx | hx
   ·rcases hy with hy | hy
    ·exact now.b x y hx hy e
    ·exfalso;refine fa _ ((now.a _).2 ⟨x,hx,rfl⟩) ?_;show Ky P.mem x = _;rw [hy] at e;rw [<- f7]; exact e
   ·rcases hy with hy | hy
    ·exfalso;refine fa _ ((now.a _).2 ⟨y,hy,rfl⟩) ?_;show Ky P.mem y = _;rw [hx] at e;rw [<- f7]; exact e.symm
    ·rw [hx,hy]
  ·intro x hx;simp only [Us,Re,Ra,hnd];rcases hx with hx | hx
   ·obtain ⟨q1,q2,q3,_⟩:=now.d x hx;exact ⟨q1,q2,q3,fun hr=>absurd hr (nre x hx)⟩
   ·rw [hx];refine ⟨f4,f2,f3,fun hr=>?_⟩
    have:=(h.n.mr n hr).1
    simp only [De] at this; rw [f6] at this; cases this
  ·intro x hx;simp only [Lt,Ky,hnd];by_cases e : x = t.work.stand
   ·subst e;refine ⟨P.clock + 1,n,hnew,Int.le_refl _,?_,.inr (.inr rfl),?_,?_⟩
    ·intro s' d' hv hs;rcases hve.fr _ _ _ hv with q | q
     ·have:=(h.ve_le q).2; left; omega
     ·right;rw [q] at hv;rcases top1 _ _ hv with z | z
      ·exact ⟨q,z.2⟩
      ·exact absurd z.1 hstn
    ·rcases hsk with q | q
     ·exact .inl q
     ·right;show Ky P.mem _ < Ky P.mem n;rw [f7]; exact q
    ·intro p hp h0;rw [mem_shPut] at hp;refine ⟨f3,?_⟩;show Ky P.mem n<=p.1;rw [f7];rcases hp with ⟨hp,_⟩ | hp
     ·have:=(hsrow p hp h0).2; omega
     ·rw [hp]; exact Int.le_refl _
   ·by_cases en : x = n
    ·subst en;refine ⟨P.clock + 1,t.work.ahead,hnew2,Int.le_refl _,?_,?_,.inr (by show Ky P.mem x < Ky P.mem _; rw [f7]; exact hlt),?_⟩
     ·intro s' d' hv hs;rcases hve.fr _ _ _ hv with q | q
      ·exact absurd q (non s' d')
      ·right;rw [q] at hv;rcases top1 _ _ hv with z | z
       ·exact absurd z.1 e
       ·exact ⟨q,z.2⟩
     ·rcases hah with q | q
      ·exact .inl q
      ·exact .inr (.inl q)
     ·intro p hp h0;have h0' : t.work.key < p.1:=by
       rcases h0 with q | q
       ·exact absurd q f2
       ·have q' : Ky P.mem x < p.1:=q;rw [f7] at q'; exact q'
      rw [mem_shPut] at hp;rcases hp with ⟨hp,_⟩ | hp
      ·exact hsrow p hp (by rcases hsk with q | q; exact .inl q; right; omega)
      ·rw [hp] at h0'; simp only at h0'; omega
    ·have hx' : x = 0\/Vt P.clock x:=by
      rcases hx with q | q | q
      ·exact .inl q
      ·exact .inr q
      ·exact absurd q en
     obtain ⟨s,y,k1,k2,k3,k4,k5,k6⟩:=now.g x hx';refine ⟨s,y,hve.to x s y k1,by omega,?_,?_,k5,?_⟩
     ·intro s' d' hv hs;rcases hve.fr _ _ _ hv with q | q
      ·exact k3 s' d' q (h.ve_le q).2
      ·rw [q] at hv;rcases top1 _ _ hv with z | z
       ·exact absurd z.1 e
       ·exact absurd z.1 en
     ·rcases k4 with q | q
      ·exact .inl q
      ·exact .inr (.inl q)
     ·intro p hp h0;rw [mem_shPut] at hp;rcases hp with ⟨hp,_⟩ | hp
      ·exact k6 p hp h0
      ·-- the new key lies behind the stand,and the stand behind x
       rw [hp] at h0 ⊢;simp only at h0 ⊢;show y≠1/\Ky P.mem y<=t.work.key;have h0' : x = 0\/Ky P.mem x < t.work.key:=h0;by_cases hs0 : t.work.stand = 0
       ·have hx0 : x≠0:=fun q=>e (by rw [q,hs0])
        have hvx:=hx'.resolve_left hx0
        have:=(hsrow _ ((now.a _).2 ⟨x,hvx,rfl⟩) (.inl hs0)).2
        have:=h0'.resolve_left hx0
        simp only at *;omega
       ·have hvs:=hst.resolve_left hs0;have hps : (Ky P.mem t.work.stand,(P.mem.node t.work.stand).value) ∈ Rt P.clock:=(now.a _).2 ⟨_,hvs,rfl⟩;have hsk':=hsk.resolve_left hs0;by_cases hx0 : x = 0
        ·have:=k6 _ hps (.inl hx0)
         exact ⟨this.1,by have:=this.2; simp only at this; omega⟩
        ·have hvx:=hx'.resolve_left hx0;have h0'':=h0'.resolve_left hx0;rcases (show Ky P.mem x < Ky P.mem t.work.stand\/Ky P.mem x = Ky P.mem t.work.stand\/Ky P.mem t.work.stand < Ky P.mem x by omega) with q | q | q
         ·have:=k6 _ hps (.inr q)
          exact ⟨this.1,by have:=this.2; simp only at this; omega⟩
         ·exact absurd (now.b x _ hvx hvs q) e
         ·exfalso
          have:=(hsrow _ ((now.a _).2 ⟨x,hvx,rfl⟩) (.inr q)).2
          simp only at this;omega
 ·intro x;rw [hV'];show (Vt P.clock x\/x = n) ↔ _;rw [hV.set,hts];have hrem : Ex (P.ts.set i { t with work:={ t.work with ans:={ did:=true,stamp:=P.clock + 1 },next:=10 } }) (Removing x) ↔ Ex P.ts (Removing x):=by
   refine ex_iff ht ⟨?_,?_⟩
   ·rintro ⟨_,q,_⟩;have : t.work.kind = 2:=q;omega
   ·rintro ⟨_,q,_⟩; omega
  have hfr : Ex (P.ts.set i { t with work:={ t.work with ans:={ did:=true,stamp:=P.clock + 1 },next:=10 } }) (Fresh10 x) ↔ Ex P.ts (Fresh10 x)\/x = n:=by
   constructor
   ·rintro ⟨j,u,hj,hu⟩;rw [List.getElem?_set] at hj;by_cases e : i = j
    ·subst e; simp [hi] at hj; subst hj; exact .inr ((hmn x).1 hu.2.2.2)
    ·rw [if_neg e] at hj; exact .inl ⟨j,u,hj,hu⟩
   ·rintro (q | q)
    ·exact q.set ht (fun r=>by have:=r.2.2.1; omega)
    ·exact Ex.new ht ⟨hb,hk,rfl,(hmn x).2 q⟩
  rw [hrem,hfr];exact or_assoc
theorem InvV.step (hV : InvV C Rt Vt P) (h : Inv C P) (ht : P.ts[i]? = some t) (hb : t.busy = true) :
  ((P.step i t).1.clock = P.clock/\InvV (nextC C t) Rt Vt (P.step i t).1) \/
  (t.work.next = 8/\(t.work.kind = 1\/t.work.kind = 2)/\¬ P.limit<=P.clock/\(P.step i t).1.clock = P.clock + 1/\InvV (nextC C t) (nextR Rt P t) (nextV Vt P t) (P.step i t).1/\shUpd (Rt P.clock) t.work.kind t.work.key = true):=by
 obtain ⟨t',hto⟩:=h.goTo ht hb;by_cases hc : t.work.next = 8/\¬ P.limit<=P.clock/\(t.work.kind = 1\/t.work.kind = 2)
 ·right;have hck:=hto.ck;rw [if_pos hc] at hck;refine ⟨hc.1,hc.2.2,hc.2.1,hck,?_⟩;rw [nextC_ne (by omega)];rcases hc.2.2 with hk | hk
  ·obtain ⟨q1,q2,_⟩:=hV.tookI h ht hb hc.1 hc.2.1 hk; exact ⟨q1,q2⟩
  ·obtain ⟨q1,q2,_⟩:=hV.tookR h ht hb hc.1 hc.2.1 hk; exact ⟨q1,q2⟩
 ·left;have hck:=hto.ck;rw [if_neg hc] at hck;exact ⟨hck,hV.still h ht hb hck⟩
end
end
section
def st (P : PSt) (i : Nat) (t : PThread) (M : PMem) (c : Int) (sl : Int) (k : PWork) : PSt:={ P with mem:=M,clock:=c,ts:=P.ts.set i { t with busy:=true,slot:=sl,work:=k } }
section
variable {P : PSt} {i : Nat} {t : PThread} {M : PMem} {c sl : Int} {k : PWork}
end
end
section
abbrev Spot3:=Nat × Int × Int
section
variable {M : PMem} {P : PSt} {i : Nat} {t : PThread} {c sl : Int} {k : PWork}
theorem hasNode_of {x : Nat} {nd : PNode} (h : M.ns[x]? = some nd) : M.hasNode x = true:=by
 have:=(List.getElem?_eq_some_iff.1 h).1
 unfold PMem.hasNode;rw [isIn_iff]; omega
theorem node_of {x : Nat} {nd : PNode} (h : M.ns[x]? = some nd) : M.node x = nd:=by
 unfold PMem.node;rw [if_pos (hasNode_of h)];simp [h]
end
end
section
section
variable {M M1 : PMem} {P : PSt} {i : Nat} {t : PThread} {c sl : Int} {k : PWork} {g : Nat->PNode->PNode}
end
end
end Go.Proofs.YtfccelbmacjifabGreat
