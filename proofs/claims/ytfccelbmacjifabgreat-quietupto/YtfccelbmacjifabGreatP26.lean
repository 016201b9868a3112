import Derived.Test.YtfccelbmacjifabGreatP0
import Derived.Test.YtfccelbmacjifabGreatP25
import Derived.Test.YtfccelbmacjifabGreatP24
import Derived.Test.YtfccelbmacjifabGreatP23
set_option linter.unusedSimpArgs false
set_option maxRecDepth 100000
set_option maxHeartbeats 4000000
namespace Go.Proofs.YtfccelbmacjifabGreat
section
section
variable {M M1 : PMem} {g : Nat->PNode->PNode}
theorem hasEntry_of {q : Nat} {e : PEntry} (h : M.es[q]? = some e) : M.hasEntry q = true:=by
 have:=(List.getElem?_eq_some_iff.1 h).1
 unfold PMem.hasEntry;rw [isIn_iff]; omega
theorem ent_of {q : Nat} {e : PEntry} (h : M.es[q]? = some e) : M.ent q = e:=by
 unfold PMem.ent;simp [h]
theorem pend_ok {n q : Nat} {nd : PNode} {e : PEntry} (hq : M.freeEntry = q) (he : M.es[q]? = some e) (hn : M.ns[n]? = some nd) (hl : nd.links = 1) (to : Int) : M.pend n false to = { M with es:=M.es.set q ⟨true,true,n,false,to,0⟩ }:=by
 unfold PMem.pend PMem.hasLink;rw [hq,hasEntry_of he,hasNode_of hn,node_of hn,hl];simp only [Bool.true_and];rw [if_pos (by decide)];unfold PMem.setE
 simp
theorem addLink_ok {n q : Nat} {nd : PNode} {e : PEntry} (hq : M.freeEntry = q) (he : M.es[q]? = some e) (hn : M.ns[n]? = some nd) (hl : nd.links = 0) (to : Int) : M.addLink n to = { ns:=M.ns.set n (linked false to nd),es:=M.es.set q ⟨true,true,n,false,to,0⟩ }:=by
 have hlt:=(List.getElem?_eq_some_iff.1 hn).1;have hmod : M.modN n (linked false to) = { M with ns:=M.ns.set n (linked false to nd) }:=by
  unfold PMem.modN;rw [if_pos (hasNode_of hn)]
  congr 1
  apply List.ext_getElem?;intro j;rw [List.getElem?_modify];by_cases hj : n = j
  ·subst hj; rw [List.getElem?_set_self hlt,hn]; simp
  ·simp [hj]
 unfold PMem.addLink;rw [hasNode_of hn,hq];rw [if_pos (by simp),node_of hn,hl];simp only;rw [hmod]
 have:=pend_ok (M:={ M with ns:=M.ns.set n (linked false to nd) }) (n:=n) (nd:=linked false to nd) hq he (by simp [hlt]) (by show nd.links + 1 = 1; rw [hl]) to
 rw [this]
theorem stamp_ok {n q : Nat} {e : PEntry} (hp : M.pending n false = q) (he : M.es[q]? = some e) (s : Int) : M.stamp n false s = { M with es:=M.es.set q { e with pending:=false,stamp:=s } }:=by
 unfold PMem.stamp;rw [hp,hasEntry_of he,ent_of he];simp [PMem.setE]
theorem stamp_none {n : Int} {s : Bool} (hp : M.pending n s = -1) (st : Int) : M.stamp n s st = M:=by
 unfold PMem.stamp;rw [hp];rw [if_neg];unfold PMem.hasEntry;rw [isIn_iff]; omega
end
end
section
section
variable {M M1 : PMem} {P : PSt} {i : Nat} {t : PThread} {c sl : Int} {k : PWork}
end
end
section
section
variable {M M1 : PMem} {P : PSt} {i : Nat} {t : PThread} {c sl : Int} {k : PWork} {g : Nat->PNode->PNode}
end
end
section
section
variable {M M1 : PMem} {P : PSt} {i : Nat} {t : PThread} {c sl : Int} {k : PWork} {g : Nat->PNode->PNode}
end
end
section
section
variable {M M1 : PMem} {P : PSt} {i : Nat} {t : PThread} {c sl : Int} {k : PWork} {g : Nat->PNode->PNode}
end
end
section
section
variable {M M1 : PMem} {P : PSt} {i : Nat} {t : PThread} {c sl : Int} {k : PWork} {g : Nat->PNode->PNode}
end
end
section
section
variable {M M' : PMem} {c : Int}
end
end
section
section
variable {M M' : PMem} {c : Int}
end
end
section
section
variable {M M' : PMem} {c : Int} {ch : List Spot3}
end
end
section
section
variable {M : PMem} {P : PSt} {i : Nat} {t : PThread} {c sl : Int} {k : PWork}
end
end
section
section
variable {M : PMem} {P : PSt} {i : Nat} {t : PThread} {c sl : Int} {k : PWork}
end
end
section
theorem least_fold : ∀ (l : List (Int × Int)) (m : Int),l.foldl (fun m p=>if p.1 < m then p.1 else m) m<=m/\∀ p ∈ l,l.foldl (fun m p=>if p.1 < m then p.1 else m) m<=p.1
 | [],m=>⟨Int.le_refl _,by intro p hp; cases hp⟩
 | x :: r,m=>by
  rw [List.foldl_cons];obtain ⟨h1,h2⟩:=least_fold r (if x.1 < m then x.1 else m);have h3 : (if x.1 < m then x.1 else m)<=m/\(if x.1 < m then x.1 else m)<=x.1:=by split <;> omega
  refine ⟨by omega,?_⟩;intro p hp;rcases List.mem_cons.1 hp with rfl | hp
  ·omega
  ·exact h2 p hp
theorem great_fold : ∀ (l : List (Int × Int)) (m b : Int),m<=b->(∀ p ∈ l,p.2<=b)->m<=l.foldl (fun m p=>if p.2 > m then p.2 else m) m/\(∀ p ∈ l,p.2<=l.foldl (fun m p=>if p.2 > m then p.2 else m) m)/\l.foldl (fun m p=>if p.2 > m then p.2 else m) m<=b
 | [],m,b,hm,_=>⟨Int.le_refl _,(by intro p hp; exact nomatch hp),hm⟩
 | x :: r,m,b,hm,hb=>by
  rw [List.foldl_cons];have hx:=hb x (by simp);have h3 : m<=(if x.2 > m then x.2 else m)/\x.2<=(if x.2 > m then x.2 else m)/\(if x.2 > m then x.2 else m)<=b:=by split <;> omega
  obtain ⟨h1,h2,h4⟩:=great_fold r (if x.2 > m then x.2 else m) b h3.2.2 (fun p hp=>hb p (by simp [hp]));refine ⟨by omega,?_,h4⟩;intro p hp;rcases List.mem_cons.1 hp with rfl | hp
  ·omega
  ·exact h2 p hp
theorem hull_lists (spans ps : List (Int × Int)) (lo hi : Int) (h : ∀ p ∈ spans,lo<=p.1/\p.2<=hi) : spanLists spans (ps.filter (fun q=>isIn q.1 lo hi)) = spanLists spans ps:=by
 unfold spanLists;apply List.map_congr_left;intro p hp;rw [List.filter_filter];apply List.filter_congr;intro q _;obtain ⟨h1,h2⟩:=h p hp;unfold inSpan;by_cases hq : isIn q.1 p.1 p.2 = true
 ·have:=isIn_iff.1 hq
  rw [hq,isIn_true (by omega)]; rfl
 ·simp [hq]
theorem spansOk_mem : ∀ {l : List (Int × Int)},spansOkX l = true->∀ p ∈ l,p.2<=1099511627776
 | [],_,p,hp=>by cases hp
 | x :: r,h,p,hp=>by
  simp only [spansOkX,Bool.and_eq_true,isIn_iff] at h;rcases List.mem_cons.1 hp with rfl | hp
  ·have:=h.2.1.2; omega
  ·exact spansOk_mem h.2.2.2 p hp
theorem hull_answer {spans : List (Int × Int)} (hs : spansOkX spans = true) (ps : List (Int × Int)) (c : Int) : answerOf spans (ps.filter (fun q=>isIn q.1 (leastLo spans) (greatestHi spans))) c = answerOf spans ps c/\greatestHi spans<=1099511627776:=by
 obtain ⟨_,h2,h3⟩:=great_fold spans 0 1099511627776 (by omega) (spansOk_mem hs);have h1:=(least_fold spans (2 ^ 40)).2;refine ⟨?_,h3⟩;unfold answerOf;rw [hull_lists spans ps (leastLo spans) (greatestHi spans) (fun p hp=>⟨h1 p hp,h2 p hp⟩)]
section
variable {a b : List Spot3} {key : Int}
end
end
section
section
variable {C : Int->Prop} {Rt : Int->List (Int × Int)} {Vt : Int->Int->Prop} {i j : Nat} {t t' : PThread} {P : PSt} {x s d : Int} {ts : List PThread}
theorem InvV.sweep (hV : InvV C Rt Vt P) (h : Inv C P) : InvV C Rt Vt P.doSweep.1:=by
 obtain ⟨now,set,fv,rd⟩:=hV;unfold PSt.doSweep;simp only;split
 ·exact ⟨now,set,fv,rd⟩
 ·next hm0 =>
  split
  ·split <;> exact ⟨now,set,fv,rd⟩
  ·next hl =>
   -- all have been looked at
   have pass : ∀ (i : Nat) u,P.ts[i]? = some u->Rdr u->(P.sweep.hasTime = true/\P.sweep.time<=u.work.time)\/P.sweep.clock<=u.work.time:=by
    intro i u hu hr;have hil:=(List.getElem?_eq_some_iff.1 hu).1;exact ((h.th i u hu).tm hr.1 hr.2.2.1).2 (by omega)
   split
   ·have he : ∀ e,e = (if (P.sweep.hasTime && decide (P.sweep.time < P.sweep.clock)) = true then P.sweep.time else P.sweep.clock)->e<=P.sweep.clock/\(P.sweep.hasTime = true->e<=P.sweep.time):=by
     rintro e rfl;split
     ·next hh=>simp at hh; exact ⟨by omega,fun _=>Int.le_refl _⟩
     ·next hh =>
      refine ⟨Int.le_refl _,fun e=>?_⟩;simp [e] at hh; exact hh
    have he:=he _ rfl;generalize (if (P.sweep.hasTime && decide (P.sweep.time < P.sweep.clock)) = true then P.sweep.time else P.sweep.clock) = e at *;obtain ⟨g1,g2,g3,g4⟩:=drop_ok h.wm e;have hnd:=node_ns g1;generalize P.mem.drop e = M1 at *;have ver : ∀ R V T,Ver P.mem P.ts R V T->e<=T->Ver M1 P.ts R V T:=by
     intro R V T hR hT;refine hR.mono (fun x _=>by simp only [Ky]; rw [hnd]) ?_ ?_ ?_
     ·intro x hx;obtain ⟨d1,_,_,d4⟩:=hR.d x hx;simp only [Us,Re,Ra]; rw [hnd];exact ⟨rfl,d1,d4⟩
     ·rintro x s d _ (q | ⟨q1,q2⟩) hs hg
      ·refine .inl ((g4 x s d).2 ⟨q,?_⟩);intro s' d' q' hlt hle
       have:=hg s' d' (.inl q') (by omega)
       omega
      ·exact .inr ⟨q1,by rw [g3]; exact q2⟩
     ·rintro x s d _ (q | ⟨q1,q2⟩) _
      ·exact .inl ((g4 x s d).1 q).1
      ·exact .inr ⟨q1,by rw [g3] at q2; exact q2⟩
    refine ⟨ver _ _ _ now (by have:=h.o.sc; show e<=P.clock; omega),set,?_,?_⟩
    ·intro j u hj x hf;show (M1.node x).value = _;rw [hnd]; exact fv j u hj x hf
    ·intro j u hj hr;refine ver _ _ _ (rd j u hj hr) ?_;rcases pass j u hj hr with q | q
     ·have:=he.2 q.1; omega
     ·omega
   ·next hne =>
    have hre : ∀ x,InSw P.sweep x->Re P.mem x/\De P.mem x/\¬ C x/\x≠0/\x≠1:=by
     intro x hx;have h1:=(h.o.sw x hx).1;obtain ⟨h2,h3,_⟩:=h.n.mr x h1;refine ⟨h1,h2,h3,?_,?_⟩
     ·rintro rfl; exact h3 h.n.a0.1
     ·rintro rfl; simp only [De] at h2; rw [h.n.a1.2.2.2.1] at h2; cases h2
    obtain ⟨g1,g2,g3⟩:=freesIf_ok P.sweep.hasTime P.sweep.time P.sweep.retired P.mem h.wm (by
     intro n hn;obtain ⟨_,h2,_,h4,h5⟩:=hre (n : Int) ⟨n,hn,rfl⟩;exact ⟨hasN_used (h.n.md _ h2).1,h4,h5⟩)
    generalize P.mem.freesIf P.sweep.hasTime P.sweep.time P.sweep.retired = M1 at *;have ver : ∀ R V T,Ver P.mem P.ts R V T->(∀ x,InSw P.sweep x->(P.sweep.hasTime = true->Ra P.mem x < P.sweep.time)->Ra P.mem x<=T)->Ver M1 P.ts R V T:=by
     intro R V T hR hT;have stay : ∀ x,(x = 0\/x = 1\/V x)->¬ Gone P.mem P.sweep.hasTime P.sweep.time P.sweep.retired x:=by
      rintro x hx ⟨hin,hc⟩;obtain ⟨q1,q2,q3,q4,q5⟩:=hre x hin;rcases hx with hx | hx | hx
      ·exact q4 hx
      ·exact q5 hx
      ·have h1:=(hR.d x hx).2.2.2 q1;have h2:=hT x hin hc;omega
     have nd : ∀ x,(x = 0\/x = 1\/V x)->M1.node x = P.mem.node x:=fun x hx=>((g3 x).2 (stay x hx)).1
     refine hR.mono (fun x hx=>by simp only [Ky]; rw [nd x hx]) ?_ ?_ ?_
     ·intro x hx;obtain ⟨d1,_,_,d4⟩:=hR.d x hx;simp only [Us,Re,Ra]; rw [nd x (.inr (.inr hx))];exact ⟨rfl,d1,d4⟩
     ·intro x s d hx hv _ _;have hst:=(g3 x).2 (stay x (by rcases hx with q | q; exact .inl q; exact .inr (.inr q)));rcases hv with q | ⟨q1,q2⟩
      ·exact .inl ((hst.2.2 s d).2 q)
      ·exact .inr ⟨q1,by rw [hst.2.1]; exact q2⟩
     ·intro x s d hx hv _;have hst:=(g3 x).2 (stay x (by rcases hx with q | q; exact .inl q; exact .inr (.inr q)));rcases hv with q | ⟨q1,q2⟩
      ·exact .inl ((hst.2.2 s d).1 q)
      ·exact .inr ⟨q1,by rw [hst.2.1] at q2; exact q2⟩
    refine ⟨ver _ _ _ now ?_,set,?_,?_⟩
    ·intro x hx _
     have:=(h.o.sw x hx).2
     have:=h.o.sc.1
     show _<=P.clock;omega
    ·intro j u hj x hf;show (M1.node x).value = _;have hng : ¬ Gone P.mem P.sweep.hasTime P.sweep.time P.sweep.retired x:=by
      rintro ⟨hin,_⟩;have hd:=(hre x hin).2.1;obtain ⟨f1,f2,f3,f4⟩:=hf;obtain ⟨n,g1',_,_,_,_,g6,_⟩:=(h.th j u hj).f8 f1 f2 f3;rw [mem_one g1' f4] at hd;simp only [De] at hd; rw [g6] at hd; cases hd
     rw [((g3 x).2 hng).1]; exact fv j u hj x hf
    ·intro j u hj hr;refine ver _ _ _ (rd j u hj hr) ?_;intro x hx hc;have h1:=(h.o.sw x hx).2;rcases pass j u hj hr with q | q
     ·have:=hc q.1; omega
     ·omega
def readAns (R : List (Int × Int)) (k : PWork) : BAns:=if k.kind = 3 then { stamp:=k.time,did:=(shVal R k.key).2,value:=(shVal R k.key).1 } else answerOf k.spans R k.time
structure RPos (M : PMem) (R : List (Int × Int)) (V : Int->Prop) (t : PThread) : Prop where
 sp : t.busy = true->t.work.kind = 4->spansOkX t.work.spans = true
 no : t.busy = true->t.work.kind = 4->t.work.next<=3->t.work.noted = []
 lo : t.busy = true->t.work.kind = 3->t.work.next = 4->t.work.stand = 0\/V t.work.stand
 sc : t.busy = true->t.work.kind = 4->t.work.next = 4->∃ x,t.work.links = [(x,false)]/\(x = 0\/V x)/\t.work.noted = R.filter (fun p=>isIn p.1 (leastLo t.work.spans) (greatestHi t.work.spans) && decide (x≠0/\p.1<=Ky M x))
 an : t.busy = true->(t.work.kind = 3\/t.work.kind = 4)->t.work.next = 13->t.work.ans = readAns R t.work
def InvR (Rt : Int->List (Int × Int)) (Vt : Int->Int->Prop) (P : PSt) : Prop:=∀ (i : Nat) t,P.ts[i]? = some t->RPos P.mem (Rt t.work.time) (Vt t.work.time) t
theorem filt_next {q : Int × Int->Bool} {a b v : Int} {z : Bool} : ∀ {R : List (Int × Int)},Srt R->(b,v) ∈ R->(∀ p ∈ R,(z = true\/a < p.1)->b<=p.1)->(z = true\/a < b) ->
  R.filter (fun p=>q p && decide (p.1<=b)) = R.filter (fun p=>q p && (!z && decide (p.1<=a))) ++ (if q (b,v) then [(b,v)] else [])
 | [],_,h,_,_=>by cases h
 | p :: R,hs,hm,hg,hab=>by
  have hs' : Srt R:=(List.pairwise_cons.1 hs).2;have hlt : ∀ r ∈ R,p.1 < r.1:=(List.pairwise_cons.1 hs).1;rcases List.mem_cons.1 hm with e | hm'
  ·-- it is the first
   subst e;have e1 : R.filter (fun p=>q p && decide (p.1<=b)) = []:=by
    rw [List.filter_eq_nil_iff];intro r hr
    have:=hlt r hr
    simp only at this
    simp; intro _; omega
   have e2 : R.filter (fun p=>q p && (!z && decide (p.1<=a))) = []:=by
    rw [List.filter_eq_nil_iff];intro r hr
    have:=hlt r hr
    simp only at this;rcases hab with hz | hab
    ·simp [hz]
    ·simp; intro _ _; omega
   have e3 : (q (b,v) && (!z && decide (b<=a))) = false:=by
    rcases hab with hz | hab
    ·simp [hz]
    ·simp; intro _ _; omega
   rw [List.filter_cons,List.filter_cons,e1,e2];simp only [e3,Int.le_refl,decide_true,Bool.and_true];split <;> rfl
  ·have hpb : p.1 < b:=hlt _ hm';have ih:=filt_next (q:=q) (a:=a) (b:=b) (v:=v) (z:=z) hs' hm' (fun r hr=>hg r (by simp [hr])) hab;have hz : z = false/\p.1<=a:=by
    rcases Decidable.em (z = true\/a < p.1) with hh | hh
    ·have:=hg p (by simp) hh; omega
    ·simp only [not_or,Bool.not_eq_true] at hh; exact ⟨hh.1,by omega⟩
   rw [List.filter_cons,List.filter_cons,ih];have e1 : decide (p.1<=b) = true:=decide_eq_true (by omega);have e2 : decide (p.1<=a) = true:=decide_eq_true hz.2;rw [e1,e2,hz.1];simp only [Bool.and_true,Bool.not_false];split <;> rfl
end
end
section
section
variable {C : Int->Prop} {Rt Rt' : Int->List (Int × Int)} {Vt Vt' : Int->Int->Prop} {i j : Nat} {t t' : PThread} {P : PSt} {x s d : Int} {ts : List PThread}
theorem Inv.ledIs (h : Inv C P) {R : List (Int × Int)} {V : Int->Prop} {T : Int} (hR : Ver P.mem P.ts R V T) (hx : x = 0\/V x) (hp : Pd P.mem x = []) :
  (P.mem.ledTo x false T = 1\/V (P.mem.ledTo x false T))/\Lt P.mem x (P.mem.ledTo x false T)/\∀ p ∈ R,(x = 0\/Ky P.mem x < p.1)->P.mem.ledTo x false T≠1/\Ky P.mem (P.mem.ledTo x false T)<=p.1:=by
 obtain ⟨s,y,g1,g2,g3,g4,g5,g6⟩:=hR.g x hx;have hsd : ∀ s d,VE P.mem P.ts x s d->Sd P.mem x s d:=by
  rintro s d (q | ⟨_,q⟩)
  ·exact q
  ·rw [hp] at q; cases q
 have g1':=hsd _ _ g1;have hy : P.mem.ledTo x false T = y:=by
  rcases ledTo_ok (M:=P.mem) (n:=x) (time:=T) (fun s d hh=>(h.e.ms x s d hh).2.2.1) with ⟨_,q⟩ | ⟨s2,q1,q2,q3⟩
  ·exact absurd g2 (q s y g1')
  ·have:=q3 s y g1' g2
   rcases g3 s2 _ (.inl q1) q2 with z | z
   ·omega
   ·exact z.2
 rw [hy]; exact ⟨g4,g5,g6⟩
theorem readAns3 (R : List (Int × Int)) (k : PWork) (h : k.kind = 3) : readAns R k = { stamp:=k.time,did:=(shVal R k.key).2,value:=(shVal R k.key).1 }:=by unfold readAns; rw [if_pos h]
theorem readAns4 (R : List (Int × Int)) (k : PWork) (h : k.kind≠3) : readAns R k = answerOf k.spans R k.time:=by unfold readAns; rw [if_neg h]
theorem RPos.upd {M : PMem} {R : List (Int × Int)} {V : Int->Prop} (h : t.busy = true->t.work.kind = 1\/t.work.kind = 2) : RPos M R V t :=
 ⟨fun b e=>by have:=h b; omega,fun b e=>by have:=h b; omega,fun b e=>by have:=h b; omega,fun b e=>by have:=h b; omega,fun b e=>by have:=h b; omega⟩
theorem InvR.step (hR : InvR Rt Vt P) (hV : InvV C Rt Vt P) (h : Inv C P) (ht : P.ts[i]? = some t) (hb : t.busy = true) (hold : ∀ T,T<=P.clock->Rt' T = Rt T/\Vt' T = Vt T) : InvR Rt' Vt' (P.step i t).1:=by
 obtain ⟨t',hto⟩:=h.goTo ht hb;have hi:=(List.getElem?_eq_some_iff.1 ht).1;have hT:=h.th i t ht;have hnx:=hT.nx hb;have hkd:=hT.kd hb;have hrd:=hT.rd hb;intro j u hj;rw [hto.ts,List.getElem?_set] at hj;by_cases e : i = j
 ·subst e;simp [hi] at hj; subst hj;by_cases hk : t.work.kind = 3\/t.work.kind = 4
  ·have hP:=hR i t ht;rcases (show t.work.next = 1\/t.work.next = 2\/t.work.next = 3\/t.work.next = 4\/t.work.next = 13 by have:=hrd hk; omega) with hn | hn | hn | hn | hn
   ·have hs : P.step i t = (P.setT i { t with slot:=1,work:={ t.work with next:=2 } },1):=by unfold PSt.step; simp only [hn]
    have ht' : t' = { t with slot:=1,work:={ t.work with next:=2 } }:=by
     have:=hto.ts
     rw [hs] at this;have h2 : (P.ts.set i { t with slot:=1,work:={ t.work with next:=2 } })[i]? = (P.ts.set i t')[i]?:=by rw [<- this]; rfl
     simpa [hi] using h2.symm
    rw [ht'];refine ⟨hP.sp,fun b k _=>hP.no b k (by omega),?_,?_,?_⟩
    ·intro _ _ q; exact absurd (show (2 : Nat) = 4 from q) (by omega)
    ·intro _ _ q; exact absurd (show (2 : Nat) = 4 from q) (by omega)
    ·intro _ _ q; exact absurd (show (2 : Nat) = 13 from q) (by omega)
   ·have hs : P.step i t = (P.setT i { t with work:={ t.work with time:=P.clock,next:=3 } },1):=by unfold PSt.step; simp only [hn]
    have ht' : t' = { t with work:={ t.work with time:=P.clock,next:=3 } }:=by
     have:=hto.ts
     rw [hs] at this;have h2 : (P.ts.set i { t with work:={ t.work with time:=P.clock,next:=3 } })[i]? = (P.ts.set i t')[i]?:=by rw [<- this]; rfl
     simpa [hi] using h2.symm
    rw [ht'];refine ⟨hP.sp,fun b k _=>hP.no b k (by omega),?_,?_,?_⟩
    ·intro _ _ q; exact absurd (show (3 : Nat) = 4 from q) (by omega)
    ·intro _ _ q; exact absurd (show (3 : Nat) = 4 from q) (by omega)
    ·intro _ _ q; exact absurd (show (3 : Nat) = 13 from q) (by omega)
   ·have hs : P.step i t = (P.setT i { t with slot:=2,work:=t.work.home },1):=by unfold PSt.step; simp only [hn]
    have ht' : t' = { t with slot:=2,work:=t.work.home }:=by
     have:=hto.ts
     rw [hs] at this;have h2 : (P.ts.set i { t with slot:=2,work:=t.work.home })[i]? = (P.ts.set i t')[i]?:=by rw [<- this]; rfl
     simpa [hi] using h2.symm
    rw [ht'];refine ⟨hP.sp,?_,fun _ _ _=>.inl rfl,?_,?_⟩
    ·intro _ _ q; exact absurd (show (4 : Nat)<=3 from q) (by omega)
    ·intro b k _;refine ⟨0,hT.lk hb k (by omega),.inl rfl,?_⟩;show t.work.noted = _;rw [hP.no hb k (by omega)]
     symm
     rw [List.filter_eq_nil_iff];intro p _
     simp
    ·intro _ _ q; exact absurd (show (4 : Nat) = 13 from q) (by omega)
   ·-- it reads a link
    have htm:=hT.tm hb (by omega);have hver:=hV.rd i t ht ⟨hb,hk,by omega,by omega⟩;obtain ⟨e1,e2⟩:=hold t.work.time htm.1;obtain ⟨x,h1,h2,h3,h4,h5⟩:=h.linkIs ht hb hn hk;have hsm:=step_mid (i:=i) (t:=t) P (by omega) (by omega);rw [if_pos hk] at hsm;unfold PSt.read at hsm;rw [h1] at hsm;simp only at hsm;by_cases hp : P.mem.hasPending x false = true
    ·rw [if_pos hp] at hsm;have ht' : t' = t:=by
      have:=hto.ts
      rw [hsm] at this;have h2 : P.ts[i]? = (P.ts.set i t')[i]?:=by rw [<- this]
      rw [ht] at h2;simpa [hi] using h2.symm
     rw [ht',hsm,e1,e2];exact hP
    ·rw [if_neg hp] at hsm;have hpd : Pd P.mem x = []:=by
      by_cases q : Pd P.mem x = []
      ·exact q
      ·exact absurd (hasPd_iff.2 q) hp
     have hmem : (P.step i t).1.mem = P.mem:=by rw [hsm]; rfl
     have hxv : x = 0\/Vt t.work.time x:=by
      rcases hk with hk | hk
      ·rw [h4 hk]; exact hP.lo hb hk hn
      ·obtain ⟨x',q1,q2,_⟩:=hP.sc hb hk hn;rw [h5 hk] at q1;simp at q1;rw [q1]; exact q2
     obtain ⟨l1,l2,l3⟩:=h.ledIs hver hxv hpd;generalize P.mem.ledTo x false t.work.time = y at *;have ht' : t' = { t with work:=(if t.work.kind = 3 then P.lookUp t.work y else P.scan t.work y) }:=by
      have:=hto.ts
      rw [hsm,setW_to P ht] at this;have h2 : (P.ts.set i { t with work:=(if t.work.kind = 3 then P.lookUp t.work y else P.scan t.work y) })[i]? = (P.ts.set i t')[i]?:=by rw [<- this]
      simpa [hi] using h2.symm
     rw [ht',hmem];rcases hk with hk | hk
     ·rw [if_pos hk];have hky:=hT.ky hb (by omega);have hxk:=(hT.xs hb (by omega) (by omega) (by omega)).2.2;rw [<- h4 hk] at hxk;unfold PSt.lookUp;have hps : P.isPassed y t.work.key = decide (Ky P.mem y < t.work.key):=by
       unfold PSt.isPassed; rw [if_neg (by rw [h.kind]; decide)]
      rw [hps];by_cases hlt : Ky P.mem y < t.work.key
      ·rw [if_pos (by simpa using hlt)];have hy1 : y≠1:=by rintro rfl; have:=h.n.a1.2.2.2.2.2; omega
       refine ⟨fun b k4=>absurd (show t.work.kind = 4 from k4) (by omega),fun b k4=>absurd (show t.work.kind = 4 from k4) (by omega),?_,fun b k4=>absurd (show t.work.kind = 4 from k4) (by omega),fun _ _ q=>absurd (show t.work.next = 13 from q) (by omega)⟩;intro _ _ _;show y = 0\/Vt' t.work.time y;rw [e2];exact .inr (l1.resolve_left hy1)
      ·rw [if_neg (by simpa using hlt)];refine ⟨fun b k4=>absurd (show t.work.kind = 4 from k4) (by omega),fun b k4=>absurd (show t.work.kind = 4 from k4) (by omega),fun _ _ q=>absurd (show (13 : Nat) = 4 from q) (by omega),fun b k4=>absurd (show t.work.kind = 4 from k4) (by omega),?_⟩;intro _ _ _;show (if Ky P.mem y = t.work.key then ({ stamp:=t.work.time,did:=true,value:=(P.mem.node y).value } : BAns) else { stamp:=t.work.time }) = readAns (Rt' t.work.time) _;rw [e1];refine Eq.trans ?_ (readAns3 _ _ hk).symm;show _ = ({ stamp:=t.work.time,did:=(shVal (Rt t.work.time) t.work.key).2,value:=(shVal (Rt t.work.time) t.work.key).1 } : BAns);by_cases hke : Ky P.mem y = t.work.key
       ·have hy1 : y≠1:=by rintro rfl; have:=h.n.a1.2.2.2.2.2; omega
        have hv:=l1.resolve_left hy1;have hm : (t.work.key,(P.mem.node y).value) ∈ Rt t.work.time:=(hver.a _).2 ⟨y,hv,by rw [hke]⟩;rw [if_pos hke,shVal_in hver.srt hm]
       ·have hno : ∀ p ∈ Rt t.work.time,p.1≠t.work.key:=by
         intro p hp q
         have:=(l3 p hp (by rcases hxk with z | z; exact .inl z; right; omega)).2
         omega
        rw [if_neg hke,shVal_out hno]
     ·rw [if_neg (show ¬ t.work.kind = 3 by omega)];have hli:=h5 hk;have hsp:=hP.sp hb hk;obtain ⟨x',q1,q2,q3⟩:=hP.sc hb hk hn;rw [hli] at q1;simp at q1;subst q1;have hhi:=hT.hi hb hk;have hl2 : ((P.mem.node y).links == 2) = false:=by
       rcases l1 with z | z
       ·rw [z,h.n.a1.2.2.1]; rfl
       ·have hu:=(hver.d y z).1;rcases h.o.us y hu with w | w | w | ⟨jj,uu,hjj,f1,f2,f3,f4⟩
        ·exact absurd w (hver.d y z).2.2.1
        ·rw [(h.n.mc y w).2.1]; rfl
        ·rw [(h.n.md y w).2]; rfl
        ·obtain ⟨n,g1,_,_,_,_,_,_,g8,_⟩:=(h.th jj uu hjj).f8 f1 f2 f3;rw [mem_one g1 f4,g8]; rfl
      unfold PSt.scan;simp only [hli,List.drop_one,List.tail_cons,List.append_nil];have hlw : P.linksWithin y (leastLo t.work.spans) (greatestHi t.work.spans) = if Ky P.mem y<=greatestHi t.work.spans then [(y,false)] else []:=by
       unfold PSt.linksWithin; rw [if_pos h.kind]
      rw [hlw,hl2];by_cases hle : Ky P.mem y<=greatestHi t.work.spans
      ·rw [if_pos hle,if_neg (by simp)];have hy1 : y≠1:=by rintro rfl; have:=h.n.a1.2.2.2.2.2; omega
       have hv:=l1.resolve_left hy1;have hy0 : y≠0:=(hver.d y hv).2.1;refine ⟨hP.sp,fun _ _ q=>absurd (show t.work.next<=3 from q) (by omega),fun _ k3=>absurd (show t.work.kind = 3 from k3) (by omega),?_,fun _ _ q=>absurd (show t.work.next = 13 from q) (by omega)⟩;intro _ _ _;refine ⟨y,rfl,?_,?_⟩
       ·show y = 0\/Vt' t.work.time y;rw [e2]; exact .inr hv
       ·show (if (!false && isIn (P.mem.node y).key (leastLo t.work.spans) (greatestHi t.work.spans)) = true then t.work.noted ++ [((P.mem.node y).key,(P.mem.node y).value)] else t.work.noted) = (Rt' t.work.time).filter (fun p=>isIn p.1 (leastLo t.work.spans) (greatestHi t.work.spans) && decide (y≠0/\p.1<=Ky P.mem y));rw [e1];have hm : (Ky P.mem y,(P.mem.node y).value) ∈ Rt t.work.time:=(hver.a _).2 ⟨y,hv,rfl⟩;have hnext:=filt_next (q:=fun p=>isIn p.1 (leastLo t.work.spans) (greatestHi t.work.spans)) (a:=Ky P.mem x) (b:=Ky P.mem y) (v:=(P.mem.node y).value) (z:=decide (x = 0)) hver.srt hm (by
         intro p hp hh;refine (l3 p hp ?_).2;rcases hh with z | z
         ·exact .inl (by simpa using z)
         ·exact .inr z) (by
         rcases l2 with z | z
         ·exact .inl (by simpa using z)
         ·exact .inr z)
        have hf1 : (Rt t.work.time).filter (fun p=>isIn p.1 (leastLo t.work.spans) (greatestHi t.work.spans) && decide (y≠0/\p.1<=Ky P.mem y)) = (Rt t.work.time).filter (fun p=>isIn p.1 (leastLo t.work.spans) (greatestHi t.work.spans) && decide (p.1<=Ky P.mem y)):=by
         congr 1; funext p; simp [hy0]
        have hf2 : t.work.noted = (Rt t.work.time).filter (fun p=>isIn p.1 (leastLo t.work.spans) (greatestHi t.work.spans) && (!decide (x = 0) && decide (p.1<=Ky P.mem x))):=by
         rw [q3]; congr 1; funext p;by_cases hx0 : x = 0 <;> simp [hx0]
        rw [hf1,hnext,<- hf2];simp only [Bool.not_false,Bool.true_and];show (if isIn (Ky P.mem y) (leastLo t.work.spans) (greatestHi t.work.spans) = true then t.work.noted ++ [(Ky P.mem y,(P.mem.node y).value)] else t.work.noted) = _;split
        ·rfl
        ·simp
      ·rw [if_neg hle,if_pos (show ([] : List (Int × Bool)).length = 0 from rfl)];refine ⟨hP.sp,fun _ _ q=>absurd (show (13 : Nat)<=3 from q) (by omega),fun _ k3=>absurd (show t.work.kind = 3 from k3) (by omega),fun _ _ q=>absurd (show (13 : Nat) = 4 from q) (by omega),?_⟩;intro _ _ _;have hnot : isIn (P.mem.node y).key (leastLo t.work.spans) (greatestHi t.work.spans) = false:=isIn_false (fun q=>hle q.2);show answerOf t.work.spans (if (!false && isIn (P.mem.node y).key (leastLo t.work.spans) (greatestHi t.work.spans)) = true then t.work.noted ++ [((P.mem.node y).key,(P.mem.node y).value)] else t.work.noted) t.work.time = readAns (Rt' t.work.time) _;rw [e1,hnot];refine Eq.trans ?_ (readAns4 _ _ (show ¬ t.work.kind = 3 by omega)).symm;show answerOf t.work.spans t.work.noted t.work.time = answerOf t.work.spans (Rt t.work.time) t.work.time;rw [<- (hull_answer hsp (Rt t.work.time) t.work.time).1]
       congr 1
       rw [q3];refine List.filter_congr ?_;intro p hp;by_cases hin : isIn p.1 (leastLo t.work.spans) (greatestHi t.work.spans) = true
       ·rw [hin,Bool.true_and];have hin':=isIn_iff.1 hin;have hnx : ¬ (x = 0\/Ky P.mem x < p.1):=by
         intro hh
         have:=(l3 p hp hh).2
         omega
        simp only [not_or] at hnx;exact decide_eq_true ⟨hnx.1,by omega⟩
       ·have : isIn p.1 (leastLo t.work.spans) (greatestHi t.work.spans) = false:=by simpa using hin
        rw [this]; rfl
   ·have hs : P.step i t = (P.setT i t.leave,3):=by unfold PSt.step; simp only [hn]
    have ht' : t' = t.leave:=by
     have:=hto.ts
     rw [hs] at this;have h2 : (P.ts.set i t.leave)[i]? = (P.ts.set i t')[i]?:=by rw [<- this]; rfl
     simpa [hi] using h2.symm
    rw [ht'];exact RPos.upd (fun b=>nomatch b)
  ·exact RPos.upd (fun b=>by have:=hto.kd b; omega)
 ·rw [if_neg e] at hj;have hP:=hR j u hj;have hU:=h.th j u hj;have old : u.busy = true->3<=u.work.next->Rt' u.work.time = Rt u.work.time/\Vt' u.work.time = Vt u.work.time:=fun b h3=>hold _ (hU.tm b h3).1
  have hky : Rdr u->∀ x,(x = 0\/Vt u.work.time x)->Ky (P.step i t).1.mem x = Ky P.mem x:=by
   intro hr x hx;have hver:=hV.rd j u hj hr;have hu : Us P.mem x:=by
    rcases hx with rfl | hx
    ·exact h.gdUs (.inr (.inl h.n.a0.1))
    ·exact (hver.d x hx).1
   obtain ⟨s,y,g1,_⟩:=hver.g x hx;exact (h.keepsR ht hb x hu (h.ve8 ht g1)).1
  refine ⟨hP.sp,hP.no,?_,?_,?_⟩
  ·intro b k3 n4;rw [(old b (by omega)).2]; exact hP.lo b k3 n4
  ·intro b k4 n4;obtain ⟨x,q1,q2,q3⟩:=hP.sc b k4 n4;rw [(old b (by omega)).1,(old b (by omega)).2];refine ⟨x,q1,q2,?_⟩;rw [hky ⟨b,.inr k4,by omega,by omega⟩ x q2]; exact q3
  ·intro b k n13;rw [(old b (by omega)).1]; exact hP.an b k n13
theorem InvR.sweep (hR : InvR Rt Vt P) (hV : InvV C Rt Vt P) (h : Inv C P) : InvR Rt Vt P.doSweep.1:=by
 have hV':=hV.sweep h;intro j u hj;have hts : P.doSweep.1.ts = P.ts:=sweep_ts P;rw [hts] at hj;have hP:=hR j u hj;refine ⟨hP.sp,hP.no,hP.lo,?_,hP.an⟩;intro b k4 n4;obtain ⟨x,q1,q2,q3⟩:=hP.sc b k4 n4;refine ⟨x,q1,q2,?_⟩;have hr : Rdr u:=⟨b,.inr k4,by omega,by omega⟩
 -- the keys of what was are the same: by the pairs and the places
 have hk : Ky P.doSweep.1.mem x = Ky P.mem x:=by
  have hs:=h.sweep;by_cases h0 : x = 0
  ·subst h0;unfold PSt.doSweep;simp only;split
   ·rfl
   ·split
    ·split <;> rfl
    ·split
     ·rfl
     ·have hre : ∀ n ∈ P.sweep.retired,P.mem.hasNode (n : Int) = true/\(n : Int)≠0/\(n : Int)≠1:=by
       intro n hn;have h1:=(h.o.sw (n : Int) ⟨n,hn,rfl⟩).1;obtain ⟨h2,h3,_⟩:=h.n.mr _ h1;refine ⟨hasN_used (h.n.md _ h2).1,?_,?_⟩
       ·intro e; rw [e] at h3; exact h3 h.n.a0.1
       ·intro e; rw [e] at h2; simp only [De] at h2; rw [h.n.a1.2.2.2.1] at h2; cases h2
      obtain ⟨_,_,g3⟩:=freesIf_ok P.sweep.hasTime P.sweep.time P.sweep.retired P.mem h.wm hre;have : ¬ Gone P.mem P.sweep.hasTime P.sweep.time P.sweep.retired 0:=by
       rintro ⟨⟨n,hn,e⟩,_⟩;exact (hre n hn).2.1 e
      show (PMem.node _ 0).key = _;rw [((g3 0).2 this).1]
  ·have hv:=q2.resolve_left h0;have hu':=((hV'.rd j u (by rw [hts]; exact hj) hr).d x hv).1
   -- a node that is in use behind the sweep is as it was
   unfold PSt.doSweep at hu' ⊢;simp only at hu' ⊢;split at hu'
   ·rename_i c1; rw [if_pos c1]
   ·rename_i c1
    rw [if_neg c1];split at hu'
    ·rename_i c2
     rw [if_pos c2];split <;> rfl
    ·rename_i c2
     rw [if_neg c2];split at hu'
     ·rename_i c3; rw [if_pos c3]; rfl
     ·rename_i c3
      rw [if_neg c3];have hre : ∀ n ∈ P.sweep.retired,P.mem.hasNode (n : Int) = true/\(n : Int)≠0/\(n : Int)≠1:=by
       intro n hn;have h1:=(h.o.sw (n : Int) ⟨n,hn,rfl⟩).1;obtain ⟨h2,h3,_⟩:=h.n.mr _ h1;refine ⟨hasN_used (h.n.md _ h2).1,?_,?_⟩
       ·intro e; rw [e] at h3; exact h3 h.n.a0.1
       ·intro e; rw [e] at h2; simp only [De] at h2; rw [h.n.a1.2.2.2.1] at h2; cases h2
      obtain ⟨_,_,g3⟩:=freesIf_ok P.sweep.hasTime P.sweep.time P.sweep.retired P.mem h.wm hre;have hng : ¬ Gone P.mem P.sweep.hasTime P.sweep.time P.sweep.retired x:=by
       intro hg
       have:=((g3 x).1 hg).1
       have hu2 : (PMem.node (P.mem.freesIf P.sweep.hasTime P.sweep.time P.sweep.retired) x).used = true:=hu';rw [this] at hu2; exact nomatch hu2
      show (PMem.node _ x).key = _;rw [((g3 x).2 hng).1]
 rw [hk]; exact q3
end
end
section
section
variable {P : PSt}
end
end
section
section
variable {es : List PEntry} {time : Int}
end
end
section
end
section
section
variable {M : PMem} {c : Int} {ch : List Spot3}
end
end
section
section
variable {M : PMem} {c : Int} {ch : List Spot3}
end
end
section
section
variable {M M' : PMem}
end
end
section
section
variable {N E L : Int} {P : PSt} {ch : List Spot3} {n e c : Int}
end
end
section
section
variable {N E L : Int} {P : PSt} {ch : List Spot3} {n e c : Int} {i : Nat} {t : PThread}
end
end
section
section
variable {N E L : Int} {P : PSt} {ch : List Spot3} {n e c : Int} {i : Nat} {t : PThread}
end
end
section
section
variable {N E L : Int} {P : PSt} {ch : List Spot3} {n e c : Int} {i : Nat} {t : PThread}
end
end
section
section
variable {N E L : Int} {P : PSt} {ch : List Spot3} {n e c : Int} {i : Nat} {t : PThread}
end
end
section
section
variable {N E L : Int} {P : PSt} {ch : List Spot3} {n e c : Int} {i : Nat} {t : PThread}
end
end
section
section
variable {N E L : Int} {P : PSt} {ch : List Spot3} {n e c : Int} {i : Nat} {t : PThread}
end
end
section
section
variable {N E L : Int} {P : PSt} {ch : List Spot3} {n e c : Int} {i : Nat} {t : PThread}
end
end
section
section
variable {N E L : Int} {P : PSt} {ch : List Spot3} {n e c : Int} {i : Nat} {t : PThread}
end
end
section
theorem fresh_mem (nn en : Nat) : freshMem nn (en + 1) = ⟨linked false 1 anchorNode :: endNode :: List.replicate nn PNode.zero,⟨true,false,0,false,1,0⟩ :: List.replicate en PEntry.zero⟩:=by
 unfold freshMem;have h1 : (⟨freshNodes nn,List.replicate (en + 1) PEntry.zero⟩ : PMem).addLink 0 1 = ⟨linked false 1 anchorNode :: endNode :: List.replicate nn PNode.zero,⟨true,true,0,false,1,0⟩ :: List.replicate en PEntry.zero⟩ :=
  addLink_ok (M:=⟨freshNodes nn,List.replicate (en + 1) PEntry.zero⟩) (n:=0) (q:=0) (nd:=anchorNode) (e:=PEntry.zero) rfl rfl rfl rfl 1
 rw [h1];unfold PMem.stampNew;have h2 : (⟨linked false 1 anchorNode :: endNode :: List.replicate nn PNode.zero,⟨true,true,0,false,1,0⟩ :: List.replicate en PEntry.zero⟩ : PMem).stamp 0 false 0 = ⟨linked false 1 anchorNode :: endNode :: List.replicate nn PNode.zero,⟨true,false,0,false,1,0⟩ :: List.replicate en PEntry.zero⟩ :=
  stamp_ok (n:=0) (q:=0) (e:=⟨true,true,0,false,1,0⟩) rfl rfl 0
 rw [h2];refine stamp_none ?_ _
 ·refine find_miss _ _ ?_;intro j _ y hy;cases j with
  | zero =>
   have:=Option.some.inj hy
   subst this; rfl
  | succ j =>
   have hy' : (List.replicate en PEntry.zero)[j]? = some y:=hy
   have:=(List.mem_replicate.1 (List.mem_of_getElem? hy')).2
   subst this; rfl
end
section
end
section
end
section
section
variable {C : Int->Prop} {i j : Nat} {t : PThread} {P : PSt} {L : Nat}
def spot (M : PMem) (x : Int) : Spot3:=(x.toNat,Ky M x,(M.node x).value)
end
end
section
def tk (d : DeedV) : Int:=if d.a.did = true then (if d.op.kind = 1 then 1 else if d.op.kind = 2 then -1 else 0) else 0
section
variable {C C' : Int->Prop} {i j : Nat} {t : PThread} {P : PSt} {D D' : PlD} {o : OpV} {T N E L : Int}
theorem three_next (h : (P.step i t).2 = 3) : t.work.next = 13:=by
 unfold PSt.step at h;split at h
 ·cases h
 ·cases h
 ·cases h
 ·assumption
 ·split at h
  ·unfold PSt.read at h;simp only at h;split at h <;> cases h
  ·unfold PSt.update at h;split at h
   ·cases h
   ·unfold PSt.lock at h;split at h
    ·split at h <;> cases h
    ·cases h
   all_goals cases h
theorem sweep_eln (P : PSt) : P.doSweep.1.mem.es.length = P.mem.es.length/\P.doSweep.1.limit = P.limit:=by
 unfold PSt.doSweep;simp only;split
 ·exact ⟨rfl,rfl⟩
 ·split
  ·split <;> exact ⟨rfl,rfl⟩
  ·split
   ·exact ⟨drop_eslen _,rfl⟩
   ·exact ⟨freesIf_eslen _ _ _ _,rfl⟩
theorem invx_fresh (hE : 1<=E) : InvX (fun x=>x = 0) (freshP 0 T N E L):=by
 obtain ⟨hw,hl,hn,hp,hs⟩:=fresh_seen N.toNat E.toNat (by omega);have hm : (freshP 0 T N E L).mem = freshMem N.toNat E.toNat:=rfl;have hts : ∀ t ∈ (freshP 0 T N E L).ts,t = PThread.zero:=fun t ht=>(List.mem_replicate.1 ht).2
 refine ⟨fun x hx h0=>absurd hx h0,?_,?_,?_⟩
 ·rintro x (rfl | ⟨j,u,hj,hu⟩)
  ·exact ⟨0,1,(hs 0 0 1).2 ⟨rfl,rfl,rfl⟩⟩
  ·rw [hts u (List.mem_of_getElem? hj)] at hu; exact nomatch hu.1
 ·rw [hm];obtain ⟨en,hen⟩ : ∃ en : Nat,E.toNat = en + 1:=⟨E.toNat - 1,by omega⟩;rw [hen,fresh_mem];have one : ∀ (i : Nat) a,(⟨true,false,0,false,1,0⟩ :: List.replicate en PEntry.zero : List PEntry)[i]? = some a->stp a = true->i = 0:=by
   intro i a hi hu;cases i with
   | zero=>rfl
   | succ i =>
    have hi' : (List.replicate en PEntry.zero)[i]? = some a:=hi
    have:=(List.mem_replicate.1 (List.mem_of_getElem? hi')).2
    subst this; exact nomatch hu
  intro i j a b ha hb sa sb _ _;rw [one i a ha sa,one j b hb sb]
 ·rw [hm,hn 0,if_pos rfl]; exact ⟨rfl,rfl⟩
end
end
section
section
variable {C : Int->Prop} {Rt : Int->List (Int × Int)} {Vt : Int->Int->Prop} {i j : Nat} {t t' : PThread} {P : PSt} {x s d : Int} {N E L T : Int}
end
end
section
section
variable {C : Int->Prop} {Rt : Int->List (Int × Int)} {Vt : Int->Int->Prop} {i j : Nat} {t t' : PThread} {P : PSt} {x s d : Int} {N E L T n e c : Int} {ps : List (Int × Int)}
theorem InvV.begin (hV : InvV C Rt Vt P) (ht : P.ts[i]? = some t) (hb : t.busy = false) {k : PWork} (h1 : k.next = 1) : InvV C Rt Vt { P with ts:=P.ts.set i { t with busy:=true,work:=k } }:=by
 have hi:=(List.getElem?_eq_some_iff.1 ht).1;have nb : ∀ {p : Prop},t.busy = true->p:=fun q=>by rw [hb] at q; cases q
 have vs : ∀ x s,Vs x s { t with busy:=true,work:=k } ↔ Vs x s t:=fun x s=>⟨fun q=>by have : 9<=k.next:=q.2.2.1; omega,fun q=>nb q.1⟩
 have ver : ∀ {R V T},Ver P.mem P.ts R V T->Ver P.mem (P.ts.set i { t with busy:=true,work:=k }) R V T:=by
  intro R V T hR;have hve:=fun x s d=>ve_same (M:=P.mem) (M':=P.mem) ht rfl vs x s d
  exact hR.mono (fun _ _=>rfl) (fun x hx=>⟨rfl,(hR.d x hx).1,(hR.d x hx).2.2.2⟩) (fun x s d _ hv _ _=>(hve x s d).2 hv) (fun x s d _ hv _=>(hve x s d).1 hv)
 obtain ⟨now,set,fv,rd⟩:=hV;refine ⟨ver now,?_,?_,?_⟩
 ·intro x;show Vt P.clock x ↔ _;rw [set];have e1 : Ex (P.ts.set i { t with busy:=true,work:=k }) (Removing x) ↔ Ex P.ts (Removing x):=ex_iff ht ⟨fun q=>by have : k.next = 9\/k.next = 10:=q.2.2.1; omega,fun q=>nb q.1⟩;have e2 : Ex (P.ts.set i { t with busy:=true,work:=k }) (Fresh10 x) ↔ Ex P.ts (Fresh10 x):=ex_iff ht ⟨fun q=>by have : k.next = 10:=q.2.2.1; omega,fun q=>nb q.1⟩;show _ ↔ (C x/\x≠0/\¬ Ex (P.ts.set i { t with busy:=true,work:=k }) (Removing x))\/Ex (P.ts.set i { t with busy:=true,work:=k }) (Fresh10 x);rw [e1,e2]
 ·intro j u hj x hf;have hj' : (P.ts.set i { t with busy:=true,work:=k })[j]? = some u:=hj;rw [List.getElem?_set] at hj';by_cases e : i = j
  ·subst e;simp [hi] at hj'; subst hj';have : k.next = 8\/k.next = 10:=hf.2.2.1
   omega
  ·rw [if_neg e] at hj'; exact fv j u hj' x hf
 ·intro j u hj hr;have hj' : (P.ts.set i { t with busy:=true,work:=k })[j]? = some u:=hj;rw [List.getElem?_set] at hj';by_cases e : i = j
  ·subst e;simp [hi] at hj'; subst hj';have : 3<=k.next:=hr.2.2.1
   omega
  ·rw [if_neg e] at hj'; exact ver (rd j u hj' hr)
theorem InvR.begin (hR : InvR Rt Vt P) (ht : P.ts[i]? = some t) {k : PWork} (h1 : k.next = 1) (h2 : k.noted = []) (h3 : k.kind = 4->spansOkX k.spans = true) : InvR Rt Vt { P with ts:=P.ts.set i { t with busy:=true,work:=k } }:=by
 have hi:=(List.getElem?_eq_some_iff.1 ht).1;intro j u hj;have hj' : (P.ts.set i { t with busy:=true,work:=k })[j]? = some u:=hj;rw [List.getElem?_set] at hj';by_cases e : i = j
 ·subst e;simp [hi] at hj'; subst hj';refine ⟨fun _=>h3,fun _ _ _=>h2,?_,?_,?_⟩
  ·intro _ _ q; have : k.next = 4:=q; omega
  ·intro _ _ q; have : k.next = 4:=q; omega
  ·intro _ _ q; have : k.next = 13:=q; omega
 ·rw [if_neg e] at hj'; exact hR j u hj'
theorem InvR.init (h : ∀ t ∈ P.ts,t.busy = false) : InvR Rt Vt P:=fun j u hj=>RPos.upd (fun b=>by have:=h u (List.mem_of_getElem? hj); rw [b] at this; cases this)
theorem newWork_rd {kd ky va : Int} {sp : List (Int × Int)} (h : properB kd ky sp = true) : (newWork kd ky va sp).noted = []/\((newWork kd ky va sp).kind = 4->spansOkX (newWork kd ky va sp).spans = true):=by
 obtain ⟨_,w2,w3,_,_,_,w7,_⟩:=newWork_ok (va:=va) h;constructor
 ·unfold newWork;simp only;split
  ·rfl
  ·split
   ·rfl
   ·split <;> rfl
 ·intro e;rw [w2] at e;rw [(w7 e).2.2];have h0 : checkOp kd ky sp = 0:=of_decide_eq_true h;unfold checkOp at h0;rw [if_neg (by omega),if_pos e] at h0;cases hh : (isIn sp.length 1 16 && spansOkX sp)
  ·rw [hh] at h0; exact absurd h0 (by decide)
  ·exact (Bool.and_eq_true_iff.1 hh).2
end
end
end Go.Proofs.YtfccelbmacjifabGreat
