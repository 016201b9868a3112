import Derived.Test.YtfccelbmacjifaaGreatP0
import Derived.Test.YtfccelbmacjifaaGreatP22
import Derived.Test.YtfccelbmacjifaaGreatP15
set_option linter.unusedSimpArgs false
set_option maxRecDepth 100000
set_option maxHeartbeats 4000000
namespace Go.Proofs.YtfccelbmacjifaaGreat
section
section
variable {C C' : Int->Prop} {M M' : PMem} {i j : Nat} {t t' : PThread} {ts : List PThread} {P : PSt} {x s d : Int}
theorem vs_iff (ht : ts[i]? = some t) (h : ∀ x s,Vs x s t' ↔ Vs x s t) (x s : Int) : Ex (ts.set i t') (Vs x s) ↔ Ex ts (Vs x s):=by
 have hi:=(List.getElem?_eq_some_iff.1 ht).1;constructor
 ·rintro ⟨j,u,hj,hu⟩;rw [List.getElem?_set] at hj;by_cases e : i = j
  ·subst e; simp [hi] at hj; subst hj; exact ⟨i,t,ht,(h x s).1 hu⟩
  ·rw [if_neg e] at hj; exact ⟨j,u,hj,hu⟩
 ·intro hx; exact hx.set ht (h x s).2
theorem ve_same (ht : ts[i]? = some t) (he : M'.es = M.es) (h : ∀ x s,Vs x s t' ↔ Vs x s t) (x s d : Int) : VE M' (ts.set i t') x s d ↔ VE M ts x s d:=by
 unfold VE;rw [sd_es he,vs_iff ht h,pd_es he]
structure VeStep (P P' : PSt) : Prop where
 to : ∀ x s d,VE P.mem P.ts x s d->VE P'.mem P'.ts x s d
 fr : ∀ x s d,VE P'.mem P'.ts x s d->VE P.mem P.ts x s d\/s = P.clock + 1
theorem VeStep.same {P P' : PSt} (h : ∀ x s d,VE P'.mem P'.ts x s d ↔ VE P.mem P.ts x s d) : VeStep P P':=⟨fun x s d=>(h x s d).2,fun x s d hv=>.inl ((h x s d).1 hv)⟩
theorem no_vs (h : t.busy = true->t.work.next<=8\/12<=t.work.next\/(t.work.kind≠1/\t.work.kind≠2)) (x s : Int) : ¬ Vs x s t:=by
 rintro ⟨b,k,h1,h2,_⟩;rcases h b with q | q | q <;> omega
theorem VeStep.set {P : PSt} {Q : PSt} {k : PWork} (ht : P.ts[i]? = some t) (hQ : Q.ts = P.ts) (he : Q.mem.es = P.mem.es) (h : ∀ x s,Vs x s { t with work:=k } ↔ Vs x s t) : VeStep P (Q.setW i k):=by
 refine VeStep.same ?_;intro x s d;rw [setW_to Q (t:=t) (by rw [hQ]; exact ht) k];show VE Q.mem (Q.ts.set i { t with work:=k }) x s d ↔ _;rw [hQ];exact ve_same ht he h x s d
theorem Inv.veStep (h : Inv C P) (ht : P.ts[i]? = some t) (hb : t.busy = true) : VeStep P (P.step i t).1:=by
 have hT:=h.th i t ht;have hnx:=hT.nx hb;have hkd:=hT.kd hb;have hrd:=hT.rd hb;have none : ∀ (t' : PThread),(t'.busy = true->t'.work.next<=8\/12<=t'.work.next\/(t'.work.kind≠1/\t'.work.kind≠2))->(t.work.next<=8\/12<=t.work.next\/(t.work.kind≠1/\t.work.kind≠2))->∀ x s,Vs x s t' ↔ Vs x s t :=
  fun t' h1 h2 x s=>⟨fun q=>absurd q (no_vs h1 x s),fun q=>absurd q (no_vs (fun _=>h2) x s)⟩
 have setT : ∀ t' : PThread,(∀ x s,Vs x s t' ↔ Vs x s t)->VeStep P (P.setT i t'):=by
  intro t' hh;refine VeStep.same ?_;intro x s d;exact ve_same ht rfl hh x s d
 rcases (show t.work.next = 1\/t.work.next = 2\/t.work.next = 3\/t.work.next = 13\/(4<=t.work.next/\t.work.next<=12) by omega) with hn | hn | hn | hn | hn
 ·unfold PSt.step; simp only [hn];exact setT _ (none _ (fun _=>.inl (by show 2<=8; omega)) (.inl (by omega)))
 ·unfold PSt.step; simp only [hn];exact setT _ (none _ (fun _=>.inl (by show 3<=8; omega)) (.inl (by omega)))
 ·unfold PSt.step; simp only [hn];exact setT _ (none _ (fun _=>.inl (by show 4<=8; omega)) (.inl (by omega)))
 ·unfold PSt.step; simp only [hn];exact setT _ (none _ (fun b=>nomatch b) (.inr (.inl (by omega))))
 ·rw [step_mid P hn.1 hn.2];by_cases hk : t.work.kind = 3\/t.work.kind = 4
  ·rw [if_pos hk];unfold PSt.read;simp only;split
   ·exact VeStep.same (fun _ _ _=>Iff.rfl)
   ·refine VeStep.set ht rfl rfl (none _ (fun _=>.inr (.inr ?_)) (.inr (.inr (by omega))));have hk' : (if t.work.kind = 3 then P.lookUp t.work (P.mem.ledTo (P.linkNext t.work).1 (P.linkNext t.work).2 t.work.time) else P.scan t.work (P.mem.ledTo (P.linkNext t.work).1 (P.linkNext t.work).2 t.work.time)).kind = t.work.kind:=by
     split
     ·unfold PSt.lookUp; split <;> rfl
     ·unfold PSt.scan; simp only; split <;> rfl
    show (if t.work.kind = 3 then _ else _ : PWork).kind≠1/\(if t.work.kind = 3 then _ else _ : PWork).kind≠2;rw [hk']; omega
  ·rw [if_neg hk];have hk : t.work.kind = 1\/t.work.kind = 2:=by omega
   unfold PSt.update;rcases (show t.work.next = 4\/t.work.next = 5\/t.work.next = 6\/t.work.next = 7\/t.work.next = 8\/t.work.next = 9\/t.work.next = 10\/t.work.next = 11\/t.work.next = 12 by omega) with hn | hn | hn | hn | hn | hn | hn | hn | hn
   ·simp only [hn];refine VeStep.set ht rfl rfl (none _ (fun _=>.inl ?_) (.inl (by omega)));show (P.walk t.work).next<=8
    unfold PSt.walk; split
    ·show t.work.next<=8; omega
    ·show 5<=8; omega
   ·simp only [hn];rcases h.lock ht hb hn with ⟨_,q,_⟩ | ⟨_,q⟩
    ·rw [q];refine VeStep.set (Q:=P.setM _) ht rfl (modN_ents _ _ _) (none _ (fun _=>.inl ?_) (.inl (by omega)));simp only; split <;> omega
    ·rw [q]; exact VeStep.same (fun _ _ _=>Iff.rfl)
   ·simp only [hn];unfold PSt.check;split
    ·exact VeStep.set (Q:=P.setM (P.mem.unlock i)) ht rfl rfl (none _ (fun _=>.inl (by show 4<=8; omega)) (.inl (by omega)))
    ·split
     ·exact VeStep.set ht rfl rfl (none _ (fun _=>.inr (.inl (by show 12<=12; omega))) (.inl (by omega)))
     ·exact VeStep.set ht rfl rfl (none _ (fun _=>.inl (by show 7<=8; omega)) (.inl (by omega)))
   ·-- prepare: what is pending is not stamped so far
    simp only [hn];obtain ⟨_,m1,m2,m3,m4,m5,m6⟩:=h.mine ht hb (by omega) (by omega);unfold PSt.prepare;split
    ·exact VeStep.set ht rfl rfl (none _ (fun _=>.inr (.inl (by show 12<=12; omega))) (.inl (by omega)))
    ·next hroom =>
     have key : ∀ (M1 : PMem) (k : PWork) (n : Int),¬ (Us P.mem n/\n≠t.work.stand)->k.next = 8->(∀ x s d,Sd M1 x s d ↔ Sd P.mem x s d)->(∀ x,x≠t.work.stand->x≠n->Pd M1 x = Pd P.mem x)->VeStep P ((P.setM M1).setW i k):=by
      intro M1 k n hnu hk8 hs hp;refine VeStep.same ?_;intro x s d;rw [setMW_to P ht];show VE M1 (P.ts.set i { t with work:=k }) x s d ↔ _;unfold VE;rw [hs,vs_iff ht (none { t with work:=k } (fun _=>.inl (by show k.next<=8; omega)) (.inl (by omega)))];refine or_congr Iff.rfl (and_congr_right fun hv=>?_);obtain ⟨j,u,hj,v1,v2,v3,v4,v5,_⟩:=hv;have hst:=(h.th j u hj).hStand v1 (by omega) (by omega);have hx1 : x≠t.work.stand:=by
       rintro e;rw [v5,e,m3] at hst;have : i = j:=by have:=hst.2; omega
       subst this;rw [ht] at hj; injection hj with hj; subst hj
       omega
      rw [hp x hx1];rintro rfl;rw [v5] at hst;exact hnu ⟨hst.1,hx1⟩
     rcases hk with hk | hk
     ·have hne : P.needs t.work.kind = (1,2):=by unfold PSt.needs; rw [hk,if_neg (by decide),if_neg (by rw [h.kind]; decide)]
      rw [hne] at hroom;simp only [hk,if_true];obtain ⟨n,M1,q1,q2,_,_,q5,q6⟩:=h.grown ht hb hn (by simp only at hroom; omega) (by simp only at hroom; omega);rw [q2];refine key M1 _ n (fun q=>q1 q.1) rfl q6 ?_;intro x h1 h2;rw [q5,if_neg h1,if_neg h2]
     ·have hne : P.needs t.work.kind = (0,1):=by unfold PSt.needs; rw [hk,if_pos rfl]
      rw [hne] at hroom;simp only [hk,show ¬ ((2 : Int) = 1) by decide,if_false];have hs1:=(h.side (.inl m1) t.work.key).1;have hr : 0 < P.mem.room.2:=by simp only at hroom; omega
      obtain ⟨e,he,hu⟩:=count_some (l:=P.mem.es) (p:=fun x=>!x.used) (by unfold PMem.room at hr; simpa using hr);obtain ⟨_,_,_,_,g4,g5⟩:=pend_e (to:=P.leadsFrom t.work.ahead t.work.key) h.wm ⟨e,he,by simpa using hu⟩ m5 (h.noPend ht hb hn);unfold PSt.prepareRemove;simp only [if_pos h.kind];rw [hs1];refine key _ _ t.work.stand (fun q=>q.2 rfl) rfl g5 ?_;intro x h1 _;rw [g4,if_neg h1]
   ·-- take
    simp only [hn];obtain ⟨_,m1,m2,m3,m4,m5,m6⟩:=h.mine ht hb (by omega) (by omega);obtain ⟨t1,t2⟩:=hT.ts hb (by omega) (by omega);have hu : P.mem.unpend t.work.tsrc t.work.tside = P.mem.unpend t.work.stand false:=by rw [t1,t2]
    have oth : ∀ {x s : Int},Ex P.ts (Vs x s)->Us P.mem x/\x≠t.work.stand/\∀ n,Fresh8 n t->x≠n:=by
     rintro x s ⟨j,u,hj,v1,v2,v3,v4,v5,_⟩;have hst:=(h.th j u hj).hStand v1 (by omega) (by omega);rw [v5] at hst;refine ⟨hst.1,?_,?_⟩
     ·rintro rfl;rw [m3] at hst;have : i = j:=by have:=hst.2; omega
      subst this;rw [ht] at hj; injection hj with hj; subst hj
      omega
     ·rintro n hf rfl;exact h.heldFresh hj ht hst.1 hst.2 ⟨hf.1,hf.2.1,.inl hf.2.2.1,hf.2.2.2⟩
    unfold PSt.take;rw [hu];split
    ·have key : ∀ (M1 : PMem),(∀ x s d,Sd M1 x s d ↔ Sd P.mem x s d)->(∀ x,Us P.mem x->x≠t.work.stand->(∀ n,Fresh8 n t->x≠n)->Pd M1 x = Pd P.mem x)->VeStep P ((P.setM M1).setW i (t.work.settle { err:=8 })):=by
      intro M1 hs hp;refine VeStep.same ?_;intro x s d;rw [setMW_to P ht];show VE M1 (P.ts.set i { t with work:=t.work.settle { err:=8 } }) x s d ↔ _;unfold VE;rw [hs,vs_iff ht (none { t with work:=t.work.settle { err:=8 } } (fun _=>.inr (.inl (by show 12<=12; omega))) (.inl (by omega)))];refine or_congr Iff.rfl (and_congr_right fun hv=>?_);obtain ⟨o1,o2,o3⟩:=oth hv;rw [hp x o1 o2 o3]
     rcases hk with hk | hk
     ·obtain ⟨n,f1,f2,f3,f4,f5,f6,f7,f8,f9,f10,f11⟩:=hT.f8 hb hk (.inl hn);obtain ⟨u1,u2,u3,u4⟩:=unpend_e h.wm f10;have hnd:=node_ns u1;obtain ⟨_,_,_,v4,v5⟩:=free_e (n:=n) u2 (hasN_used (by rw [hnd]; exact f4)) ⟨f2,f3⟩;have hfr : (P.mem.unpend t.work.stand false).frees t.work.made = (P.mem.unpend t.work.stand false).free n:=by rw [f1]; rfl
      rw [hfr];refine key _ ?_ ?_
      ·intro x s d;rw [v5,u4];exact ⟨fun q=>q.2,fun q=>⟨by rintro rfl; exact (f11 hn).2 s d q,q⟩⟩
      ·intro x _ h1 h2;rw [v4,if_neg (h2 n ⟨hb,hk,hn,by rw [f1]; simp⟩),u3,if_neg h1]
     ·obtain ⟨p1,p2⟩:=hT.p2 hb hk (by omega) (by omega);obtain ⟨_,_,u3,u4⟩:=unpend_e h.wm p1;have hfr : (P.mem.unpend t.work.stand false).frees t.work.made = P.mem.unpend t.work.stand false:=by rw [p2]; rfl
      rw [hfr];exact key _ u4 (fun x _ h1 _=>by rw [u3,if_neg h1])
    ·have key : ∀ (M1 : PMem) (k : PWork),k.ans.stamp = P.clock + 1->(∀ x s d,Sd P.mem x s d->Sd M1 x s d)->(∀ x s d,Sd M1 x s d->Sd P.mem x s d\/s = P.clock + 1)->(∀ x,Us P.mem x->(∀ n,Fresh8 n t->x≠n)->Pd M1 x = Pd P.mem x)->VeStep P ((({ P with clock:=P.clock + 1 } : PSt).setM M1).setW i k):=by
      intro M1 k hst hs1 hs2 hp;rw [setMW_to { P with clock:=P.clock + 1 } ht];refine ⟨?_,?_⟩
      ·rintro x s d (hv | ⟨hv,hd⟩)
       ·exact .inl (hs1 x s d hv)
       ·obtain ⟨o1,o2,o3⟩:=oth hv;refine .inr ⟨hv.set ht (fun q=>absurd q (no_vs (fun _=>.inl (by omega)) x s)),?_⟩;show Pd M1 x = [d];rw [hp x o1 o3]; exact hd
      ·rintro x s d (hv | ⟨hv,hd⟩)
       ·rcases hs2 x s d hv with q | q
        ·exact .inl (.inl q)
        ·exact .inr q
       ·obtain ⟨j,u,hj,hu⟩:=hv;have hj' : (P.ts.set i { t with work:=k })[j]? = some u:=hj;have hi:=(List.getElem?_eq_some_iff.1 ht).1;rw [List.getElem?_set] at hj';by_cases e : i = j
        ·right;subst e;simp [hi] at hj'; subst hj'
         have:=hu.2.2.2.2.2
         rw [<- this]; exact hst
        ·left;rw [if_neg e] at hj';have hex : Ex P.ts (Vs x s):=⟨j,u,hj',hu⟩;obtain ⟨o1,o2,o3⟩:=oth hex;refine .inr ⟨hex,?_⟩;have hd' : Pd M1 x = [d]:=hd;rw [hp x o1 o3] at hd'; exact hd'
     rcases hk with hk | hk
     ·rw [if_neg (show ¬ t.work.kind = 2 by omega)];obtain ⟨n,f1,f2,f3,f4,f5,f6,f7,f8,f9,f10,f11⟩:=hT.f8 hb hk (.inl hn);obtain ⟨f12,f13⟩:=f11 hn;obtain ⟨g1,g2,g3,g4⟩:=stamp_e (P.clock + 1) h.wm f12;have hsn : P.mem.stampsNew (P.clock + 1) t.work.made = P.mem.stamp n false (P.clock + 1):=by
       rw [f1];show (P.mem.stampNew n (P.clock + 1)) = _;unfold PMem.stampNew;rw [stamp_no g2]
      rw [hsn];refine key _ _ rfl (fun x s d hs=>(g4 x s d).2 (.inl hs)) ?_ ?_
      ·intro x s d hs;rcases (g4 x s d).1 hs with q | q
       ·exact .inl q
       ·exact .inr q.2.1
      ·intro x _ h2;rw [g3,if_neg (h2 n ⟨hb,hk,hn,by rw [f1]; simp⟩)]
     ·rw [if_pos hk];exact key P.mem { t.work with ans:={ did:=true,stamp:=P.clock + 1,value:=(P.mem.node t.work.ahead).value },next:=9 } rfl (fun _ _ _=>id) (fun _ _ _ q=>.inl q) (fun _ _ _=>rfl)
   ·simp only [hn];refine VeStep.set (Q:=P.setM _) ht rfl (kills_es _ _) ?_;intro x s;constructor
    ·rintro ⟨q1,q2,q3,q4,q5⟩; exact ⟨q1,q2,by omega,by omega,q5⟩
    ·rintro ⟨q1,q2,q3,q4,q5⟩; exact ⟨q1,q2,by show 9<=10; omega,by show 10<=11; omega,q5⟩
   ·simp only [hn];refine VeStep.set (Q:=P.setM _) ht rfl (lead_es _ _) ?_;intro x s;constructor
    ·rintro ⟨q1,q2,q3,q4,q5⟩; exact ⟨q1,q2,by omega,by omega,q5⟩
    ·rintro ⟨q1,q2,q3,q4,q5⟩; exact ⟨q1,q2,by show 9<=11; omega,by show 11<=11; omega,q5⟩
   ·-- stamp
    simp only [hn];obtain ⟨_,m1,m2,m3,m4,m5,m6⟩:=h.mine ht hb (by omega) (by omega);obtain ⟨t1,t2⟩:=hT.ts hb (by omega) (by omega);have p1:=hT.p11 hb hn;obtain ⟨g1,g2,g3,g4⟩:=stamp_e t.work.ans.stamp h.wm p1;rw [show P.mem.stamp t.work.tsrc t.work.tside t.work.ans.stamp = P.mem.stamp t.work.stand false t.work.ans.stamp by rw [t1,t2]];rw [setMW_to P ht];have hct : ∀ x s,¬ Vs x s { t with work:={ t.work with next:=12 } }:=no_vs (fun _=>.inr (.inl (by show 12<=12; omega)));have oth : ∀ {x s : Int} {j : Nat} {u : PThread},P.ts[j]? = some u->j≠i->Vs x s u->x≠t.work.stand:=by
     rintro x s j u hj hji ⟨v1,v2,v3,v4,v5,_⟩ rfl;have hst:=(h.th j u hj).hStand v1 (by omega) (by omega);rw [v5,m3] at hst;exact hji (by have:=hst.2; omega)
    refine VeStep.same ?_;intro x s d;show VE (P.mem.stamp t.work.stand false t.work.ans.stamp) (P.ts.set i { t with work:={ t.work with next:=12 } }) x s d ↔ VE P.mem P.ts x s d;constructor
    ·rintro (hv | ⟨⟨j,u,hj,hu⟩,hd⟩)
     ·rcases (g4 x s d).1 hv with q | ⟨rfl,rfl,rfl⟩
      ·exact .inl q
      ·exact .inr ⟨⟨i,t,ht,hb,hk,by omega,by omega,rfl,rfl⟩,p1⟩
     ·have hi:=(List.getElem?_eq_some_iff.1 ht).1;rw [List.getElem?_set] at hj;by_cases e : i = j
      ·subst e; simp [hi] at hj; subst hj; exact absurd hu (hct x s)
      ·rw [if_neg e] at hj;rw [g3,if_neg (oth hj (fun q=>e q.symm) hu)] at hd;exact .inr ⟨⟨j,u,hj,hu⟩,hd⟩
    ·rintro (hv | ⟨⟨j,u,hj,hu⟩,hd⟩)
     ·exact .inl ((g4 x s d).2 (.inl hv))
     ·by_cases e : j = i
      ·subst e;rw [ht] at hj; injection hj with hj; subst hj
       left;have hx : t.work.stand = x:=hu.2.2.2.2.1;have hs : t.work.ans.stamp = s:=hu.2.2.2.2.2;rw [<- hx,p1] at hd;injection hd with hd
       exact (g4 x s d).2 (.inr ⟨hx.symm,hs.symm,hd.symm⟩)
      ·right;refine ⟨Ex.other hj hu e,?_⟩;rw [g3,if_neg (oth hj e hu)]; exact hd
   ·simp only [hn];unfold PSt.unlock;simp only;split
    ·exact VeStep.set (Q:=P.setM _) ht rfl ((retires_es _ _ _).trans rfl) (none _ (fun _=>.inr (.inl (by show 12<=13; omega))) (.inr (.inl (by omega))))
    ·exact VeStep.set (Q:=P.setM (P.mem.unlock i)) ht rfl rfl (none _ (fun _=>.inr (.inl (by show 12<=13; omega))) (.inr (.inl (by omega))))
end
end
section
open Go.RowKit
def pickN (c n : Int) : Int:=(if c < 0 then -(c + 1) else c).tmod n
theorem pickN_in {c n : Int} (hn : 0 < n) : 0<=pickN c n/\pickN c n < n:=by
 unfold pickN;split
 ·exact ⟨Int.tmod_nonneg _ (by omega),Int.tmod_lt_of_pos _ hn⟩
 ·exact ⟨Int.tmod_nonneg _ (by omega),Int.tmod_lt_of_pos _ hn⟩
theorem lpick_calls (c n : Int) (hc : -9223372036854775808<=c/\c<=9223372036854775807) (hn : 0 < n/\n<=2 ^ 41) (w : World) :
  Calls Tryz.prog 31 #[.int .i64 c,.int .i64 n] w fun r w'=>r = .returned (.int .i64 (pickN c n))/\w' = w:=by
 obtain ⟨c1,c2⟩:=hc;obtain ⟨n1,n2⟩:=hn;have hne : (n == 0) = false:=by simp; omega
 have hne' : n≠0:=by omega
 have hp:=pickN_in (c:=c) n1;have HP : Hid (0<=pickN c n/\pickN c n < n):=hp;clear hp;by_cases h0 : c < 0
 ·have hv : pickN c n = (-(c + 1)).tmod n:=by unfold pickN; rw [if_pos h0]
  have hv' : pickN c n = (-1 + -c).tmod n:=by rw [hv]; congr 1; omega
  go_enter Tryz.func31,Tryz.ntmps31
  go_wp2;go_ret;exact ⟨by rw [hv,Int.neg_tmod]; rfl,rfl⟩
 ·have hv : pickN c n = c.tmod n:=by unfold pickN; rw [if_neg h0]
  go_enter Tryz.func31,Tryz.ntmps31
  go_wp2;go_ret;exact ⟨by rw [Int.tmod_eq_emod_of_nonneg h0]; rfl,rfl⟩
def raw (c : Int) : Prop:=-9223372036854775808<=c/\c<=9223372036854775807
def cT (threads t : Int) : Int:=threads + pickN t (9 - threads)
def cN (n : Int) : Int:=pickN n 65
def cE (e : Int) : Int:=1 + pickN e 256
def cL (l : Int) : Int:=pickN l 1099511627777
theorem cfg_ok (kind threads t n e l : Int) (hk : kind = 0\/kind = 1) (ht : threads = 1\/threads = 2) : okCfg kind (cT threads t) (cN n) (cE e) (cL l) = true/\threads<=cT threads t:=by
 have h1:=pickN_in (c:=t) (n:=9 - threads) (by omega);have h2:=pickN_in (c:=n) (n:=65) (by omega);have h3:=pickN_in (c:=e) (n:=256) (by omega);have h4:=pickN_in (c:=l) (n:=1099511627777) (by omega);refine ⟨?_,by unfold cT; omega⟩;unfold okCfg cT cN cE cL;rw [isIn_true (by omega),isIn_true (by omega),isIn_true (by omega),isIn_true (by omega),isIn_true (by omega)]
 rfl
theorem config_calls (k t n e l kind threads : Int) (w : World) (ht : raw t) (hn : raw n) (he : raw e) (hl : raw l) (hth : threads = 1\/threads = 2) :
  Calls Tryz.prog 41 #[cfg k t n e l,.int .i64 kind,.int .i64 threads] w fun r w'=>r = .returned (cfg kind (cT threads t) (cN n) (cE e) (cL l))/\Fr (fun _=>False) w w':=by
 have HT:=(mkH (raw t/\raw n/\raw e/\raw l) <|⟨ht,hn,he,hl⟩);have h1:=pickN_in (c:=t) (n:=9 - threads) (by omega);have h2:=pickN_in (c:=n) (n:=65) (by omega);have h3:=pickN_in (c:=e) (n:=256) (by omega);have h4:=pickN_in (c:=l) (n:=1099511627777) (by omega);obtain ⟨h1a,h1b⟩:=h1;obtain ⟨h2a,h2b⟩:=h2;obtain ⟨h3a,h3b⟩:=h3;obtain ⟨h4a,h4b⟩:=h4;have hta : 1<=threads/\threads<=2:=by omega
 obtain ⟨hta1,hta2⟩:=hta;have HE:=(mkH (cT threads t = threads + pickN t (9 - threads)/\cN n = pickN n 65/\cE e = 1 + pickN e 256/\cL l = pickN l 1099511627777) <|⟨rfl,rfl,rfl,rfl⟩);clear ht hn he hl hth;unfold cfg
 go_enter Tryz.func41,Tryz.ntmps41
 go_wp2_with fail;refine (lpick_calls t (9 - threads) HT.out.1 (by omega) _).mono ?_;rintro r w1 ⟨rfl,rfl⟩;go_wp2_with fail;refine (lpick_calls n 65 HT.out.2.1 (by omega) _).mono ?_;rintro r w1 ⟨rfl,rfl⟩;go_wp2_with fail;refine (lpick_calls e 256 HT.out.2.2.1 (by omega) _).mono ?_;rintro r w1 ⟨rfl,rfl⟩;go_wp2_with fail;refine (lpick_calls l 1099511627777 HT.out.2.2.2 (by omega) _).mono ?_;rintro r w1 ⟨rfl,rfl⟩;go_wp2;refine bodyPost_ret (v:=cfg kind (cT threads t) (cN n) (cE e) (cL l)) (by simp [results,Tryz.results41,go_sem,cfg,cT,cN,cE,cL]) rfl ⟨by unfold cfg; rfl,?_⟩
 repeat (with_reducible first | refine Fr.setNew (by simp) ?_ _ _ | refine Fr.alloc ?_ _ | exact Fr.refl _ _)
end
section
open Go.RowKit
theorem Tryz.infoBoolP : (Tryz.prog.info? 4).map (fun i=>(i.zero,i.size,i.bytes)) = some (some (.bool false),1,1):=by kernel_rfl
theorem Tryz.infoOpP : (Tryz.prog.info? 82).map (fun i=>(i.zero,i.size,i.bytes)) = some (some (.agg #[.int .i64 0,.int .i64 0,.int .i64 0,.slice none 0 0]),4,48):=by kernel_rfl
def blankOp : OpV:=⟨0,0,0,[],.slice none 0 0⟩
theorem rep_succ {α : Type} (a : α) (j : Nat) : List.replicate j a ++ [a] = List.replicate (j + 1) a:=by
 rw [List.replicate_succ']
theorem fit_fresh {t n e l : Int} (ht : 1<=t/\t<=8) (hl : 0<=l/\l<=1099511627776) : Fit 0 (freshP 0 t n e l):=by
 refine ⟨rfl,⟨by show (0 : Int)<=0; omega,hl.1⟩,hl.2,by simp [freshP]; omega,by simp [freshP,PSweep.zero],?_⟩;intro i u hu
 have:=(List.mem_replicate.1 (List.mem_of_getElem? (show (List.replicate t.toNat PThread.zero)[i]? = some u from hu))).2
 subst this;exact ⟨fun hb=>by simp [PThread.zero] at hb,SmallAns.zero rfl⟩
structure Grown (w0 w : World) (pb s : Nat) (t n e l : Int) (bv ov fv : Value) (jb jo jf : Nat) : Prop where
 at_ : At w pb [pv s,.int .i64 0,.int .i64 t,.int .i64 n,.int .i64 e,.int .i64 l,bv,ov,fv,.slice none 0 0,.int .i64 0,.int .i64 0] 80
 b : w.ownsRow 0 4 1 bv jb (boolCells (List.replicate jb false))
 o : w.ownsRow 0 82 4 ov jo ((List.replicate jo blankOp).flatMap OpV.cells)
 f : w.ownsRow 0 3 1 fv jf (intCells (List.replicate jf 0))
 nb : ∀ k,bv.ownBlock = some k->w0.heap.size<=k
 no : ∀ k,ov.ownBlock = some k->w0.heap.size<=k
 nf : ∀ k,fv.ownBlock = some k->w0.heap.size<=k
 np : w0.heap.size<=pb
 fr : Fr (fun _=>False) w0 w
section
variable {w0 w : World} {pb s : Nat} {t n e l : Int} {bv ov fv : Value} {jb jo jf : Nat}
theorem apartBlk {v u : Value} (h : v.ownBlock = none\/v.ownBlock≠u.ownBlock) : ∀ k,u.ownBlock = some k->¬ v.ownBlock = some k:=by
 intro k hk hb;rcases h with h1 | h1
 ·rw [h1] at hb; cases hb
 ·rw [hb,hk] at h1; exact h1 rfl
theorem Grown.pushB (h : Grown w0 w pb s t n e l bv ov fv jb jo jf) {w5 : World} {g cap : Nat} {ob : Obj} (hown : w5.ownsRow 0 4 1 (.slice (some ⟨g,0,none⟩) (jb + 1) cap) (jb + 1) (boolCells (List.replicate jb false) ++ [.bool false])) (hgr : (w.alloc ob).grownBy w5 bv.ownBlock) (hge : bv.ownBlock = some g\/w.heap.size<=g) :
  Grown w0 (w5.setCell ⟨pb,6,none⟩ (.slice (some ⟨g,0,none⟩) (jb + 1) cap)) pb s t n e l (.slice (some ⟨g,0,none⟩) (jb + 1) cap) ov fv (jb + 1) (jo) (jf):=by
 have hF : Fr (fun k=>bv.ownBlock = some k) w w5:=Fr.grown ((Fr.refl _ _).alloc ob) hgr (fun k hk=>.inl hk);have hA : At w5 pb _ 80:=hF.at h.at_ (h.at_.ne_row h.b (by decide));have hne:=hA.ne_row hown (by decide);have hr:=ownsRow_setOther hown (a:=⟨pb,6,none⟩) hne (.slice (some ⟨g,0,none⟩) (jb + 1) cap);have hn : ∀ k,(Value.slice (some ⟨g,0,none⟩) (jb + 1) cap).ownBlock = some k->w0.heap.size<=k:=by
  intro k hk;simp [Value.ownBlock] at hk;subst hk;rcases hge with h1 | h1
  ·exact h.nb _ h1
  ·have:=h.fr.size; omega
 refine ⟨hA.set 6 _,?_,ownsRow_setOther (hF.owns h.o (apartBlk (ownsRow_ne h.b h.o (by decide)))) (h.at_.ne_row h.o (by decide)) _,ownsRow_setOther (hF.owns h.f (apartBlk (ownsRow_ne h.b h.f (by decide)))) (h.at_.ne_row h.f (by decide)) _,hn,h.no,h.nf,h.np,Fr.setNew h.np (Fr.transNew h.fr hF (fun k hk=>.inr (h.nb k hk))) 6 _⟩;rw [show boolCells (List.replicate (jb + 1) false) = boolCells (List.replicate jb false) ++ [.bool false] from by rw [<- rep_succ]; simp [boolCells]];exact hr
theorem Grown.pushO (h : Grown w0 w pb s t n e l bv ov fv jb jo jf) {w5 : World} {g cap : Nat} {ob : Obj} (hown : w5.ownsRow 0 82 4 (.slice (some ⟨g,0,none⟩) (jo + 1) cap) (jo + 1) ((List.replicate jo blankOp).flatMap OpV.cells ++ [.int .i64 0,.int .i64 0,.int .i64 0,.slice none 0 0])) (hgr : (w.alloc ob).grownBy w5 ov.ownBlock) (hge : ov.ownBlock = some g\/w.heap.size<=g) :
  Grown w0 (w5.setCell ⟨pb,7,none⟩ (.slice (some ⟨g,0,none⟩) (jo + 1) cap)) pb s t n e l bv (.slice (some ⟨g,0,none⟩) (jo + 1) cap) fv (jb) (jo + 1) (jf):=by
 have hF : Fr (fun k=>ov.ownBlock = some k) w w5:=Fr.grown ((Fr.refl _ _).alloc ob) hgr (fun k hk=>.inl hk);have hA : At w5 pb _ 80:=hF.at h.at_ (h.at_.ne_row h.o (by decide));have hne:=hA.ne_row hown (by decide);have hr:=ownsRow_setOther hown (a:=⟨pb,7,none⟩) hne (.slice (some ⟨g,0,none⟩) (jo + 1) cap);have hn : ∀ k,(Value.slice (some ⟨g,0,none⟩) (jo + 1) cap).ownBlock = some k->w0.heap.size<=k:=by
  intro k hk;simp [Value.ownBlock] at hk;subst hk;rcases hge with h1 | h1
  ·exact h.no _ h1
  ·have:=h.fr.size; omega
 refine ⟨hA.set 7 _,ownsRow_setOther (hF.owns h.b (apartBlk (ownsRow_ne h.o h.b (by decide)))) (h.at_.ne_row h.b (by decide)) _,?_,ownsRow_setOther (hF.owns h.f (apartBlk (ownsRow_ne h.o h.f (by decide)))) (h.at_.ne_row h.f (by decide)) _,h.nb,hn,h.nf,h.np,Fr.setNew h.np (Fr.transNew h.fr hF (fun k hk=>.inr (h.no k hk))) 7 _⟩;rw [show (List.replicate (jo + 1) blankOp).flatMap OpV.cells = (List.replicate jo blankOp).flatMap OpV.cells ++ [.int .i64 0,.int .i64 0,.int .i64 0,.slice none 0 0] from by rw [<- rep_succ,List.flatMap_append]; rfl];exact hr
theorem Grown.pushF (h : Grown w0 w pb s t n e l bv ov fv jb jo jf) {w5 : World} {g cap : Nat} {ob : Obj} (hown : w5.ownsRow 0 3 1 (.slice (some ⟨g,0,none⟩) (jf + 1) cap) (jf + 1) (intCells (List.replicate jf 0) ++ [.int .i64 0])) (hgr : (w.alloc ob).grownBy w5 fv.ownBlock) (hge : fv.ownBlock = some g\/w.heap.size<=g) :
  Grown w0 (w5.setCell ⟨pb,8,none⟩ (.slice (some ⟨g,0,none⟩) (jf + 1) cap)) pb s t n e l bv ov (.slice (some ⟨g,0,none⟩) (jf + 1) cap) (jb) (jo) (jf + 1):=by
 have hF : Fr (fun k=>fv.ownBlock = some k) w w5:=Fr.grown ((Fr.refl _ _).alloc ob) hgr (fun k hk=>.inl hk);have hA : At w5 pb _ 80:=hF.at h.at_ (h.at_.ne_row h.f (by decide));have hne:=hA.ne_row hown (by decide);have hr:=ownsRow_setOther hown (a:=⟨pb,8,none⟩) hne (.slice (some ⟨g,0,none⟩) (jf + 1) cap);have hn : ∀ k,(Value.slice (some ⟨g,0,none⟩) (jf + 1) cap).ownBlock = some k->w0.heap.size<=k:=by
  intro k hk;simp [Value.ownBlock] at hk;subst hk;rcases hge with h1 | h1
  ·exact h.nf _ h1
  ·have:=h.fr.size; omega
 refine ⟨hA.set 8 _,ownsRow_setOther (hF.owns h.b (apartBlk (ownsRow_ne h.f h.b (by decide)))) (h.at_.ne_row h.b (by decide)) _,ownsRow_setOther (hF.owns h.o (apartBlk (ownsRow_ne h.f h.o (by decide)))) (h.at_.ne_row h.o (by decide)) _,?_,h.nb,h.no,hn,h.np,Fr.setNew h.np (Fr.transNew h.fr hF (fun k hk=>.inr (h.nf k hk))) 8 _⟩;rw [show intCells (List.replicate (jf + 1) 0) = intCells (List.replicate jf 0) ++ [.int .i64 0] from by rw [<- rep_succ]; simp [intCells]];exact hr
end
section
variable {own : Own} {z : Nat}
structure FreshPl (t n e l : Int) (D : PlD) : Prop where
 P : D.P = freshP 0 t n e l
 N : D.N = 0
 ok : D.ok
 cfg : D.k = 0/\D.t = t/\D.n = n/\D.e = e/\D.l = l
 deeds : D.deeds = []
 cnt : D.puts = 0/\D.takes = 0
theorem Grown.player {w w0 w' : World} {pb : Nat} {t n e l : Int} {bv ov fv : Value} {L : XLay} (ht : 1<=t/\t<=8) (hl : 0<=l/\l<=1099511627776) (hX : XAt w0 L (freshX 0 t n e l)) (hL : ∀ b,L.own b->w.heap.size<=b) (hw : w.heap.size<=w0.heap.size) (hf : Fr (fun _=>False) w w0)
  (h : Grown w0 w' pb L.s t n e l bv ov fv t.toNat t.toNat t.toNat) : ∃ own' D,PlAt own' z w' pb D/\Ext own own' w/\FreshPl t n e l D/\Fr (fun _=>False) w w':=by
 obtain ⟨own1,L',hZ,hE1,es⟩:=ZAt.ofNew (own:=own) (z:=z) (w:=w) hX hL ht.2;obtain ⟨own2,ho2⟩ : ∃ own2 : Own,own2 = fun k=>if k = pb then ⟨z + 1,.store⟩ else if bv.ownBlock = some k then ⟨z + 1,.oth 1⟩ else if ov.ownBlock = some k then ⟨z + 1,.oth 2⟩ else if fv.ownBlock = some k then ⟨z + 1,.oth 3⟩ else own1 k:=⟨_,rfl⟩
 have hE2 : Ext own1 own2 w0:=by
  intro k hk;rw [ho2];simp only;rw [if_neg (fun e=>by have:=h.np; omega),if_neg (fun e=>by have:=h.nb k e; omega),if_neg (fun e=>by have:=h.no k e; omega),if_neg (fun e=>by have:=h.nf k e; omega)]
 have pne : ∀ k v (n : Nat) xs T sz,w'.ownsRow 0 T sz v n xs->T≠80->v.ownBlock = some k->k≠pb:=by
  rintro k v n xs T sz hr hT hk rfl;exact h.at_.ne_row hr (fun e=>hT e.symm) hk
 have o1 : ∀ k,bv.ownBlock = some k->own2 k = ⟨z + 1,.oth 1⟩:=by
  intro k hk; rw [ho2]; simp only;rw [if_neg (pne k _ _ _ _ _ h.b (by decide) hk),if_pos hk]
 have o2 : ∀ k,ov.ownBlock = some k->own2 k = ⟨z + 1,.oth 2⟩:=by
  intro k hk; rw [ho2]; simp only;rw [if_neg (pne k _ _ _ _ _ h.o (by decide) hk),if_neg (apartBlk (ownsRow_ne h.b h.o (by decide)) k hk),if_pos hk]
 have o3 : ∀ k,fv.ownBlock = some k->own2 k = ⟨z + 1,.oth 3⟩:=by
  intro k hk; rw [ho2]; simp only;rw [if_neg (pne k _ _ _ _ _ h.f (by decide) hk),if_neg (apartBlk (ownsRow_ne h.b h.f (by decide)) k hk),if_neg (apartBlk (ownsRow_ne h.o h.f (by decide)) k hk),if_pos hk]
 have hop : own2 pb = ⟨z + 1,.store⟩:=by rw [ho2]; simp
 have hlen : (freshP 0 t n e l).ts.length = t.toNat:=by simp [freshP]
 refine ⟨own2,{ L:=L',P:=freshP 0 t n e l,N:=0,k:=0,t:=t,n:=n,e:=e,l:=l,bv:=bv,ov:=ov,fv:=fv,dv:=.slice none 0 0,bs:=List.replicate t.toNat false,ops:=List.replicate t.toNat blankOp,frm:=List.replicate t.toNat 0,deeds:=[],puts:=0,takes:=0 },⟨?_,hop,hZ.fr h.fr hE2 (fun _ _ h=>h),fit_fresh ht hl,by rw [hlen]; show t = _; omega,⟨by rw [hlen]; exact h.b,o1⟩,by rw [hlen]; simp,⟨by rw [hlen]; exact h.o,o2⟩,by rw [hlen]; simp,⟨by rw [hlen]; exact h.f,o3⟩,by rw [hlen]; simp,Row.nil _ _ _ _ _ _,?_,by simp⟩,?_,⟨rfl,rfl,?_,⟨rfl,rfl,rfl,rfl,rfl⟩,rfl,⟨rfl,rfl⟩⟩,hf.trans h.fr⟩
 ·have:=h.at_
  simp only [PlD.cells,es];exact this
 ·intro o ho
  have:=(List.mem_replicate.1 ho).2
  subst this;exact Row.nil _ _ _ _ _ _
 ·intro k hk; rw [hE2 k (by omega)]; exact hE1 k hk
 ·show List.replicate t.toNat false = (List.replicate t.toNat PThread.zero).map (·.busy);rw [List.map_replicate]; rfl
theorem player_calls (t n e l : Int) (w : World) (own : Own) (z : Nat) (hok : okCfg 0 t n e l = true) :
  Calls Tryz.prog 40 #[cfg 0 t n e l] w fun r w'=>∃ pb,r = .returned (pv pb)/\∃ own' D,PlAt own' z w' pb D/\Ext own own' w/\FreshPl t n e l D/\Fr (fun _=>False) w w':=by
 obtain ⟨_,ht,hn,he,hl⟩ : (0<=(0 : Int)/\(0 : Int)<=1)/\(1<=t/\t<=8)/\(0<=n/\n<=64)/\(1<=e/\e<=256)/\(0<=l/\l<=1099511627776):=by
  simp only [okCfg,Bool.and_eq_true,isIn_iff] at hok;omega
 obtain ⟨iB,hiB,hzB,hsB,hbB⟩:=info_parts Tryz.infoBoolP;obtain ⟨iO,hiO,hzO,hsO,hbO⟩:=info_parts Tryz.infoOpP;obtain ⟨iI,hiI,hzI,hsI,hbI⟩:=info_parts Tryz.infoIntZ;have HOK : Hid _:=hok;have HLm:=(mkH (0<=l/\l<=1099511627776) <|hl);obtain ⟨ht1,ht2⟩:=ht;clear hok hn he hl;unfold cfg
 go_enter Tryz.func40,Tryz.ntmps40
 go_wp2_with fail;refine (XNew_yes 0 t n e l _ HOK.out).mono ?_;rintro r w1 ⟨L,rfl,hX,hF1,hL⟩;have hC : At w1 w.heap.size [.int .i64 0,.int .i64 t,.int .i64 n,.int .i64 e,.int .i64 l] 23:=hF1.at (At.new w _ _) (fun h=>h);have hcc:=hC.cell;have HC:=(mkH (At w1 w.heap.size _ 23) <|hC);have HF1:=(mkH (Fr (fun _=>False) w w1) <|((Fr.refl _ _).alloc _).trans hF1);have HX:=(mkH (XAt _ _ _) <|hX);simp only [World.size_alloc] at hL;have HL:=(mkH (∀ b,L.own b->w.heap.size<=b) <|fun b hb=>by have:=hL b hb; omega);clear hF1 hC hX hL;go_wp2_with fail;have HG0 : Hid (Grown w1 (w1.alloc (.cells #[.pointer (some ⟨L.s,0,none⟩),.int .i64 0,.int .i64 t,.int .i64 n,.int .i64 e,.int .i64 l,.slice none 0 0,.slice none 0 0,.slice none 0 0,.slice none 0 0,.int .i64 0,.int .i64 0] 80)) w1.heap.size L.s t n e l (.slice none 0 0) (.slice none 0 0) (.slice none 0 0) 0 0 0) :=
  ⟨At.new w1 _ _,⟨by simp [boolCells],.inl ⟨rfl,rfl⟩⟩,⟨by simp,.inl ⟨rfl,rfl⟩⟩,⟨by simp [intCells],.inl ⟨rfl,rfl⟩⟩,by intro k hk; simp [Value.ownBlock] at hk,by intro k hk; simp [Value.ownBlock] at hk,by intro k hk; simp [Value.ownBlock] at hk,Nat.le_refl _,(Fr.refl _ _).alloc _⟩
 generalize hpb : w1.heap.size = pb at HG0 ⊢;clear hcc
 go_loopw [6] (fun i wr=>∃ j : Nat,(j : Int)<=t/\i = .int .i64 j/\∃ bv ov fv,Hid (Grown w1 wr pb L.s t n e l bv ov fv j j j)) (fun i _=>(t - intOf i).toNat)
 case atStart=>exact ⟨0,by omega,rfl,_,_,_,HG0⟩
 case round =>
  clear HG0;obtain ⟨j,hj,rfl,bv,ov,fv,HG⟩:=hrel;have hcc:=(HG.out.fr.at HC.out (fun h=>h)).cell;have ha:=HG.out.at_.cell;have hz:=HG.out.at_.frozen;have hpl:=HG.out.at_.lt;simp only [pv] at ha;by_cases hlt : (j : Int) < t
  ·have hne : w.heap.size≠pb:=(HG.out.fr.at HC.out (fun h=>h)).ne HG.out.at_ (by decide);obtain ⟨ba,bc,hbv⟩:=ownsShape HG.out.b;obtain ⟨oa,oc,hov⟩:=ownsShape HG.out.o;obtain ⟨fa,fc,hfv⟩:=ownsShape HG.out.f;subst hbv hov hfv;go_wp2_with (at_builtin; refine wpList_push _ rfl _ _ 75 rfl 0 4 iB _ 1 1 Tryz.underlying75 hiB hzB hsB hbB rfl (by decide) _ _ _ rfl (ownsRow_alloc HG.out.b _) wr.heap.size [.bool false] rfl rfl 4 (At.newAt (by simp) _ _) (by simp [Value.oneCell']) (by unfold maxLen; omega) (by omega) (by simp) ?_);intro g1 k1 w2 hown hgr hge;have hA2 : At w2 pb _ 80:=(Fr.grown ((Fr.refl (fun k=>(Value.slice ba j bc).ownBlock = some k) wr).alloc _) hgr (fun k hk=>.inl hk)).at HG.out.at_ (HG.out.at_.ne_row HG.out.b (by decide));have HG1:=(mkH (Grown w1 _ pb L.s t n e l _ _ _ (j + 1) j j) <|HG.out.pushB hown hgr (by rcases hge with h | h; exact .inl h; exact .inr (by first | omega | (simp at h; omega))));have ha2:=hA2.cell;have hz2:=hA2.frozen;have hl2:=hA2.lt;simp only [pv] at ha2;clear hown hgr hge hA2 ha hz hpl HG hcc;obtain ⟨w3,hw3⟩ : ∃ w3,w3 = w2.setCell ⟨pb,6,none⟩ (.slice (some ⟨g1,0,none⟩) (j + 1) k1):=⟨_,rfl⟩;rw [<- hw3] at HG1;have ha3 : ∀ o,(w2.setCell ⟨pb,6,none⟩ (.slice (some ⟨g1,0,none⟩) (j + 1) k1)).cell? ⟨pb,o,none⟩ = [Value.pointer (some ⟨L.s,0,none⟩),.int .i64 0,.int .i64 t,.int .i64 n,.int .i64 e,.int .i64 l,.slice (some ⟨g1,0,none⟩) (j + 1) k1,.slice oa j oc,.slice fa j fc,.slice none 0 0,.int .i64 0,.int .i64 0][o]?:=by rw [<- hw3]; exact HG1.out.at_.cell
   have hR1 : (w2.setCell ⟨pb,6,none⟩ (.slice (some ⟨g1,0,none⟩) (j + 1) k1)).ownsRow 0 82 4 (.slice oa j oc) j ((List.replicate j blankOp).flatMap OpV.cells):=by rw [<- hw3]; exact HG1.out.o
   have HR1:=(mkH (World.ownsRow _ 0 _ _ _ _ _) <|hR1);clear hR1;go_wp2_with (at_builtin; refine wpList_push _ rfl _ _ 76 rfl 0 82 iO _ 4 48 Tryz.underlying76 hiO hzO hsO hbO rfl (by decide) _ _ _ rfl (ownsRow_alloc HR1.out _) w2.heap.size [.int .i64 0,.int .i64 0,.int .i64 0,.slice none 0 0] rfl rfl 82 (At.newAt (by simp) _ _) (by simp [Value.oneCell']) (by unfold maxLen; omega) (by omega) (by simp) ?_);intro g2 k2 w4 hown hgr hge;rw [<- hw3] at hgr;have hA4 : At w4 pb _ 80:=(Fr.grown ((Fr.refl (fun k=>(Value.slice oa j oc).ownBlock = some k) w3).alloc _) hgr (fun k hk=>.inl hk)).at HG1.out.at_ (HG1.out.at_.ne_row HG1.out.o (by decide));have HG2:=(mkH (Grown w1 _ pb L.s t n e l _ _ _ (j + 1) (j + 1) j) <|HG1.out.pushO hown hgr (by rcases hge with h | h; exact .inl h; exact .inr (by rw [hw3]; first | omega | (simp at h ⊢; omega))));have ha4:=hA4.cell;have hz4:=hA4.frozen;have hl4:=hA4.lt;simp only [pv] at ha4;clear hown hgr hge hA4 ha2 hz2 hl2 HG1 ha3 hw3 HR1;obtain ⟨w5,hw5⟩ : ∃ w5,w5 = w4.setCell ⟨pb,7,none⟩ (.slice (some ⟨g2,0,none⟩) (j + 1) k2):=⟨_,rfl⟩;rw [<- hw5] at HG2;have ha5 : ∀ o,(w4.setCell ⟨pb,7,none⟩ (.slice (some ⟨g2,0,none⟩) (j + 1) k2)).cell? ⟨pb,o,none⟩ = [Value.pointer (some ⟨L.s,0,none⟩),.int .i64 0,.int .i64 t,.int .i64 n,.int .i64 e,.int .i64 l,.slice (some ⟨g1,0,none⟩) (j + 1) k1,.slice (some ⟨g2,0,none⟩) (j + 1) k2,.slice fa j fc,.slice none 0 0,.int .i64 0,.int .i64 0][o]?:=by rw [<- hw5]; exact HG2.out.at_.cell
   have HR2:=(mkH ((w4.setCell ⟨pb,7,none⟩ (.slice (some ⟨g2,0,none⟩) (j + 1) k2)).ownsRow 0 3 1 (.slice fa j fc) j (intCells (List.replicate j 0))) <|by rw [<- hw5]; exact HG2.out.f);go_wp2_with (at_builtin; refine wpList_push _ rfl _ _ 77 rfl 0 3 iI _ 1 8 Tryz.underlying77 hiI hzI hsI hbI rfl (by decide) _ _ _ rfl (ownsRow_alloc HR2.out _) w4.heap.size [.int .i64 0] rfl rfl 3 (At.newAt (by simp) _ _) (by simp [Value.oneCell']) (by unfold maxLen; omega) (by omega) (by simp) ?_);intro g3 k3 w6 hown hgr hge;rw [<- hw5] at hgr;have hA6 : At w6 pb _ 80:=(Fr.grown ((Fr.refl (fun k=>(Value.slice fa j fc).ownBlock = some k) w5).alloc _) hgr (fun k hk=>.inl hk)).at HG2.out.at_ (HG2.out.at_.ne_row HG2.out.f (by decide));have HG3:=(mkH (Grown w1 _ pb L.s t n e l _ _ _ (j + 1) (j + 1) (j + 1)) <|HG2.out.pushF hown hgr (by rcases hge with h | h; exact .inl h; exact .inr (by rw [hw5]; first | omega | (simp at h ⊢; omega))));have ha6:=hA6.cell;have hz6:=hA6.frozen;have hl6:=hA6.lt;simp only [pv] at ha6;clear hown hgr hge hA6 ha4 hz4 hl4 HG2 ha5 hw5 HR2;go_wp2
   go_roundw
   case rel=>exact ⟨j + 1,by omega,by go_num,_,_,_,HG3⟩
   case measure=>simp [intOf]; omega
  ·have hjt : j = t.toNat:=by omega
   have HGt:=(mkH (Grown w1 wr pb L.s t n e l bv ov fv t.toNat t.toNat t.toNat) <|by rw [<- hjt]; exact HG.out);clear hjt;go_wp2;go_ret;obtain ⟨own',D,h1,h2,h3,h4⟩:=HGt.out.player (own:=own) (z:=z) ⟨ht1,ht2⟩ HLm.out HX.out HL.out HF1.out.size HF1.out;exact ⟨pb,rfl,own',D,h1,h2,h3,h4⟩
end
end
section
open Go.RowKit
def PSt.iter (P : PSt) (i : Nat) : Nat->PSt
 | 0=>P
 | j + 1=>((P.iter i j).step i ((P.iter i j).th i)).1
def PSt.how (P : PSt) (i j : Nat) : Int:=((P.iter i j).step i ((P.iter i j).th i)).2
def PSt.swIter (P : PSt) : Nat->PSt
 | 0=>P
 | j + 1=>(P.swIter j).doSweep.1
structure Iter (D : PlD) (i j : Nat) (D' : PlD) : Prop where
 P : D'.P = D.P.iter i j
 N : D'.N = D.N + j
 cfg : D'.k = D.k/\D'.t = D.t/\D'.n = D.n/\D'.e = D.e/\D'.l = D.l
 same : D'.ops = D.ops/\D'.frm = D.frm/\D'.puts = D.puts/\D'.takes = D.takes/\D'.bs = D.bs/\D'.deeds = D.deeds
 busy : ∃ t,D'.P.ts[i]? = some t/\t.busy = true
structure Soloed (D : PlD) (i m : Nat) (D' : PlD) : Prop where
 P : D'.P = D.P.iter i (m + 1)
 N : D'.N = D.N + m + 1
 cfg : D'.k = D.k/\D'.t = D.t/\D'.n = D.n/\D'.e = D.e/\D'.l = D.l
 same : D'.ops = D.ops/\D'.frm = D.frm/\D'.puts = D.puts/\D'.takes = D.takes
 bs : D'.bs = D.bs.set i false
 deeds : ∃ av o f,D.ops[i]? = some o/\D.frm[i]? = some f/\D'.deeds = D.deeds ++ [⟨o,((D.P.iter i m).th i).work.ans,av,f⟩]
section
variable {own : Own} {z : Nat} {w w' : World} {pb : Nat} {D D1 : PlD} {i j : Nat} {t : PThread}
theorem th_of {P : PSt} (h : P.ts[i]? = some t) : P.th i = t:=by simp [PSt.th,h]
theorem Iter.next (h : Iter D i j D1) (hf : Fit D1.N D1.P) {D2 : PlD} (hs : Stepped D1 i (D1.P.th i) D2) (h1 : D.P.how i j = 1) : Iter D i (j + 1) D2:=by
 obtain ⟨t,ht,hb⟩:=h.busy;have hth:=th_of ht;have hP : D2.P = D.P.iter i (j + 1):=by rw [hs.P,PSt.iter,h.P]
 have h2 : (D1.P.step i (D1.P.th i)).2 = 1:=by rw [h.P]; exact h1
 refine ⟨hP,by rw [hs.N,h.N]; omega,?_,⟨hs.ops.trans h.same.1,hs.frm.trans h.same.2.1,hs.cnt.1.trans h.same.2.2.1,hs.cnt.2.trans h.same.2.2.2.1,?_,?_⟩,?_⟩
 ·obtain ⟨a1,a2,a3,a4,a5⟩:=hs.cfg;obtain ⟨b1,b2,b3,b4,b5⟩:=h.cfg;exact ⟨a1.trans b1,a2.trans b2,a3.trans b3,a4.trans b4,a5.trans b5⟩
 ·rw [hs.bs,if_neg (by omega)]; exact h.same.2.2.2.2.1
 ·rw [hs.deeds.1 (by omega)]; exact h.same.2.2.2.2.2
 ·rw [hth] at h2 hs;obtain ⟨M,c,t',e,_,_,_,hb',_⟩:=(hf.turn ht hb).to;refine ⟨t',?_,?_⟩
  ·rw [hs.P,e]
   have:=(List.getElem?_eq_some_iff.1 ht).1
   simp [this]
  ·rw [hb',if_neg (by omega)]
theorem Psolo_calls (h : PlAt own z w pb D) (hn : 0<=D.n/\D.n<=64) (hb : D.bs[i]? = some true) (ht : D.P.ts[i]? = some t) (htb : t.busy = true) (hN : D.N<=2 ^ 38) (hdl : D.deeds.length<=2 ^ 38) (m : Nat) (hm : (m : Int) < D.n + 16) (hmv : ∀ j,j < m->D.P.how i j = 1) (hend : D.P.how i m = 3) :
  Calls Tryz.prog 51 #[pv pb,.int .i64 i] w fun r w'=>r = .returned (.bool true)/\PlGoes own z w pb w' (Soloed D i m):=by
 obtain ⟨hn1,hn2⟩:=hn;have H:=(mkH (PlAt own z w pb D) <|h);have HI:=(mkH (Iter D i 0 D) <|⟨rfl,rfl,⟨rfl,rfl,rfl,rfl,rfl⟩,⟨rfl,rfl,rfl,rfl,rfl,rfl⟩,t,ht,htb⟩);have HB:=(mkH (D.bs[i]? = some true) <|hb);have HM:=(mkH (∀ j,j < m->D.P.how i j = 1) <|hmv);have HE:=(mkH (D.P.how i m = 3) <|hend);clear h ht htb hb hmv hend;unfold pv
 go_enter Tryz.func51,Tryz.ntmps51
 go_wp2
 go_loopw [5] (fun v wr=>∃ j : Nat,j<=m/\v = .int .i64 j/\Hid (PlGoes own z w pb wr (Iter D i j))) (fun v _=>m + 1 - (intOf v).toNat)
 case atStart=>exact ⟨0,by omega,rfl,own,D,H.out,Ext.refl _ _,Fr.refl _ _,HI.out⟩
 case round =>
  clear H;obtain ⟨j,hj,rfl,HG⟩:=hrel;obtain ⟨own1,D1,hP,hE,hF,hI⟩:=HG.out;have HP:=(mkH (PlAt own1 z wr pb D1) <|hP);have HX:=(mkH (Ext own own1 w/\FrP own z w wr) <|⟨hE,hF⟩);have HIt:=(mkH (Iter D i j D1) <|hI);have ha:=hP.at_.cell;simp only [PlD.cells,hI.cfg.2.2.1,pv] at ha;clear hP hE hF hI HG;obtain ⟨t1,ht1,hb1⟩:=HIt.out.busy;have HT:=(mkH (D1.P.ts[i]? = some t1/\t1.busy = true/\D1.P.th i = t1) <|⟨ht1,hb1,th_of ht1⟩);have HBs:=(mkH (D1.bs[i]? = some true) <|by show _ = _; rw [HIt.out.same.2.2.2.2.1]; exact HB.out);have HD:=(mkH (D1.N < 2 ^ 39/\D1.deeds.length<=2 ^ 38) <|⟨by rw [HIt.out.N]; omega,by rw [HIt.out.same.2.2.2.2.2]; exact hdl⟩);clear ht1 hb1;by_cases hlt : j < m
  ·have h1:=HM.out j hlt;have HH:=(mkH ((D1.P.step i t1).2 = 1) <|by show _ = _; rw [<- HT.out.2.2,HIt.out.P]; exact h1);go_wp2_with fail;refine (Psteps_on HP.out HBs.out HT.out.1 HT.out.2.1 HD.out.1 (by rw [HH.out]; decide)).mono ?_;rw [HH.out];rintro r w2 ⟨rfl,own2,D2,hP2,hE2,hF2,hS2⟩;have HG2:=(mkH (PlGoes own z w pb w2 (Iter D i (j + 1))) <|PlGoes.trans HX.out.1 HX.out.2 ⟨own2,D2,hP2,hE2,hF2,HIt.out.next HP.out.fit (by rw [HT.out.2.2]; exact hS2) h1⟩);clear hP2 hE2 hF2 hS2 h1;go_wp2
   go_roundw
   case rel=>exact ⟨j + 1,by omega,by go_num,HG2⟩
   case measure=>simp [intOf]; omega
  ·have hjm : Hid (j = m):=by show j = m; omega
   have HH:=(mkH ((D1.P.step i t1).2 = 3) <|by show _ = _; rw [<- HT.out.2.2,HIt.out.P,hjm.out]; exact HE.out);go_wp2_with fail;refine (Psteps_end HP.out HBs.out HT.out.1 HT.out.2.1 HD.out.1 HD.out.2 HH.out).mono ?_;rintro r w2 ⟨rfl,own2,D2,hP2,hE2,hF2,hS2⟩;have HG2:=(mkH (PlGoes own z w pb w2 (Soloed D i m)) <|PlGoes.trans HX.out.1 HX.out.2 ⟨own2,D2,hP2,hE2,hF2,by
    have hI:=HIt.out;rw [hjm.out] at hI;obtain ⟨av,o,f,q1,q2,q3⟩:=hS2.deeds.2 HH.out;refine ⟨?_,by rw [hS2.N,hI.N],?_,⟨hS2.ops.trans hI.same.1,hS2.frm.trans hI.same.2.1,hS2.cnt.1.trans hI.same.2.2.1,hS2.cnt.2.trans hI.same.2.2.2.1⟩,?_,?_⟩
    ·rw [hS2.P,PSt.iter,<- hI.P,HT.out.2.2]
    ·obtain ⟨a1,a2,a3,a4,a5⟩:=hS2.cfg;obtain ⟨b1,b2,b3,b4,b5⟩:=hI.cfg;exact ⟨a1.trans b1,a2.trans b2,a3.trans b3,a4.trans b4,a5.trans b5⟩
    ·rw [hS2.bs,if_pos HH.out,hI.same.2.2.2.2.1]
    ·refine ⟨av,o,f,by rw [<- hI.same.1]; exact q1,by rw [<- hI.same.2.1]; exact q2,?_⟩;rw [q3,hI.same.2.2.2.2.2,<- hI.P,HT.out.2.2]⟩)
   clear hP2 hE2 hF2 hS2;go_wp2;go_ret;exact ⟨rfl,HG2.out⟩
end
end
end Go.Proofs.YtfccelbmacjifaaGreat
