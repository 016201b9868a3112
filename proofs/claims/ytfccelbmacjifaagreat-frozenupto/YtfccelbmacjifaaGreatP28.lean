import Derived.Test.YtfccelbmacjifaaGreatP0
import Derived.Test.YtfccelbmacjifaaGreatP25
import Derived.Test.YtfccelbmacjifaaGreatP27
set_option linter.unusedSimpArgs false
set_option maxRecDepth 100000
set_option maxHeartbeats 4000000
namespace Go.Proofs.YtfccelbmacjifaaGreat
section
section
variable {C : Int->Prop} {Rt : Int->List (Int × Int)} {Vt : Int->Int->Prop} {i j : Nat} {t t' : PThread} {P : PSt} {x s d : Int} {ts : List PThread}
theorem InvV.sweep (hV : InvV C Rt Vt P) (h : Inv C P) : InvV C Rt Vt P.doSweep.1:=by
 obtain ⟨now,set,fv,rd⟩:=hV;unfold PSt.doSweep;simp only;split
 ·exact ⟨now,set,fv,rd⟩
 ·next hm0 =>
  split
  ·split <;> exact ⟨now,set,fv,rd⟩
  ·next hl =>
   -- all have been looked at
   have pass : ∀ (i : Nat) u,P.ts[i]? = some u->Rdr u->(P.sweep.hasTime = true/\P.sweep.time<=u.work.time)\/P.sweep.clock<=u.work.time:=by
    intro i u hu hr;have hil:=(List.getElem?_eq_some_iff.1 hu).1;exact ((h.th i u hu).tm hr.1 hr.2.2.1).2 (by omega)
   split
   ·have he : ∀ e,e = (if (P.sweep.hasTime && decide (P.sweep.time < P.sweep.clock)) = true then P.sweep.time else P.sweep.clock)->e<=P.sweep.clock/\(P.sweep.hasTime = true->e<=P.sweep.time):=by
     rintro e rfl;split
     ·next hh=>simp at hh; exact ⟨by omega,fun _=>Int.le_refl _⟩
     ·next hh =>
      refine ⟨Int.le_refl _,fun e=>?_⟩;simp [e] at hh; exact hh
    have he:=he _ rfl;generalize (if (P.sweep.hasTime && decide (P.sweep.time < P.sweep.clock)) = true then P.sweep.time else P.sweep.clock) = e at *;obtain ⟨g1,g2,g3,g4⟩:=drop_ok h.wm e;have hnd:=node_ns g1;generalize P.mem.drop e = M1 at *;have ver : ∀ R V T,Ver P.mem P.ts R V T->e<=T->Ver M1 P.ts R V T:=by
     intro R V T hR hT;refine hR.mono (fun x _=>by simp only [Ky]; rw [hnd]) ?_ ?_ ?_
     ·intro x hx;obtain ⟨d1,_,_,d4⟩:=hR.d x hx;simp only [Us,Re,Ra]; rw [hnd];exact ⟨rfl,d1,d4⟩
     ·rintro x s d _ (q | ⟨q1,q2⟩) hs hg
      ·refine .inl ((g4 x s d).2 ⟨q,?_⟩);intro s' d' q' hlt hle
       have:=hg s' d' (.inl q') (by omega)
       omega
      ·exact .inr ⟨q1,by rw [g3]; exact q2⟩
     ·rintro x s d _ (q | ⟨q1,q2⟩) _
      ·exact .inl ((g4 x s d).1 q).1
      ·exact .inr ⟨q1,by rw [g3] at q2; exact q2⟩
    refine ⟨ver _ _ _ now (by have:=h.o.sc; show e<=P.clock; omega),set,?_,?_⟩
    ·intro j u hj x hf;show (M1.node x).value = _;rw [hnd]; exact fv j u hj x hf
    ·intro j u hj hr;refine ver _ _ _ (rd j u hj hr) ?_;rcases pass j u hj hr with q | q
     ·have:=he.2 q.1; omega
     ·omega
   ·next hne =>
    have hre : ∀ x,InSw P.sweep x->Re P.mem x/\De P.mem x/\¬ C x/\x≠0/\x≠1:=by
     intro x hx;have h1:=(h.o.sw x hx).1;obtain ⟨h2,h3,_⟩:=h.n.mr x h1;refine ⟨h1,h2,h3,?_,?_⟩
     ·rintro rfl; exact h3 h.n.a0.1
     ·rintro rfl; simp only [De] at h2; rw [h.n.a1.2.2.2.1] at h2; cases h2
    obtain ⟨g1,g2,g3⟩:=freesIf_ok P.sweep.hasTime P.sweep.time P.sweep.retired P.mem h.wm (by
     intro n hn;obtain ⟨_,h2,_,h4,h5⟩:=hre (n : Int) ⟨n,hn,rfl⟩;exact ⟨hasN_used (h.n.md _ h2).1,h4,h5⟩)
    generalize P.mem.freesIf P.sweep.hasTime P.sweep.time P.sweep.retired = M1 at *;have ver : ∀ R V T,Ver P.mem P.ts R V T->(∀ x,InSw P.sweep x->(P.sweep.hasTime = true->Ra P.mem x < P.sweep.time)->Ra P.mem x<=T)->Ver M1 P.ts R V T:=by
     intro R V T hR hT;have stay : ∀ x,(x = 0\/x = 1\/V x)->¬ Gone P.mem P.sweep.hasTime P.sweep.time P.sweep.retired x:=by
      rintro x hx ⟨hin,hc⟩;obtain ⟨q1,q2,q3,q4,q5⟩:=hre x hin;rcases hx with hx | hx | hx
      ·exact q4 hx
      ·exact q5 hx
      ·have h1:=(hR.d x hx).2.2.2 q1;have h2:=hT x hin hc;omega
     have nd : ∀ x,(x = 0\/x = 1\/V x)->M1.node x = P.mem.node x:=fun x hx=>((g3 x).2 (stay x hx)).1
     refine hR.mono (fun x hx=>by simp only [Ky]; rw [nd x hx]) ?_ ?_ ?_
     ·intro x hx;obtain ⟨d1,_,_,d4⟩:=hR.d x hx;simp only [Us,Re,Ra]; rw [nd x (.inr (.inr hx))];exact ⟨rfl,d1,d4⟩
     ·intro x s d hx hv _ _;have hst:=(g3 x).2 (stay x (by rcases hx with q | q; exact .inl q; exact .inr (.inr q)));rcases hv with q | ⟨q1,q2⟩
      ·exact .inl ((hst.2.2 s d).2 q)
      ·exact .inr ⟨q1,by rw [hst.2.1]; exact q2⟩
     ·intro x s d hx hv _;have hst:=(g3 x).2 (stay x (by rcases hx with q | q; exact .inl q; exact .inr (.inr q)));rcases hv with q | ⟨q1,q2⟩
      ·exact .inl ((hst.2.2 s d).1 q)
      ·exact .inr ⟨q1,by rw [hst.2.1] at q2; exact q2⟩
    refine ⟨ver _ _ _ now ?_,set,?_,?_⟩
    ·intro x hx _
     have:=(h.o.sw x hx).2
     have:=h.o.sc.1
     show _<=P.clock;omega
    ·intro j u hj x hf;show (M1.node x).value = _;have hng : ¬ Gone P.mem P.sweep.hasTime P.sweep.time P.sweep.retired x:=by
      rintro ⟨hin,_⟩;have hd:=(hre x hin).2.1;obtain ⟨f1,f2,f3,f4⟩:=hf;obtain ⟨n,g1',_,_,_,_,g6,_⟩:=(h.th j u hj).f8 f1 f2 f3;rw [mem_one g1' f4] at hd;simp only [De] at hd; rw [g6] at hd; cases hd
     rw [((g3 x).2 hng).1]; exact fv j u hj x hf
    ·intro j u hj hr;refine ver _ _ _ (rd j u hj hr) ?_;intro x hx hc;have h1:=(h.o.sw x hx).2;rcases pass j u hj hr with q | q
     ·have:=hc q.1; omega
     ·omega
def readAns (R : List (Int × Int)) (k : PWork) : BAns:=if k.kind = 3 then { stamp:=k.time,did:=(shVal R k.key).2,value:=(shVal R k.key).1 } else answerOf k.spans R k.time
structure RPos (M : PMem) (R : List (Int × Int)) (V : Int->Prop) (t : PThread) : Prop where
 sp : t.busy = true->t.work.kind = 4->spansOkX t.work.spans = true
 no : t.busy = true->t.work.kind = 4->t.work.next<=3->t.work.noted = []
 lo : t.busy = true->t.work.kind = 3->t.work.next = 4->t.work.stand = 0\/V t.work.stand
 sc : t.busy = true->t.work.kind = 4->t.work.next = 4->∃ x,t.work.links = [(x,false)]/\(x = 0\/V x)/\t.work.noted = R.filter (fun p=>isIn p.1 (leastLo t.work.spans) (greatestHi t.work.spans) && decide (x≠0/\p.1<=Ky M x))
 an : t.busy = true->(t.work.kind = 3\/t.work.kind = 4)->t.work.next = 13->t.work.ans = readAns R t.work
def InvR (Rt : Int->List (Int × Int)) (Vt : Int->Int->Prop) (P : PSt) : Prop:=∀ (i : Nat) t,P.ts[i]? = some t->RPos P.mem (Rt t.work.time) (Vt t.work.time) t
theorem filt_next {q : Int × Int->Bool} {a b v : Int} {z : Bool} : ∀ {R : List (Int × Int)},Srt R->(b,v) ∈ R->(∀ p ∈ R,(z = true\/a < p.1)->b<=p.1)->(z = true\/a < b) ->
  R.filter (fun p=>q p && decide (p.1<=b)) = R.filter (fun p=>q p && (!z && decide (p.1<=a))) ++ (if q (b,v) then [(b,v)] else [])
 | [],_,h,_,_=>by cases h
 | p :: R,hs,hm,hg,hab=>by
  have hs' : Srt R:=(List.pairwise_cons.1 hs).2;have hlt : ∀ r ∈ R,p.1 < r.1:=(List.pairwise_cons.1 hs).1;rcases List.mem_cons.1 hm with e | hm'
  ·-- it is the first
   subst e;have e1 : R.filter (fun p=>q p && decide (p.1<=b)) = []:=by
    rw [List.filter_eq_nil_iff];intro r hr
    have:=hlt r hr
    simp only at this
    simp; intro _; omega
   have e2 : R.filter (fun p=>q p && (!z && decide (p.1<=a))) = []:=by
    rw [List.filter_eq_nil_iff];intro r hr
    have:=hlt r hr
    simp only at this;rcases hab with hz | hab
    ·simp [hz]
    ·simp; intro _ _; omega
   have e3 : (q (b,v) && (!z && decide (b<=a))) = false:=by
    rcases hab with hz | hab
    ·simp [hz]
    ·simp; intro _ _; omega
   rw [List.filter_cons,List.filter_cons,e1,e2];simp only [e3,Int.le_refl,decide_true,Bool.and_true];split <;> rfl
  ·have hpb : p.1 < b:=hlt _ hm';have ih:=filt_next (q:=q) (a:=a) (b:=b) (v:=v) (z:=z) hs' hm' (fun r hr=>hg r (by simp [hr])) hab;have hz : z = false/\p.1<=a:=by
    rcases Decidable.em (z = true\/a < p.1) with hh | hh
    ·have:=hg p (by simp) hh; omega
    ·simp only [not_or,Bool.not_eq_true] at hh; exact ⟨hh.1,by omega⟩
   rw [List.filter_cons,List.filter_cons,ih];have e1 : decide (p.1<=b) = true:=decide_eq_true (by omega);have e2 : decide (p.1<=a) = true:=decide_eq_true hz.2;rw [e1,e2,hz.1];simp only [Bool.and_true,Bool.not_false];split <;> rfl
end
end
section
section
variable {C : Int->Prop} {Rt Rt' : Int->List (Int × Int)} {Vt Vt' : Int->Int->Prop} {i j : Nat} {t t' : PThread} {P : PSt} {x s d : Int} {ts : List PThread}
theorem Inv.ledIs (h : Inv C P) {R : List (Int × Int)} {V : Int->Prop} {T : Int} (hR : Ver P.mem P.ts R V T) (hx : x = 0\/V x) (hp : Pd P.mem x = []) :
  (P.mem.ledTo x false T = 1\/V (P.mem.ledTo x false T))/\Lt P.mem x (P.mem.ledTo x false T)/\∀ p ∈ R,(x = 0\/Ky P.mem x < p.1)->P.mem.ledTo x false T≠1/\Ky P.mem (P.mem.ledTo x false T)<=p.1:=by
 obtain ⟨s,y,g1,g2,g3,g4,g5,g6⟩:=hR.g x hx;have hsd : ∀ s d,VE P.mem P.ts x s d->Sd P.mem x s d:=by
  rintro s d (q | ⟨_,q⟩)
  ·exact q
  ·rw [hp] at q; cases q
 have g1':=hsd _ _ g1;have hy : P.mem.ledTo x false T = y:=by
  rcases ledTo_ok (M:=P.mem) (n:=x) (time:=T) (fun s d hh=>(h.e.ms x s d hh).2.2.1) with ⟨_,q⟩ | ⟨s2,q1,q2,q3⟩
  ·exact absurd g2 (q s y g1')
  ·have:=q3 s y g1' g2
   rcases g3 s2 _ (.inl q1) q2 with z | z
   ·omega
   ·exact z.2
 rw [hy]; exact ⟨g4,g5,g6⟩
theorem readAns3 (R : List (Int × Int)) (k : PWork) (h : k.kind = 3) : readAns R k = { stamp:=k.time,did:=(shVal R k.key).2,value:=(shVal R k.key).1 }:=by unfold readAns; rw [if_pos h]
theorem readAns4 (R : List (Int × Int)) (k : PWork) (h : k.kind≠3) : readAns R k = answerOf k.spans R k.time:=by unfold readAns; rw [if_neg h]
theorem RPos.upd {M : PMem} {R : List (Int × Int)} {V : Int->Prop} (h : t.busy = true->t.work.kind = 1\/t.work.kind = 2) : RPos M R V t :=
 ⟨fun b e=>by have:=h b; omega,fun b e=>by have:=h b; omega,fun b e=>by have:=h b; omega,fun b e=>by have:=h b; omega,fun b e=>by have:=h b; omega⟩
theorem InvR.step (hR : InvR Rt Vt P) (hV : InvV C Rt Vt P) (h : Inv C P) (ht : P.ts[i]? = some t) (hb : t.busy = true) (hold : ∀ T,T<=P.clock->Rt' T = Rt T/\Vt' T = Vt T) : InvR Rt' Vt' (P.step i t).1:=by
 obtain ⟨t',hto⟩:=h.goTo ht hb;have hi:=(List.getElem?_eq_some_iff.1 ht).1;have hT:=h.th i t ht;have hnx:=hT.nx hb;have hkd:=hT.kd hb;have hrd:=hT.rd hb;intro j u hj;rw [hto.ts,List.getElem?_set] at hj;by_cases e : i = j
 ·subst e;simp [hi] at hj; subst hj;by_cases hk : t.work.kind = 3\/t.work.kind = 4
  ·have hP:=hR i t ht;rcases (show t.work.next = 1\/t.work.next = 2\/t.work.next = 3\/t.work.next = 4\/t.work.next = 13 by have:=hrd hk; omega) with hn | hn | hn | hn | hn
   ·have hs : P.step i t = (P.setT i { t with slot:=1,work:={ t.work with next:=2 } },1):=by unfold PSt.step; simp only [hn]
    have ht' : t' = { t with slot:=1,work:={ t.work with next:=2 } }:=by
     have:=hto.ts
     rw [hs] at this;have h2 : (P.ts.set i { t with slot:=1,work:={ t.work with next:=2 } })[i]? = (P.ts.set i t')[i]?:=by rw [<- this]; rfl
     simpa [hi] using h2.symm
    rw [ht'];refine ⟨hP.sp,fun b k _=>hP.no b k (by omega),?_,?_,?_⟩
    ·intro _ _ q; exact absurd (show (2 : Nat) = 4 from q) (by omega)
    ·intro _ _ q; exact absurd (show (2 : Nat) = 4 from q) (by omega)
    ·intro _ _ q; exact absurd (show (2 : Nat) = 13 from q) (by omega)
   ·have hs : P.step i t = (P.setT i { t with work:={ t.work with time:=P.clock,next:=3 } },1):=by unfold PSt.step; simp only [hn]
    have ht' : t' = { t with work:={ t.work with time:=P.clock,next:=3 } }:=by
     have:=hto.ts
     rw [hs] at this;have h2 : (P.ts.set i { t with work:={ t.work with time:=P.clock,next:=3 } })[i]? = (P.ts.set i t')[i]?:=by rw [<- this]; rfl
     simpa [hi] using h2.symm
    rw [ht'];refine ⟨hP.sp,fun b k _=>hP.no b k (by omega),?_,?_,?_⟩
    ·intro _ _ q; exact absurd (show (3 : Nat) = 4 from q) (by omega)
    ·intro _ _ q; exact absurd (show (3 : Nat) = 4 from q) (by omega)
    ·intro _ _ q; exact absurd (show (3 : Nat) = 13 from q) (by omega)
   ·have hs : P.step i t = (P.setT i { t with slot:=2,work:=t.work.home },1):=by unfold PSt.step; simp only [hn]
    have ht' : t' = { t with slot:=2,work:=t.work.home }:=by
     have:=hto.ts
     rw [hs] at this;have h2 : (P.ts.set i { t with slot:=2,work:=t.work.home })[i]? = (P.ts.set i t')[i]?:=by rw [<- this]; rfl
     simpa [hi] using h2.symm
    rw [ht'];refine ⟨hP.sp,?_,fun _ _ _=>.inl rfl,?_,?_⟩
    ·intro _ _ q; exact absurd (show (4 : Nat)<=3 from q) (by omega)
    ·intro b k _;refine ⟨0,hT.lk hb k (by omega),.inl rfl,?_⟩;show t.work.noted = _;rw [hP.no hb k (by omega)]
     symm
     rw [List.filter_eq_nil_iff];intro p _
     simp
    ·intro _ _ q; exact absurd (show (4 : Nat) = 13 from q) (by omega)
   ·-- it reads a link
    have htm:=hT.tm hb (by omega);have hver:=hV.rd i t ht ⟨hb,hk,by omega,by omega⟩;obtain ⟨e1,e2⟩:=hold t.work.time htm.1;obtain ⟨x,h1,h2,h3,h4,h5⟩:=h.linkIs ht hb hn hk;have hsm:=step_mid (i:=i) (t:=t) P (by omega) (by omega);rw [if_pos hk] at hsm;unfold PSt.read at hsm;rw [h1] at hsm;simp only at hsm;by_cases hp : P.mem.hasPending x false = true
    ·rw [if_pos hp] at hsm;have ht' : t' = t:=by
      have:=hto.ts
      rw [hsm] at this;have h2 : P.ts[i]? = (P.ts.set i t')[i]?:=by rw [<- this]
      rw [ht] at h2;simpa [hi] using h2.symm
     rw [ht',hsm,e1,e2];exact hP
    ·rw [if_neg hp] at hsm;have hpd : Pd P.mem x = []:=by
      by_cases q : Pd P.mem x = []
      ·exact q
      ·exact absurd (hasPd_iff.2 q) hp
     have hmem : (P.step i t).1.mem = P.mem:=by rw [hsm]; rfl
     have hxv : x = 0\/Vt t.work.time x:=by
      rcases hk with hk | hk
      ·rw [h4 hk]; exact hP.lo hb hk hn
      ·obtain ⟨x',q1,q2,_⟩:=hP.sc hb hk hn;rw [h5 hk] at q1;simp at q1;rw [q1]; exact q2
     obtain ⟨l1,l2,l3⟩:=h.ledIs hver hxv hpd;generalize P.mem.ledTo x false t.work.time = y at *;have ht' : t' = { t with work:=(if t.work.kind = 3 then P.lookUp t.work y else P.scan t.work y) }:=by
      have:=hto.ts
      rw [hsm,setW_to P ht] at this;have h2 : (P.ts.set i { t with work:=(if t.work.kind = 3 then P.lookUp t.work y else P.scan t.work y) })[i]? = (P.ts.set i t')[i]?:=by rw [<- this]
      simpa [hi] using h2.symm
     rw [ht',hmem];rcases hk with hk | hk
     ·rw [if_pos hk];have hky:=hT.ky hb (by omega);have hxk:=(hT.xs hb (by omega) (by omega) (by omega)).2.2;rw [<- h4 hk] at hxk;unfold PSt.lookUp;have hps : P.isPassed y t.work.key = decide (Ky P.mem y < t.work.key):=by
       unfold PSt.isPassed; rw [if_neg (by rw [h.kind]; decide)]
      rw [hps];by_cases hlt : Ky P.mem y < t.work.key
      ·rw [if_pos (by simpa using hlt)];have hy1 : y≠1:=by rintro rfl; have:=h.n.a1.2.2.2.2.2; omega
       refine ⟨fun b k4=>absurd (show t.work.kind = 4 from k4) (by omega),fun b k4=>absurd (show t.work.kind = 4 from k4) (by omega),?_,fun b k4=>absurd (show t.work.kind = 4 from k4) (by omega),fun _ _ q=>absurd (show t.work.next = 13 from q) (by omega)⟩;intro _ _ _;show y = 0\/Vt' t.work.time y;rw [e2];exact .inr (l1.resolve_left hy1)
      ·rw [if_neg (by simpa using hlt)];refine ⟨fun b k4=>absurd (show t.work.kind = 4 from k4) (by omega),fun b k4=>absurd (show t.work.kind = 4 from k4) (by omega),fun _ _ q=>absurd (show (13 : Nat) = 4 from q) (by omega),fun b k4=>absurd (show t.work.kind = 4 from k4) (by omega),?_⟩;intro _ _ _;show (if Ky P.mem y = t.work.key then ({ stamp:=t.work.time,did:=true,value:=(P.mem.node y).value } : BAns) else { stamp:=t.work.time }) = readAns (Rt' t.work.time) _;rw [e1];refine Eq.trans ?_ (readAns3 _ _ hk).symm;show _ = ({ stamp:=t.work.time,did:=(shVal (Rt t.work.time) t.work.key).2,value:=(shVal (Rt t.work.time) t.work.key).1 } : BAns);by_cases hke : Ky P.mem y = t.work.key
       ·have hy1 : y≠1:=by rintro rfl; have:=h.n.a1.2.2.2.2.2; omega
        have hv:=l1.resolve_left hy1;have hm : (t.work.key,(P.mem.node y).value) ∈ Rt t.work.time:=(hver.a _).2 ⟨y,hv,by rw [hke]⟩;rw [if_pos hke,shVal_in hver.srt hm]
       ·have hno : ∀ p ∈ Rt t.work.time,p.1≠t.work.key:=by
         intro p hp q
         have:=(l3 p hp (by rcases hxk with z | z; exact .inl z; right; omega)).2
         omega
        rw [if_neg hke,shVal_out hno]
     ·rw [if_neg (show ¬ t.work.kind = 3 by omega)];have hli:=h5 hk;have hsp:=hP.sp hb hk;obtain ⟨x',q1,q2,q3⟩:=hP.sc hb hk hn;rw [hli] at q1;simp at q1;subst q1;have hhi:=hT.hi hb hk;have hl2 : ((P.mem.node y).links == 2) = false:=by
       rcases l1 with z | z
       ·rw [z,h.n.a1.2.2.1]; rfl
       ·have hu:=(hver.d y z).1;rcases h.o.us y hu with w | w | w | ⟨jj,uu,hjj,f1,f2,f3,f4⟩
        ·exact absurd w (hver.d y z).2.2.1
        ·rw [(h.n.mc y w).2.1]; rfl
        ·rw [(h.n.md y w).2]; rfl
        ·obtain ⟨n,g1,_,_,_,_,_,_,g8,_⟩:=(h.th jj uu hjj).f8 f1 f2 f3;rw [mem_one g1 f4,g8]; rfl
      unfold PSt.scan;simp only [hli,List.drop_one,List.tail_cons,List.append_nil];have hlw : P.linksWithin y (leastLo t.work.spans) (greatestHi t.work.spans) = if Ky P.mem y<=greatestHi t.work.spans then [(y,false)] else []:=by
       unfold PSt.linksWithin; rw [if_pos h.kind]
      rw [hlw,hl2];by_cases hle : Ky P.mem y<=greatestHi t.work.spans
      ·rw [if_pos hle,if_neg (by simp)];have hy1 : y≠1:=by rintro rfl; have:=h.n.a1.2.2.2.2.2; omega
       have hv:=l1.resolve_left hy1;have hy0 : y≠0:=(hver.d y hv).2.1;refine ⟨hP.sp,fun _ _ q=>absurd (show t.work.next<=3 from q) (by omega),fun _ k3=>absurd (show t.work.kind = 3 from k3) (by omega),?_,fun _ _ q=>absurd (show t.work.next = 13 from q) (by omega)⟩;intro _ _ _;refine ⟨y,rfl,?_,?_⟩
       ·show y = 0\/Vt' t.work.time y;rw [e2]; exact .inr hv
       ·show (if (!false && isIn (P.mem.node y).key (leastLo t.work.spans) (greatestHi t.work.spans)) = true then t.work.noted ++ [((P.mem.node y).key,(P.mem.node y).value)] else t.work.noted) = (Rt' t.work.time).filter (fun p=>isIn p.1 (leastLo t.work.spans) (greatestHi t.work.spans) && decide (y≠0/\p.1<=Ky P.mem y));rw [e1];have hm : (Ky P.mem y,(P.mem.node y).value) ∈ Rt t.work.time:=(hver.a _).2 ⟨y,hv,rfl⟩;have hnext:=filt_next (q:=fun p=>isIn p.1 (leastLo t.work.spans) (greatestHi t.work.spans)) (a:=Ky P.mem x) (b:=Ky P.mem y) (v:=(P.mem.node y).value) (z:=decide (x = 0)) hver.srt hm (by
         intro p hp hh;refine (l3 p hp ?_).2;rcases hh with z | z
         ·exact .inl (by simpa using z)
         ·exact .inr z) (by
         rcases l2 with z | z
         ·exact .inl (by simpa using z)
         ·exact .inr z)
        have hf1 : (Rt t.work.time).filter (fun p=>isIn p.1 (leastLo t.work.spans) (greatestHi t.work.spans) && decide (y≠0/\p.1<=Ky P.mem y)) = (Rt t.work.time).filter (fun p=>isIn p.1 (leastLo t.work.spans) (greatestHi t.work.spans) && decide (p.1<=Ky P.mem y)):=by
         congr 1; funext p; simp [hy0]
        have hf2 : t.work.noted = (Rt t.work.time).filter (fun p=>isIn p.1 (leastLo t.work.spans) (greatestHi t.work.spans) && (!decide (x = 0) && decide (p.1<=Ky P.mem x))):=by
         rw [q3]; congr 1; funext p;by_cases hx0 : x = 0 <;> simp [hx0]
        rw [hf1,hnext,<- hf2];simp only [Bool.not_false,Bool.true_and];show (if isIn (Ky P.mem y) (leastLo t.work.spans) (greatestHi t.work.spans) = true then t.work.noted ++ [(Ky P.mem y,(P.mem.node y).value)] else t.work.noted) = _;split
        ·rfl
        ·simp
      ·rw [if_neg hle,if_pos (show ([] : List (Int × Bool)).length = 0 from rfl)];refine ⟨hP.sp,fun _ _ q=>absurd (show (13 : Nat)<=3 from q) (by omega),fun _ k3=>absurd (show t.work.kind = 3 from k3) (by omega),fun _ _ q=>absurd (show (13 : Nat) = 4 from q) (by omega),?_⟩;intro _ _ _;have hnot : isIn (P.mem.node y).key (leastLo t.work.spans) (greatestHi t.work.spans) = false:=isIn_false (fun q=>hle q.2);show answerOf t.work.spans (if (!false && isIn (P.mem.node y).key (leastLo t.work.spans) (greatestHi t.work.spans)) = true then t.work.noted ++ [((P.mem.node y).key,(P.mem.node y).value)] else t.work.noted) t.work.time = readAns (Rt' t.work.time) _;rw [e1,hnot];refine Eq.trans ?_ (readAns4 _ _ (show ¬ t.work.kind = 3 by omega)).symm;show answerOf t.work.spans t.work.noted t.work.time = answerOf t.work.spans (Rt t.work.time) t.work.time;rw [<- (hull_answer hsp (Rt t.work.time) t.work.time).1]
       congr 1
       rw [q3];refine List.filter_congr ?_;intro p hp;by_cases hin : isIn p.1 (leastLo t.work.spans) (greatestHi t.work.spans) = true
       ·rw [hin,Bool.true_and];have hin':=isIn_iff.1 hin;have hnx : ¬ (x = 0\/Ky P.mem x < p.1):=by
         intro hh
         have:=(l3 p hp hh).2
         omega
        simp only [not_or] at hnx;exact decide_eq_true ⟨hnx.1,by omega⟩
       ·have : isIn p.1 (leastLo t.work.spans) (greatestHi t.work.spans) = false:=by simpa using hin
        rw [this]; rfl
   ·have hs : P.step i t = (P.setT i t.leave,3):=by unfold PSt.step; simp only [hn]
    have ht' : t' = t.leave:=by
     have:=hto.ts
     rw [hs] at this;have h2 : (P.ts.set i t.leave)[i]? = (P.ts.set i t')[i]?:=by rw [<- this]; rfl
     simpa [hi] using h2.symm
    rw [ht'];exact RPos.upd (fun b=>nomatch b)
  ·exact RPos.upd (fun b=>by have:=hto.kd b; omega)
 ·rw [if_neg e] at hj;have hP:=hR j u hj;have hU:=h.th j u hj;have old : u.busy = true->3<=u.work.next->Rt' u.work.time = Rt u.work.time/\Vt' u.work.time = Vt u.work.time:=fun b h3=>hold _ (hU.tm b h3).1
  have hky : Rdr u->∀ x,(x = 0\/Vt u.work.time x)->Ky (P.step i t).1.mem x = Ky P.mem x:=by
   intro hr x hx;have hver:=hV.rd j u hj hr;have hu : Us P.mem x:=by
    rcases hx with rfl | hx
    ·exact h.gdUs (.inr (.inl h.n.a0.1))
    ·exact (hver.d x hx).1
   obtain ⟨s,y,g1,_⟩:=hver.g x hx;exact (h.keepsR ht hb x hu (h.ve8 ht g1)).1
  refine ⟨hP.sp,hP.no,?_,?_,?_⟩
  ·intro b k3 n4;rw [(old b (by omega)).2]; exact hP.lo b k3 n4
  ·intro b k4 n4;obtain ⟨x,q1,q2,q3⟩:=hP.sc b k4 n4;rw [(old b (by omega)).1,(old b (by omega)).2];refine ⟨x,q1,q2,?_⟩;rw [hky ⟨b,.inr k4,by omega,by omega⟩ x q2]; exact q3
  ·intro b k n13;rw [(old b (by omega)).1]; exact hP.an b k n13
theorem InvR.sweep (hR : InvR Rt Vt P) (hV : InvV C Rt Vt P) (h : Inv C P) : InvR Rt Vt P.doSweep.1:=by
 have hV':=hV.sweep h;intro j u hj;have hts : P.doSweep.1.ts = P.ts:=sweep_ts P;rw [hts] at hj;have hP:=hR j u hj;refine ⟨hP.sp,hP.no,hP.lo,?_,hP.an⟩;intro b k4 n4;obtain ⟨x,q1,q2,q3⟩:=hP.sc b k4 n4;refine ⟨x,q1,q2,?_⟩;have hr : Rdr u:=⟨b,.inr k4,by omega,by omega⟩
 -- the keys of what was are the same: by the pairs and the places
 have hk : Ky P.doSweep.1.mem x = Ky P.mem x:=by
  have hs:=h.sweep;by_cases h0 : x = 0
  ·subst h0;unfold PSt.doSweep;simp only;split
   ·rfl
   ·split
    ·split <;> rfl
    ·split
     ·rfl
     ·have hre : ∀ n ∈ P.sweep.retired,P.mem.hasNode (n : Int) = true/\(n : Int)≠0/\(n : Int)≠1:=by
       intro n hn;have h1:=(h.o.sw (n : Int) ⟨n,hn,rfl⟩).1;obtain ⟨h2,h3,_⟩:=h.n.mr _ h1;refine ⟨hasN_used (h.n.md _ h2).1,?_,?_⟩
       ·intro e; rw [e] at h3; exact h3 h.n.a0.1
       ·intro e; rw [e] at h2; simp only [De] at h2; rw [h.n.a1.2.2.2.1] at h2; cases h2
      obtain ⟨_,_,g3⟩:=freesIf_ok P.sweep.hasTime P.sweep.time P.sweep.retired P.mem h.wm hre;have : ¬ Gone P.mem P.sweep.hasTime P.sweep.time P.sweep.retired 0:=by
       rintro ⟨⟨n,hn,e⟩,_⟩;exact (hre n hn).2.1 e
      show (PMem.node _ 0).key = _;rw [((g3 0).2 this).1]
  ·have hv:=q2.resolve_left h0;have hu':=((hV'.rd j u (by rw [hts]; exact hj) hr).d x hv).1
   -- a node that is in use behind the sweep is as it was
   unfold PSt.doSweep at hu' ⊢;simp only at hu' ⊢;split at hu'
   ·rename_i c1; rw [if_pos c1]
   ·rename_i c1
    rw [if_neg c1];split at hu'
    ·rename_i c2
     rw [if_pos c2];split <;> rfl
    ·rename_i c2
     rw [if_neg c2];split at hu'
     ·rename_i c3; rw [if_pos c3]; rfl
     ·rename_i c3
      rw [if_neg c3];have hre : ∀ n ∈ P.sweep.retired,P.mem.hasNode (n : Int) = true/\(n : Int)≠0/\(n : Int)≠1:=by
       intro n hn;have h1:=(h.o.sw (n : Int) ⟨n,hn,rfl⟩).1;obtain ⟨h2,h3,_⟩:=h.n.mr _ h1;refine ⟨hasN_used (h.n.md _ h2).1,?_,?_⟩
       ·intro e; rw [e] at h3; exact h3 h.n.a0.1
       ·intro e; rw [e] at h2; simp only [De] at h2; rw [h.n.a1.2.2.2.1] at h2; cases h2
      obtain ⟨_,_,g3⟩:=freesIf_ok P.sweep.hasTime P.sweep.time P.sweep.retired P.mem h.wm hre;have hng : ¬ Gone P.mem P.sweep.hasTime P.sweep.time P.sweep.retired x:=by
       intro hg
       have:=((g3 x).1 hg).1
       have hu2 : (PMem.node (P.mem.freesIf P.sweep.hasTime P.sweep.time P.sweep.retired) x).used = true:=hu';rw [this] at hu2; exact nomatch hu2
      show (PMem.node _ x).key = _;rw [((g3 x).2 hng).1]
 rw [hk]; exact q3
end
end
section
section
variable {P : PSt}
def PSt.swp (P : PSt) (m : Nat) : PSt:={ P with sweep:={ made:=m,clock:=P.clock,retired:=retiredFrom P.mem.ns 0,hasTime:=false,time:=0 } }
theorem sweep_first (h : P.sweep = PSweep.zero) : P.doSweep = (P.swp 1,1):=by
 unfold PSt.doSweep PSt.swp;rw [h]
 rfl
theorem do_look (S : PSt) (h0 : S.sweep.made≠0) (h1 : S.sweep.made - 1 < S.ts.length) (h2 : (S.th (S.sweep.made - 1)).slot≠1) : S.doSweep = ({ S with sweep:={ S.sweep.lookAt (S.th (S.sweep.made - 1)) with made:=S.sweep.made + 1 } },1):=by
 unfold PSt.doSweep;simp only;rw [if_neg h0,if_pos h1,if_neg h2]
theorem do_drop (S : PSt) (h0 : S.sweep.made≠0) (h1 : S.sweep.made - 1 = S.ts.length) (ht : S.sweep.hasTime = false) : S.doSweep = ({ S with mem:=S.mem.drop S.sweep.clock,sweep:={ S.sweep with made:=S.sweep.made + 1 } },1):=by
 unfold PSt.doSweep;simp only;rw [if_neg h0,if_neg (by omega),if_pos h1,ht]
 rfl
theorem do_last (S : PSt) (h0 : S.sweep.made≠0) (h1 : S.ts.length < S.sweep.made - 1) : S.doSweep = ({ S with mem:=S.mem.freesIf S.sweep.hasTime S.sweep.time S.sweep.retired,sweep:=PSweep.zero },3):=by
 unfold PSt.doSweep;simp only;rw [if_neg h0,if_neg (by omega),if_neg (by omega)]
theorem sweep_look (hs : ∀ t ∈ P.ts,t.slot = 0) {m : Nat} (hm : 1<=m) (hl : m - 1 < P.ts.length) : (P.swp m).doSweep = (P.swp (m + 1),1):=by
 have hsl : ((P.swp m).th ((P.swp m).sweep.made - 1)).slot = 0:=by
  show (P.th (m - 1)).slot = 0;unfold PSt.th;rw [List.getElem?_eq_getElem hl];exact hs _ (List.getElem_mem hl)
 rw [do_look (P.swp m) (by show m≠0; omega) hl (by rw [hsl]; decide)];unfold PSweep.lookAt;rw [hsl]
 rfl
theorem sweep_drop : (P.swp (P.ts.length + 1)).doSweep = ({ P.swp (P.ts.length + 2) with mem:=P.mem.drop P.clock },1):=by
 rw [do_drop (P.swp (P.ts.length + 1)) (by show P.ts.length + 1≠0; omega) (by show P.ts.length + 1 - 1 = P.ts.length; omega) rfl]
 rfl
theorem sweep_last : ({ P.swp (P.ts.length + 2) with mem:=P.mem.drop P.clock } : PSt).doSweep = ({ P with mem:=(P.mem.drop P.clock).freesIf false 0 (retiredFrom P.mem.ns 0),sweep:=PSweep.zero },3):=by
 rw [do_last ({ P.swp (P.ts.length + 2) with mem:=P.mem.drop P.clock } : PSt) (by show P.ts.length + 2≠0; omega) (by show P.ts.length < P.ts.length + 2 - 1; omega)]
 rfl
theorem sweep_iter (h : P.sweep = PSweep.zero) (hs : ∀ t ∈ P.ts,t.slot = 0) : ∀ j,j<=P.ts.length->P.swIter (j + 1) = P.swp (j + 1)/\P.swHow j = 1
 | 0,_=>by
  have:=sweep_first h
  exact ⟨by show P.doSweep.1 = _; rw [this],by show P.doSweep.2 = 1; rw [this]⟩
 | j + 1,hj=>by
  obtain ⟨h1,_⟩:=sweep_iter h hs j (by omega)
  have:=sweep_look hs (m:=j + 1) (by omega) (by omega)
  refine ⟨?_,?_⟩
  ·show (P.swIter (j + 1)).doSweep.1 = _;rw [h1,this]
  ·show (P.swIter (j + 1)).doSweep.2 = 1;rw [h1,this]
theorem sweep_run (h : P.sweep = PSweep.zero) (hs : ∀ t ∈ P.ts,t.slot = 0) : (∀ j,j < P.ts.length + 2->P.swHow j = 1)/\P.swHow (P.ts.length + 2) = 3/\P.swIter (P.ts.length + 3) = { P with mem:=(P.mem.drop P.clock).freesIf false 0 (retiredFrom P.mem.ns 0),sweep:=PSweep.zero }:=by
 have h1:=(sweep_iter h hs P.ts.length (Nat.le_refl _)).1;have h2 : P.swIter (P.ts.length + 2) = { P.swp (P.ts.length + 2) with mem:=P.mem.drop P.clock }:=by
  show (P.swIter (P.ts.length + 1)).doSweep.1 = _;rw [h1,sweep_drop]
 refine ⟨?_,?_,?_⟩
 ·intro j hj;by_cases hl : j<=P.ts.length
  ·exact (sweep_iter h hs j hl).2
  ·obtain rfl : j = P.ts.length + 1:=by omega
   show (P.swIter (P.ts.length + 1)).doSweep.2 = 1;rw [h1,sweep_drop]
 ·show (P.swIter (P.ts.length + 2)).doSweep.2 = 3;rw [h2,sweep_last]
 ·show (P.swIter (P.ts.length + 2)).doSweep.1 = _;rw [h2,sweep_last]
end
end
section
theorem max_mem (p : PEntry->Bool) : ∀ (l : List PEntry),(∃ x ∈ l,p x = true)->∃ x ∈ l,p x = true/\∀ y ∈ l,p y = true->y.stamp<=x.stamp
 | [],h=>by obtain ⟨x,hx,_⟩:=h; cases hx
 | z :: r,h=>by
  by_cases hr : ∃ x ∈ r,p x = true
  ·obtain ⟨x,h1,h2,h3⟩:=max_mem p r hr;by_cases hz : p z = true/\x.stamp < z.stamp
   ·refine ⟨z,by simp,hz.1,?_⟩;intro y hy hp;rcases List.mem_cons.1 hy with rfl | hy
    ·exact Int.le_refl _
    ·have:=h3 y hy hp; omega
   ·refine ⟨x,by simp [h1],h2,?_⟩;intro y hy hp;rcases List.mem_cons.1 hy with rfl | hy
    ·rcases Int.lt_or_le x.stamp y.stamp with hlt | hle
     ·exact absurd ⟨hp,hlt⟩ hz
     ·exact hle
    ·exact h3 y hy hp
  ·obtain ⟨x,hx,hp⟩:=h;rcases List.mem_cons.1 hx with rfl | hx
   ·refine ⟨x,by simp,hp,?_⟩;intro y hy hpy;rcases List.mem_cons.1 hy with rfl | hy
    ·exact Int.le_refl _
    ·exact absurd ⟨y,hy,hpy⟩ hr
   ·exact absurd ⟨x,hx,hp⟩ hr
def IsNew (es : List PEntry) (e : PEntry) : Prop:=∀ e' ∈ es,e'.used = true->e'.src = e.src->e'.stamp<=e.stamp
section
variable {es : List PEntry} {time : Int}
structure Dropped (es D : List PEntry) (k : Nat) : Prop where
 len : D.length = es.length
 sub : ∀ (j : Nat) e,D[j]? = some e->e = PEntry.zero\/es[j]? = some e
 rest : ∀ j,k<=j->D[j]? = es[j]?
 keep : ∀ (j : Nat) e,es[j]? = some e->e.used = true->IsNew es e->D[j]? = some e
 only : ∀ (j : Nat) e,j < k->D[j]? = some e->e.used = true->IsNew es e
theorem drop_step (hc : ∀ e ∈ es,e.pending = false) (hs : ∀ e ∈ es,e.used = true->e.side = false/\e.stamp<=time) {D : List PEntry} {k : Nat} (h : Dropped es D k) : Dropped es (dropOne time D k) (k + 1):=by
 unfold dropOne;cases hk : D[k]? with
 | none =>
  simp only;refine ⟨h.len,h.sub,fun j hj=>h.rest j (by omega),h.keep,?_⟩;intro j e hj hD hu;by_cases hjk : j = k
  ·subst hjk; rw [hk] at hD; cases hD
  ·exact h.only j e (by omega) hD hu
 | some e =>
  simp only;have hek : es[k]? = some e:=by rw [<- h.rest k (Nat.le_refl _)]; exact hk
  have hem:=List.mem_of_getElem? hek;have hkl:=(List.getElem?_eq_some_iff.1 hk).1;have habove : ∀ e',e' ∈ D->stampAbove e.src e.side e.stamp time e' = true->e' ∈ es/\e'.used = true/\e'.src = e.src/\e.stamp < e'.stamp:=by
   intro e' he' ha;obtain ⟨j,hj⟩:=mem_get he';simp only [stampAbove,isSt,Bool.and_eq_true,beq_iff_eq,decide_eq_true_eq] at ha;rcases h.sub j e' hj with rfl | h1
   ·exact nomatch ha.1.1
   ·exact ⟨List.mem_of_getElem? h1,ha.1.1,ha.1.2.2.1,ha.2.1⟩
  by_cases hd : (isSt e.src e.side e && D.any (stampAbove e.src e.side e.stamp time)) = true
  ·rw [if_pos hd];have hany:=(Bool.and_eq_true_iff.1 hd).2;obtain ⟨e',he',ha⟩:=List.any_eq_true.1 hany;obtain ⟨a1,a2,a3,a4⟩:=habove e' he' ha;refine ⟨by simpa using h.len,?_,?_,?_,?_⟩
   ·intro j x hj;by_cases hjk : k = j
    ·subst hjk;rw [List.getElem?_set_self hkl] at hj;exact .inl (Option.some.inj hj).symm
    ·rw [List.getElem?_set_ne hjk] at hj; exact h.sub j x hj
   ·intro j hj;rw [List.getElem?_set_ne (by omega)]; exact h.rest j (by omega)
   ·intro j x hx hu hn;by_cases hjk : k = j
    ·subst hjk;rw [hek] at hx;obtain rfl:=Option.some.inj hx
     have:=hn e' a1 a2 a3
     omega
    ·rw [List.getElem?_set_ne hjk]; exact h.keep j x hx hu hn
   ·intro j x hj hx hu;by_cases hjk : k = j
    ·subst hjk;rw [List.getElem?_set_self hkl] at hx;obtain rfl:=Option.some.inj hx;cases hu
    ·rw [List.getElem?_set_ne hjk] at hx; exact h.only j x (by omega) hx hu
  ·rw [if_neg hd];refine ⟨h.len,h.sub,fun j hj=>h.rest j (by omega),h.keep,?_⟩;intro j x hj hx hu;by_cases hjk : j = k
   ·subst hjk;rw [hk] at hx;obtain rfl:=Option.some.inj hx;obtain ⟨m,m1,m2,m3⟩:=max_mem (fun y=>y.used && y.src == e.src) es ⟨e,hem,by simp [hu]⟩;simp only [Bool.and_eq_true,beq_iff_eq] at m2 m3;have hmn : IsNew es m:=fun y hy hyu hys=>m3 y hy ⟨hyu,by rw [hys]; exact m2.2⟩
    obtain ⟨jm,hjm⟩:=mem_get m1;have hmD:=List.mem_of_getElem? (h.keep jm m hjm m2.1 hmn);intro y hy hyu hys;have h1:=m3 y hy ⟨hyu,hys⟩;rcases Int.lt_or_le e.stamp m.stamp with hlt | hle
    ·exfalso;apply hd;rw [Bool.and_eq_true];refine ⟨by simp [isSt,hu,hc e hem],List.any_eq_true.2 ⟨m,hmD,?_⟩⟩;simp [stampAbove,isSt,m2.1,hc m m1,m2.2,(hs m m1 m2.1).1,(hs e hem hu).1,hlt,(hs m m1 m2.1).2]
    ·omega
   ·exact h.only j x (by omega) hx hu
theorem drop_all (hc : ∀ e ∈ es,e.pending = false) (hs : ∀ e ∈ es,e.used = true->e.side = false/\e.stamp<=time) : ∀ k,Dropped es (dropTo time es k) k
 | 0=>⟨rfl,fun j e h=>.inr h,fun _ _=>rfl,fun j e h _ _=>h,fun j e hj=>by omega⟩
 | k + 1=>drop_step hc hs (drop_all hc hs k)
end
end
section
theorem retired_mem : ∀ (l : List PNode) (i n : Nat),n ∈ retiredFrom l i ↔ ∃ (j : Nat) (x : PNode),n = i + j/\l[j]? = some x/\x.retired = true
 | [],i,n=>by simp [retiredFrom]
 | x :: r,i,n=>by
  have ih:=retired_mem r (i + 1) n;have hcons : (∃ (j : Nat) (y : PNode),n = i + j/\(x :: r)[j]? = some y/\y.retired = true) ↔ (n = i/\x.retired = true)\/n ∈ retiredFrom r (i + 1):=by
   rw [ih];constructor
   ·rintro ⟨j,y,h1,h2,h3⟩;cases j with
    | zero=>simp at h2; subst h2; exact .inl ⟨by omega,h3⟩
    | succ j=>exact .inr ⟨j,y,by omega,by simpa using h2,h3⟩
   ·rintro (⟨h1,h2⟩ | ⟨j,y,h1,h2,h3⟩)
    ·exact ⟨0,x,by omega,rfl,h2⟩
    ·exact ⟨j + 1,y,by omega,by simpa using h2,h3⟩
  rw [hcons];show n ∈ (if x.retired then i :: retiredFrom r (i + 1) else retiredFrom r (i + 1)) ↔ _;cases hx : x.retired
  ·simp
  ·simp
theorem frees_get : ∀ (R : List Nat) (M : PMem),(∀ n ∈ R,n≠0/\n≠1/\n < M.ns.length) ->
  (M.freesIf false 0 R).ns.length = M.ns.length/\(∀ j : Nat,(M.freesIf false 0 R).ns[j]? = if j ∈ R then some PNode.zero else M.ns[j]?)/\(∀ j : Nat,(M.freesIf false 0 R).es[j]? = (M.es[j]?).map (fun e=>if e.used = true/\(∃ n ∈ R,e.src = (n : Int)) then PEntry.zero else e))
 | [],M,_=>by
  refine ⟨rfl,by intro j; simp [PMem.freesIf],?_⟩;intro j;show M.es[j]? = _;cases M.es[j]? <;> simp
 | n :: r,M,h=>by
  obtain ⟨h0,h1,hl⟩:=h n (by simp);have hn : M.ns[n]? = some M.ns[n]:=List.getElem?_eq_getElem hl;have hf:=free_ok hn h0 h1;have hM : M.freesIf false 0 (n :: r) = (M.free n).freesIf false 0 r:=by
   show (if !false || _ then M.free n else M).freesIf false 0 r = _
   simp
  obtain ⟨i1,i2,i3⟩:=frees_get r (M.free n) (by
   intro m hm;obtain ⟨a1,a2,a3⟩:=h m (by simp [hm]);exact ⟨a1,a2,by rw [hf]; simpa using a3⟩)
  rw [hM];refine ⟨by rw [i1,hf]; simp,?_,?_⟩
  ·intro j;rw [i2 j];by_cases hj : j ∈ r
   ·simp [hj]
   ·simp only [hj,if_false,List.mem_cons,or_false];rw [hf];show (M.ns.set n PNode.zero)[j]? = _;by_cases hjn : j = n
    ·subst hjn; simp [hl]
    ·rw [List.getElem?_set_ne (Ne.symm hjn)]; simp [hjn]
  ·intro j;rw [i3 j,hf];show ((M.es.map fun e=>if ofNode n e then PEntry.zero else e)[j]?).map _ = _;rw [List.getElem?_map];cases hej : M.es[j]? with
   | none=>rfl
   | some e =>
    simp only [Option.map_some,Option.some.injEq];by_cases ho : e.used = true/\e.src = (n : Int)
    ·have h2 : ofNode n e = true:=by simp [ofNode,ho.1,ho.2]
     rw [h2];simp only [if_true];rw [if_neg (by simp [PEntry.zero]),if_pos ⟨ho.1,n,by simp,ho.2⟩]
    ·have h2 : ofNode n e = false:=by
      cases hh : ofNode n e with
      | false=>rfl
      | true=>simp only [ofNode,Bool.and_eq_true,beq_iff_eq] at hh; exact absurd hh ho
     rw [h2];simp only [Bool.false_eq_true,if_false];by_cases hr : e.used = true/\∃ m ∈ r,e.src = (m : Int)
     ·obtain ⟨q1,m,q2,q3⟩:=hr;rw [if_pos ⟨q1,m,q2,q3⟩,if_pos ⟨q1,m,by simp [q2],q3⟩]
     ·rw [if_neg hr,if_neg];rintro ⟨q1,m,q2,q3⟩;rcases List.mem_cons.1 q2 with rfl | q2
      ·exact ho ⟨q1,q3⟩
      ·exact hr ⟨q1,m,q2,q3⟩
end
section
section
variable {M : PMem} {c : Int} {ch : List Spot3}
def PMem.swept (M : PMem) (c : Int) : PMem:=(M.drop c).freesIf false 0 (retiredFrom M.ns 0)
theorem QM.sweptGet (h : QM M c ch) : ((M.swept c).ns.length = M.ns.length/\(M.swept c).es.length = M.es.length)/\(∀ j : Nat,(M.swept c).ns[j]? = if (∃ x,M.ns[j]? = some x/\x.retired = true) then some PNode.zero else M.ns[j]?) /\
  (∀ (j : Nat) e,(M.swept c).es[j]? = some e->e.used = true->M.es[j]? = some e/\IsNew M.es e/\¬ ∃ (n : Nat) (x : PNode),e.src = n/\M.ns[n]? = some x/\x.retired = true) /\
  (∀ (j : Nat) e,M.es[j]? = some e->e.used = true->IsNew M.es e->(¬ ∃ (n : Nat) (x : PNode),e.src = n/\M.ns[n]? = some x/\x.retired = true)->(M.swept c).es[j]? = some e) /\
  (∀ e ∈ (M.swept c).es,e.pending = false):=by
 have hD:=drop_all (es:=M.es) (time:=c) h.calm (fun e he hu=>⟨(h.ents e he hu).1,(h.ents e he hu).2.2.1⟩) M.es.length;have hRm : ∀ n,n ∈ retiredFrom M.ns 0 ↔ ∃ x,M.ns[n]? = some x/\x.retired = true:=by
  intro n;rw [retired_mem];constructor
  ·rintro ⟨j,x,h1,h2,h3⟩; obtain rfl : n = j:=by omega
   exact ⟨x,h2,h3⟩
  ·rintro ⟨x,h1,h2⟩; exact ⟨n,x,by omega,h1,h2⟩
 have hz : (anchor3,heads ch) ∈ edges anchor3 ch:=mem_edges_self _ _;obtain ⟨na,a1,a2,a3,a4,_⟩:=h.live _ hz;obtain ⟨ne,z1,z2,z3,z4,_⟩:=h.end_;obtain ⟨g1,g2,g3⟩:=frees_get (retiredFrom M.ns 0) (M.drop c) (by
  intro n hn;obtain ⟨x,h1,h2⟩:=(hRm n).1 hn;refine ⟨?_,?_,(List.getElem?_eq_some_iff.1 h1).1⟩
  ·rintro rfl;rw [show M.ns[0]? = some na from a1] at h1;obtain rfl:=Option.some.inj h1;rw [a4] at h2; cases h2
  ·rintro rfl;rw [z1] at h1;obtain rfl:=Option.some.inj h1;rw [z4] at h2; cases h2)
 have hes : (M.drop c).es = dropTo c M.es M.es.length:=rfl;have hns : (M.drop c).ns = M.ns:=rfl;have hex : ∀ e : PEntry,(∃ n ∈ retiredFrom M.ns 0,e.src = (n : Int)) ↔ ∃ (n : Nat) (x : PNode),e.src = n/\M.ns[n]? = some x/\x.retired = true:=by
  intro e;constructor
  ·rintro ⟨n,h1,h2⟩;obtain ⟨x,h3,h4⟩:=(hRm n).1 h1;exact ⟨n,x,h2,h3,h4⟩
  ·rintro ⟨n,x,h1,h2,h3⟩;exact ⟨n,(hRm n).2 ⟨x,h2,h3⟩,h1⟩
 have hlen : (M.swept c).es.length = M.es.length:=by
  have h1 : ∀ j : Nat,(M.swept c).es[j]? = none ↔ M.es[j]? = none:=by
   intro j;show ((M.drop c).freesIf false 0 _).es[j]? = none ↔ _;rw [g3 j,hes];simp only [Option.map_eq_none_iff,List.getElem?_eq_none_iff,hD.len]
  have h2:=(h1 (M.swept c).es.length).1 (List.getElem?_eq_none (Nat.le_refl _));have h3:=(h1 M.es.length).2 (List.getElem?_eq_none (Nat.le_refl _));rw [List.getElem?_eq_none_iff] at h2 h3;omega
 refine ⟨⟨g1,hlen⟩,?_,?_,?_,?_⟩
 ·intro j;show ((M.drop c).freesIf false 0 _).ns[j]? = _;rw [g2 j,hns];by_cases hj : ∃ x,M.ns[j]? = some x/\x.retired = true
  ·rw [if_pos ((hRm j).2 hj),if_pos hj]
  ·rw [if_neg (fun hh=>hj ((hRm j).1 hh)),if_neg hj]
 ·intro j e hj hu;have hj' : ((M.drop c).freesIf false 0 (retiredFrom M.ns 0)).es[j]? = some e:=hj;rw [g3 j,hes] at hj';cases hd : (dropTo c M.es M.es.length)[j]? with
  | none=>rw [hd] at hj'; cases hj'
  | some e0 =>
   rw [hd] at hj';simp only [Option.map_some,Option.some.injEq] at hj';by_cases hc : e0.used = true/\∃ n ∈ retiredFrom M.ns 0,e0.src = (n : Int)
   ·rw [if_pos hc] at hj'; subst hj'; cases hu
   ·rw [if_neg hc] at hj';subst hj';have hjl : j < M.es.length:=by have:=(List.getElem?_eq_some_iff.1 hd).1; rw [hD.len] at this; exact this
    refine ⟨?_,hD.only j e0 hjl hd hu,fun hh=>hc ⟨hu,(hex e0).2 hh⟩⟩;rcases hD.sub j e0 hd with rfl | h1
    ·cases hu
    ·exact h1
 ·intro j e hj hu hn hx;show ((M.drop c).freesIf false 0 (retiredFrom M.ns 0)).es[j]? = some e;rw [g3 j,hes,hD.keep j e hj hu hn];simp only [Option.map_some,Option.some.injEq];rw [if_neg (fun hh=>hx ((hex e).1 hh.2))]
 ·intro e he;obtain ⟨j,hj⟩:=mem_get he;have hj' : ((M.drop c).freesIf false 0 (retiredFrom M.ns 0)).es[j]? = some e:=hj;rw [g3 j,hes] at hj';cases hd : (dropTo c M.es M.es.length)[j]? with
  | none=>rw [hd] at hj'; cases hj'
  | some e0 =>
   rw [hd] at hj';simp only [Option.map_some,Option.some.injEq] at hj';split at hj'
   ·subst hj'; rfl
   ·subst hj';rcases hD.sub j e0 hd with rfl | h1
    ·rfl
    ·exact h.calm e0 (List.mem_of_getElem? h1)
end
end
end Go.Proofs.YtfccelbmacjifaaGreat
