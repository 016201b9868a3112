import Derived.Test.YtfccelbmacjifaaGreatP0
import Derived.Test.YtfccelbmacjifaaGreatP24
import Derived.Test.YtfccelbmacjifaaGreatP7
import Derived.Test.YtfccelbmacjifaaGreatP23
set_option linter.unusedSimpArgs false
set_option maxRecDepth 100000
set_option maxHeartbeats 4000000
namespace Go.Proofs.YtfccelbmacjifaaGreat
section
section
variable {C : Int->Prop} {Rt Rt' : Int->List (Int × Int)} {Vt Vt' : Int->Int->Prop} {i j : Nat} {t t' : PThread} {P : PSt} {x s d : Int} {ts : List PThread}
theorem Inv.ledIs (h : Inv C P) {R : List (Int × Int)} {V : Int->Prop} {T : Int} (hR : Ver P.mem P.ts R V T) (hx : x = 0\/V x) (hp : Pd P.mem x = []) :
  (P.mem.ledTo x false T = 1\/V (P.mem.ledTo x false T))/\Lt P.mem x (P.mem.ledTo x false T)/\∀ p ∈ R,(x = 0\/Ky P.mem x < p.1)->P.mem.ledTo x false T≠1/\Ky P.mem (P.mem.ledTo x false T)<=p.1:=by
 obtain ⟨s,y,g1,g2,g3,g4,g5,g6⟩:=hR.g x hx;have hsd : ∀ s d,VE P.mem P.ts x s d->Sd P.mem x s d:=by
  rintro s d (q | ⟨_,q⟩)
  ·exact q
  ·rw [hp] at q; cases q
 have g1':=hsd _ _ g1;have hy : P.mem.ledTo x false T = y:=by
  rcases ledTo_ok (M:=P.mem) (n:=x) (time:=T) (fun s d hh=>(h.e.ms x s d hh).2.2.1) with ⟨_,q⟩ | ⟨s2,q1,q2,q3⟩
  ·exact absurd g2 (q s y g1')
  ·have:=q3 s y g1' g2
   rcases g3 s2 _ (.inl q1) q2 with z | z
   ·omega
   ·exact z.2
 rw [hy]; exact ⟨g4,g5,g6⟩
theorem readAns3 (R : List (Int × Int)) (k : PWork) (h : k.kind = 3) : readAns R k = { stamp:=k.time,did:=(shVal R k.key).2,value:=(shVal R k.key).1 }:=by unfold readAns; rw [if_pos h]
theorem readAns4 (R : List (Int × Int)) (k : PWork) (h : k.kind≠3) : readAns R k = answerOf k.spans R k.time:=by unfold readAns; rw [if_neg h]
theorem RPos.upd {M : PMem} {R : List (Int × Int)} {V : Int->Prop} (h : t.busy = true->t.work.kind = 1\/t.work.kind = 2) : RPos M R V t :=
 ⟨fun b e=>by have:=h b; omega,fun b e=>by have:=h b; omega,fun b e=>by have:=h b; omega,fun b e=>by have:=h b; omega,fun b e=>by have:=h b; omega⟩
theorem InvR.step (hR : InvR Rt Vt P) (hV : InvV C Rt Vt P) (h : Inv C P) (ht : P.ts[i]? = some t) (hb : t.busy = true) (hold : ∀ T,T<=P.clock->Rt' T = Rt T/\Vt' T = Vt T) : InvR Rt' Vt' (P.step i t).1:=by
 obtain ⟨t',hto⟩:=h.goTo ht hb;have hi:=(List.getElem?_eq_some_iff.1 ht).1;have hT:=h.th i t ht;have hnx:=hT.nx hb;have hkd:=hT.kd hb;have hrd:=hT.rd hb;intro j u hj;rw [hto.ts,List.getElem?_set] at hj;by_cases e : i = j
 ·subst e;simp [hi] at hj; subst hj;by_cases hk : t.work.kind = 3\/t.work.kind = 4
  ·have hP:=hR i t ht;rcases (show t.work.next = 1\/t.work.next = 2\/t.work.next = 3\/t.work.next = 4\/t.work.next = 13 by have:=hrd hk; omega) with hn | hn | hn | hn | hn
   ·have hs : P.step i t = (P.setT i { t with slot:=1,work:={ t.work with next:=2 } },1):=by unfold PSt.step; simp only [hn]
    have ht' : t' = { t with slot:=1,work:={ t.work with next:=2 } }:=by
     have:=hto.ts
     rw [hs] at this;have h2 : (P.ts.set i { t with slot:=1,work:={ t.work with next:=2 } })[i]? = (P.ts.set i t')[i]?:=by rw [<- this]; rfl
     simpa [hi] using h2.symm
    rw [ht'];refine ⟨hP.sp,fun b k _=>hP.no b k (by omega),?_,?_,?_⟩
    ·intro _ _ q; exact absurd (show (2 : Nat) = 4 from q) (by omega)
    ·intro _ _ q; exact absurd (show (2 : Nat) = 4 from q) (by omega)
    ·intro _ _ q; exact absurd (show (2 : Nat) = 13 from q) (by omega)
   ·have hs : P.step i t = (P.setT i { t with work:={ t.work with time:=P.clock,next:=3 } },1):=by unfold PSt.step; simp only [hn]
    have ht' : t' = { t with work:={ t.work with time:=P.clock,next:=3 } }:=by
     have:=hto.ts
     rw [hs] at this;have h2 : (P.ts.set i { t with work:={ t.work with time:=P.clock,next:=3 } })[i]? = (P.ts.set i t')[i]?:=by rw [<- this]; rfl
     simpa [hi] using h2.symm
    rw [ht'];refine ⟨hP.sp,fun b k _=>hP.no b k (by omega),?_,?_,?_⟩
    ·intro _ _ q; exact absurd (show (3 : Nat) = 4 from q) (by omega)
    ·intro _ _ q; exact absurd (show (3 : Nat) = 4 from q) (by omega)
    ·intro _ _ q; exact absurd (show (3 : Nat) = 13 from q) (by omega)
   ·have hs : P.step i t = (P.setT i { t with slot:=2,work:=t.work.home },1):=by unfold PSt.step; simp only [hn]
    have ht' : t' = { t with slot:=2,work:=t.work.home }:=by
     have:=hto.ts
     rw [hs] at this;have h2 : (P.ts.set i { t with slot:=2,work:=t.work.home })[i]? = (P.ts.set i t')[i]?:=by rw [<- this]; rfl
     simpa [hi] using h2.symm
    rw [ht'];refine ⟨hP.sp,?_,fun _ _ _=>.inl rfl,?_,?_⟩
    ·intro _ _ q; exact absurd (show (4 : Nat)<=3 from q) (by omega)
    ·intro b k _;refine ⟨0,hT.lk hb k (by omega),.inl rfl,?_⟩;show t.work.noted = _;rw [hP.no hb k (by omega)]
     symm
     rw [List.filter_eq_nil_iff];intro p _
     simp
    ·intro _ _ q; exact absurd (show (4 : Nat) = 13 from q) (by omega)
   ·-- it reads a link
    have htm:=hT.tm hb (by omega);have hver:=hV.rd i t ht ⟨hb,hk,by omega,by omega⟩;obtain ⟨e1,e2⟩:=hold t.work.time htm.1;obtain ⟨x,h1,h2,h3,h4,h5⟩:=h.linkIs ht hb hn hk;have hsm:=step_mid (i:=i) (t:=t) P (by omega) (by omega);rw [if_pos hk] at hsm;unfold PSt.read at hsm;rw [h1] at hsm;simp only at hsm;by_cases hp : P.mem.hasPending x false = true
    ·rw [if_pos hp] at hsm;have ht' : t' = t:=by
      have:=hto.ts
      rw [hsm] at this;have h2 : P.ts[i]? = (P.ts.set i t')[i]?:=by rw [<- this]
      rw [ht] at h2;simpa [hi] using h2.symm
     rw [ht',hsm,e1,e2];exact hP
    ·rw [if_neg hp] at hsm;have hpd : Pd P.mem x = []:=by
      by_cases q : Pd P.mem x = []
      ·exact q
      ·exact absurd (hasPd_iff.2 q) hp
     have hmem : (P.step i t).1.mem = P.mem:=by rw [hsm]; rfl
     have hxv : x = 0\/Vt t.work.time x:=by
      rcases hk with hk | hk
      ·rw [h4 hk]; exact hP.lo hb hk hn
      ·obtain ⟨x',q1,q2,_⟩:=hP.sc hb hk hn;rw [h5 hk] at q1;simp at q1;rw [q1]; exact q2
     obtain ⟨l1,l2,l3⟩:=h.ledIs hver hxv hpd;generalize P.mem.ledTo x false t.work.time = y at *;have ht' : t' = { t with work:=(if t.work.kind = 3 then P.lookUp t.work y else P.scan t.work y) }:=by
      have:=hto.ts
      rw [hsm,setW_to P ht] at this;have h2 : (P.ts.set i { t with work:=(if t.work.kind = 3 then P.lookUp t.work y else P.scan t.work y) })[i]? = (P.ts.set i t')[i]?:=by rw [<- this]
      simpa [hi] using h2.symm
     rw [ht',hmem];rcases hk with hk | hk
     ·rw [if_pos hk];have hky:=hT.ky hb (by omega);have hxk:=(hT.xs hb (by omega) (by omega) (by omega)).2.2;rw [<- h4 hk] at hxk;unfold PSt.lookUp;have hps : P.isPassed y t.work.key = decide (Ky P.mem y < t.work.key):=by
       unfold PSt.isPassed; rw [if_neg (by rw [h.kind]; decide)]
      rw [hps];by_cases hlt : Ky P.mem y < t.work.key
      ·rw [if_pos (by simpa using hlt)];have hy1 : y≠1:=by rintro rfl; have:=h.n.a1.2.2.2.2.2; omega
       refine ⟨fun b k4=>absurd (show t.work.kind = 4 from k4) (by omega),fun b k4=>absurd (show t.work.kind = 4 from k4) (by omega),?_,fun b k4=>absurd (show t.work.kind = 4 from k4) (by omega),fun _ _ q=>absurd (show t.work.next = 13 from q) (by omega)⟩;intro _ _ _;show y = 0\/Vt' t.work.time y;rw [e2];exact .inr (l1.resolve_left hy1)
      ·rw [if_neg (by simpa using hlt)];refine ⟨fun b k4=>absurd (show t.work.kind = 4 from k4) (by omega),fun b k4=>absurd (show t.work.kind = 4 from k4) (by omega),fun _ _ q=>absurd (show (13 : Nat) = 4 from q) (by omega),fun b k4=>absurd (show t.work.kind = 4 from k4) (by omega),?_⟩;intro _ _ _;show (if Ky P.mem y = t.work.key then ({ stamp:=t.work.time,did:=true,value:=(P.mem.node y).value } : BAns) else { stamp:=t.work.time }) = readAns (Rt' t.work.time) _;rw [e1];refine Eq.trans ?_ (readAns3 _ _ hk).symm;show _ = ({ stamp:=t.work.time,did:=(shVal (Rt t.work.time) t.work.key).2,value:=(shVal (Rt t.work.time) t.work.key).1 } : BAns);by_cases hke : Ky P.mem y = t.work.key
       ·have hy1 : y≠1:=by rintro rfl; have:=h.n.a1.2.2.2.2.2; omega
        have hv:=l1.resolve_left hy1;have hm : (t.work.key,(P.mem.node y).value) ∈ Rt t.work.time:=(hver.a _).2 ⟨y,hv,by rw [hke]⟩;rw [if_pos hke,shVal_in hver.srt hm]
       ·have hno : ∀ p ∈ Rt t.work.time,p.1≠t.work.key:=by
         intro p hp q
         have:=(l3 p hp (by rcases hxk with z | z; exact .inl z; right; omega)).2
         omega
        rw [if_neg hke,shVal_out hno]
     ·rw [if_neg (show ¬ t.work.kind = 3 by omega)];have hli:=h5 hk;have hsp:=hP.sp hb hk;obtain ⟨x',q1,q2,q3⟩:=hP.sc hb hk hn;rw [hli] at q1;simp at q1;subst q1;have hhi:=hT.hi hb hk;have hl2 : ((P.mem.node y).links == 2) = false:=by
       rcases l1 with z | z
       ·rw [z,h.n.a1.2.2.1]; rfl
       ·have hu:=(hver.d y z).1;rcases h.o.us y hu with w | w | w | ⟨jj,uu,hjj,f1,f2,f3,f4⟩
        ·exact absurd w (hver.d y z).2.2.1
        ·rw [(h.n.mc y w).2.1]; rfl
        ·rw [(h.n.md y w).2]; rfl
        ·obtain ⟨n,g1,_,_,_,_,_,_,g8,_⟩:=(h.th jj uu hjj).f8 f1 f2 f3;rw [mem_one g1 f4,g8]; rfl
      unfold PSt.scan;simp only [hli,List.drop_one,List.tail_cons,List.append_nil];have hlw : P.linksWithin y (leastLo t.work.spans) (greatestHi t.work.spans) = if Ky P.mem y<=greatestHi t.work.spans then [(y,false)] else []:=by
       unfold PSt.linksWithin; rw [if_pos h.kind]
      rw [hlw,hl2];by_cases hle : Ky P.mem y<=greatestHi t.work.spans
      ·rw [if_pos hle,if_neg (by simp)];have hy1 : y≠1:=by rintro rfl; have:=h.n.a1.2.2.2.2.2; omega
       have hv:=l1.resolve_left hy1;have hy0 : y≠0:=(hver.d y hv).2.1;refine ⟨hP.sp,fun _ _ q=>absurd (show t.work.next<=3 from q) (by omega),fun _ k3=>absurd (show t.work.kind = 3 from k3) (by omega),?_,fun _ _ q=>absurd (show t.work.next = 13 from q) (by omega)⟩;intro _ _ _;refine ⟨y,rfl,?_,?_⟩
       ·show y = 0\/Vt' t.work.time y;rw [e2]; exact .inr hv
       ·show (if (!false && isIn (P.mem.node y).key (leastLo t.work.spans) (greatestHi t.work.spans)) = true then t.work.noted ++ [((P.mem.node y).key,(P.mem.node y).value)] else t.work.noted) = (Rt' t.work.time).filter (fun p=>isIn p.1 (leastLo t.work.spans) (greatestHi t.work.spans) && decide (y≠0/\p.1<=Ky P.mem y));rw [e1];have hm : (Ky P.mem y,(P.mem.node y).value) ∈ Rt t.work.time:=(hver.a _).2 ⟨y,hv,rfl⟩;have hnext:=filt_next (q:=fun p=>isIn p.1 (leastLo t.work.spans) (greatestHi t.work.spans)) (a:=Ky P.mem x) (b:=Ky P.mem y) (v:=(P.mem.node y).value) (z:=decide (x = 0)) hver.srt hm (by
         intro p hp hh;refine (l3 p hp ?_).2;rcases hh with z | z
         ·exact .inl (by simpa using z)
         ·exact .inr z) (by
         rcases l2 with z | z
         ·exact .inl (by simpa using z)
         ·exact .inr z)
        have hf1 : (Rt t.work.time).filter (fun p=>isIn p.1 (leastLo t.work.spans) (greatestHi t.work.spans) && decide (y≠0/\p.1<=Ky P.mem y)) = (Rt t.work.time).filter (fun p=>isIn p.1 (leastLo t.work.spans) (greatestHi t.work.spans) && decide (p.1<=Ky P.mem y)):=by
         congr 1; funext p; simp [hy0]
        have hf2 : t.work.noted = (Rt t.work.time).filter (fun p=>isIn p.1 (leastLo t.work.spans) (greatestHi t.work.spans) && (!decide (x = 0) && decide (p.1<=Ky P.mem x))):=by
         rw [q3]; congr 1; funext p;by_cases hx0 : x = 0 <;> simp [hx0]
        rw [hf1,hnext,<- hf2];simp only [Bool.not_false,Bool.true_and];show (if isIn (Ky P.mem y) (leastLo t.work.spans) (greatestHi t.work.spans) = true then t.work.noted ++ [(Ky P.mem y,(P.mem.node y).value)] else t.work.noted) = _;split
        ·rfl
        ·simp
      ·rw [if_neg hle,if_pos (show ([] : List (Int × Bool)).length = 0 from rfl)];refine ⟨hP.sp,fun _ _ q=>absurd (show (13 : Nat)<=3 from q) (by omega),fun _ k3=>absurd (show t.work.kind = 3 from k3) (by omega),fun _ _ q=>absurd (show (13 : Nat) = 4 from q) (by omega),?_⟩;intro _ _ _;have hnot : isIn (P.mem.node y).key (leastLo t.work.spans) (greatestHi t.work.spans) = false:=isIn_false (fun q=>hle q.2);show answerOf t.work.spans (if (!false && isIn (P.mem.node y).key (leastLo t.work.spans) (greatestHi t.work.spans)) = true then t.work.noted ++ [((P.mem.node y).key,(P.mem.node y).value)] else t.work.noted) t.work.time = readAns (Rt' t.work.time) _;rw [e1,hnot];refine Eq.trans ?_ (readAns4 _ _ (show ¬ t.work.kind = 3 by omega)).symm;show answerOf t.work.spans t.work.noted t.work.time = answerOf t.work.spans (Rt t.work.time) t.work.time;rw [<- (hull_answer hsp (Rt t.work.time) t.work.time).1]
       congr 1
       rw [q3];refine List.filter_congr ?_;intro p hp;by_cases hin : isIn p.1 (leastLo t.work.spans) (greatestHi t.work.spans) = true
       ·rw [hin,Bool.true_and];have hin':=isIn_iff.1 hin;have hnx : ¬ (x = 0\/Ky P.mem x < p.1):=by
         intro hh
         have:=(l3 p hp hh).2
         omega
        simp only [not_or] at hnx;exact decide_eq_true ⟨hnx.1,by omega⟩
       ·have : isIn p.1 (leastLo t.work.spans) (greatestHi t.work.spans) = false:=by simpa using hin
        rw [this]; rfl
   ·have hs : P.step i t = (P.setT i t.leave,3):=by unfold PSt.step; simp only [hn]
    have ht' : t' = t.leave:=by
     have:=hto.ts
     rw [hs] at this;have h2 : (P.ts.set i t.leave)[i]? = (P.ts.set i t')[i]?:=by rw [<- this]; rfl
     simpa [hi] using h2.symm
    rw [ht'];exact RPos.upd (fun b=>nomatch b)
  ·exact RPos.upd (fun b=>by have:=hto.kd b; omega)
 ·rw [if_neg e] at hj;have hP:=hR j u hj;have hU:=h.th j u hj;have old : u.busy = true->3<=u.work.next->Rt' u.work.time = Rt u.work.time/\Vt' u.work.time = Vt u.work.time:=fun b h3=>hold _ (hU.tm b h3).1
  have hky : Rdr u->∀ x,(x = 0\/Vt u.work.time x)->Ky (P.step i t).1.mem x = Ky P.mem x:=by
   intro hr x hx;have hver:=hV.rd j u hj hr;have hu : Us P.mem x:=by
    rcases hx with rfl | hx
    ·exact h.gdUs (.inr (.inl h.n.a0.1))
    ·exact (hver.d x hx).1
   obtain ⟨s,y,g1,_⟩:=hver.g x hx;exact (h.keepsR ht hb x hu (h.ve8 ht g1)).1
  refine ⟨hP.sp,hP.no,?_,?_,?_⟩
  ·intro b k3 n4;rw [(old b (by omega)).2]; exact hP.lo b k3 n4
  ·intro b k4 n4;obtain ⟨x,q1,q2,q3⟩:=hP.sc b k4 n4;rw [(old b (by omega)).1,(old b (by omega)).2];refine ⟨x,q1,q2,?_⟩;rw [hky ⟨b,.inr k4,by omega,by omega⟩ x q2]; exact q3
  ·intro b k n13;rw [(old b (by omega)).1]; exact hP.an b k n13
theorem InvR.sweep (hR : InvR Rt Vt P) (hV : InvV C Rt Vt P) (h : Inv C P) : InvR Rt Vt P.doSweep.1:=by
 have hV':=hV.sweep h;intro j u hj;have hts : P.doSweep.1.ts = P.ts:=sweep_ts P;rw [hts] at hj;have hP:=hR j u hj;refine ⟨hP.sp,hP.no,hP.lo,?_,hP.an⟩;intro b k4 n4;obtain ⟨x,q1,q2,q3⟩:=hP.sc b k4 n4;refine ⟨x,q1,q2,?_⟩;have hr : Rdr u:=⟨b,.inr k4,by omega,by omega⟩
 -- the keys of what was are the same: by the pairs and the places
 have hk : Ky P.doSweep.1.mem x = Ky P.mem x:=by
  have hs:=h.sweep;by_cases h0 : x = 0
  ·subst h0;unfold PSt.doSweep;simp only;split
   ·rfl
   ·split
    ·split <;> rfl
    ·split
     ·rfl
     ·have hre : ∀ n ∈ P.sweep.retired,P.mem.hasNode (n : Int) = true/\(n : Int)≠0/\(n : Int)≠1:=by
       intro n hn;have h1:=(h.o.sw (n : Int) ⟨n,hn,rfl⟩).1;obtain ⟨h2,h3,_⟩:=h.n.mr _ h1;refine ⟨hasN_used (h.n.md _ h2).1,?_,?_⟩
       ·intro e; rw [e] at h3; exact h3 h.n.a0.1
       ·intro e; rw [e] at h2; simp only [De] at h2; rw [h.n.a1.2.2.2.1] at h2; cases h2
      obtain ⟨_,_,g3⟩:=freesIf_ok P.sweep.hasTime P.sweep.time P.sweep.retired P.mem h.wm hre;have : ¬ Gone P.mem P.sweep.hasTime P.sweep.time P.sweep.retired 0:=by
       rintro ⟨⟨n,hn,e⟩,_⟩;exact (hre n hn).2.1 e
      show (PMem.node _ 0).key = _;rw [((g3 0).2 this).1]
  ·have hv:=q2.resolve_left h0;have hu':=((hV'.rd j u (by rw [hts]; exact hj) hr).d x hv).1
   -- a node that is in use behind the sweep is as it was
   unfold PSt.doSweep at hu' ⊢;simp only at hu' ⊢;split at hu'
   ·rename_i c1; rw [if_pos c1]
   ·rename_i c1
    rw [if_neg c1];split at hu'
    ·rename_i c2
     rw [if_pos c2];split <;> rfl
    ·rename_i c2
     rw [if_neg c2];split at hu'
     ·rename_i c3; rw [if_pos c3]; rfl
     ·rename_i c3
      rw [if_neg c3];have hre : ∀ n ∈ P.sweep.retired,P.mem.hasNode (n : Int) = true/\(n : Int)≠0/\(n : Int)≠1:=by
       intro n hn;have h1:=(h.o.sw (n : Int) ⟨n,hn,rfl⟩).1;obtain ⟨h2,h3,_⟩:=h.n.mr _ h1;refine ⟨hasN_used (h.n.md _ h2).1,?_,?_⟩
       ·intro e; rw [e] at h3; exact h3 h.n.a0.1
       ·intro e; rw [e] at h2; simp only [De] at h2; rw [h.n.a1.2.2.2.1] at h2; cases h2
      obtain ⟨_,_,g3⟩:=freesIf_ok P.sweep.hasTime P.sweep.time P.sweep.retired P.mem h.wm hre;have hng : ¬ Gone P.mem P.sweep.hasTime P.sweep.time P.sweep.retired x:=by
       intro hg
       have:=((g3 x).1 hg).1
       have hu2 : (PMem.node (P.mem.freesIf P.sweep.hasTime P.sweep.time P.sweep.retired) x).used = true:=hu';rw [this] at hu2; exact nomatch hu2
      show (PMem.node _ x).key = _;rw [((g3 x).2 hng).1]
 rw [hk]; exact q3
end
end
section
section
variable {P : PSt}
end
end
section
section
variable {es : List PEntry} {time : Int}
end
end
section
end
section
section
variable {M : PMem} {c : Int} {ch : List Spot3}
end
end
section
section
variable {M : PMem} {c : Int} {ch : List Spot3}
end
end
section
section
variable {M M' : PMem}
end
end
section
section
variable {N E L : Int} {P : PSt} {ch : List Spot3} {n e c : Int}
end
end
section
section
variable {N E L : Int} {P : PSt} {ch : List Spot3} {n e c : Int} {i : Nat} {t : PThread}
end
end
section
section
variable {N E L : Int} {P : PSt} {ch : List Spot3} {n e c : Int} {i : Nat} {t : PThread}
end
end
section
section
variable {N E L : Int} {P : PSt} {ch : List Spot3} {n e c : Int} {i : Nat} {t : PThread}
end
end
section
section
variable {N E L : Int} {P : PSt} {ch : List Spot3} {n e c : Int} {i : Nat} {t : PThread}
end
end
section
section
variable {N E L : Int} {P : PSt} {ch : List Spot3} {n e c : Int} {i : Nat} {t : PThread}
end
end
section
section
variable {N E L : Int} {P : PSt} {ch : List Spot3} {n e c : Int} {i : Nat} {t : PThread}
end
end
section
section
variable {N E L : Int} {P : PSt} {ch : List Spot3} {n e c : Int} {i : Nat} {t : PThread}
end
end
section
section
variable {N E L : Int} {P : PSt} {ch : List Spot3} {n e c : Int} {i : Nat} {t : PThread}
end
end
section
theorem fresh_mem (nn en : Nat) : freshMem nn (en + 1) = ⟨linked false 1 anchorNode :: endNode :: List.replicate nn PNode.zero,⟨true,false,0,false,1,0⟩ :: List.replicate en PEntry.zero⟩:=by
 unfold freshMem;have h1 : (⟨freshNodes nn,List.replicate (en + 1) PEntry.zero⟩ : PMem).addLink 0 1 = ⟨linked false 1 anchorNode :: endNode :: List.replicate nn PNode.zero,⟨true,true,0,false,1,0⟩ :: List.replicate en PEntry.zero⟩ :=
  addLink_ok (M:=⟨freshNodes nn,List.replicate (en + 1) PEntry.zero⟩) (n:=0) (q:=0) (nd:=anchorNode) (e:=PEntry.zero) rfl rfl rfl rfl 1
 rw [h1];unfold PMem.stampNew;have h2 : (⟨linked false 1 anchorNode :: endNode :: List.replicate nn PNode.zero,⟨true,true,0,false,1,0⟩ :: List.replicate en PEntry.zero⟩ : PMem).stamp 0 false 0 = ⟨linked false 1 anchorNode :: endNode :: List.replicate nn PNode.zero,⟨true,false,0,false,1,0⟩ :: List.replicate en PEntry.zero⟩ :=
  stamp_ok (n:=0) (q:=0) (e:=⟨true,true,0,false,1,0⟩) rfl rfl 0
 rw [h2];refine stamp_none ?_ _
 ·refine find_miss _ _ ?_;intro j _ y hy;cases j with
  | zero =>
   have:=Option.some.inj hy
   subst this; rfl
  | succ j =>
   have hy' : (List.replicate en PEntry.zero)[j]? = some y:=hy
   have:=(List.mem_replicate.1 (List.mem_of_getElem? hy')).2
   subst this; rfl
end
section
end
section
end
section
section
variable {C : Int->Prop} {i j : Nat} {t : PThread} {P : PSt} {L : Nat}
def spot (M : PMem) (x : Int) : Spot3:=(x.toNat,Ky M x,(M.node x).value)
end
end
section
def SameOp (t t' : PThread) : Prop:=t'.work.kind = t.work.kind/\t'.work.key = t.work.key/\t'.work.value = t.work.value/\t'.work.spans = t.work.spans
section
variable {C C' : Int->Prop} {i j : Nat} {t : PThread} {P : PSt} {L : Nat} {D D' : PlD}
theorem step_work (hk : P.kind = 0) (ht : P.ts[i]? = some t) (hb : t.busy = true) : ∃ t',(P.step i t).1.ts = P.ts.set i t'/\((P.step i t).2 = 3->t'.busy = false)/\((P.step i t).2≠3->t'.busy = true/\SameOp t t'/\t'.hasEnded = t.hasEnded/\t'.last = t.last):=by
 have same : P.ts.set i t = P.ts:=by
  apply List.ext_getElem?;intro j;rw [List.getElem?_set];split
  ·next e=>subst e; split <;> simp_all
  ·rfl
 have fin : ∀ (Q : PSt) (k : PWork),Q.ts = P.ts->k.kind = t.work.kind->k.key = t.work.key->k.value = t.work.value->k.spans = t.work.spans->∀ n : Int,n≠3->∃ t',(Q.setW i k,n).1.ts = P.ts.set i t'/\((Q.setW i k,n).2 = 3->t'.busy = false)/\((Q.setW i k,n).2≠3->t'.busy = true/\SameOp t t'/\t'.hasEnded = t.hasEnded/\t'.last = t.last):=by
  intro Q k hQ h1 h2 h3 h4 n hn;refine ⟨{ t with work:=k },?_,fun e=>absurd e hn,fun _=>⟨hb,⟨h1,h2,h3,h4⟩,rfl,rfl⟩⟩;show (Q.setW i k).ts = _;rw [setW_to Q (t:=t) (by rw [hQ]; exact ht) k,hQ]
 have stay : ∀ n : Int,n≠3->∃ t',(P,n).1.ts = P.ts.set i t'/\((P,n).2 = 3->t'.busy = false)/\((P,n).2≠3->t'.busy = true/\SameOp t t'/\t'.hasEnded = t.hasEnded/\t'.last = t.last) :=
  fun n hn=>⟨t,same.symm,fun e=>absurd e hn,fun _=>⟨hb,⟨rfl,rfl,rfl,rfl⟩,rfl,rfl⟩⟩
 unfold PSt.step;split
 ·exact ⟨_,rfl,fun e=>absurd e (by show ¬ (1 : Int) = 3; decide),fun _=>⟨hb,⟨rfl,rfl,rfl,rfl⟩,rfl,rfl⟩⟩
 ·exact ⟨_,rfl,fun e=>absurd e (by show ¬ (1 : Int) = 3; decide),fun _=>⟨hb,⟨rfl,rfl,rfl,rfl⟩,rfl,rfl⟩⟩
 ·exact ⟨_,rfl,fun e=>absurd e (by show ¬ (1 : Int) = 3; decide),fun _=>⟨hb,⟨rfl,rfl,rfl,rfl⟩,rfl,rfl⟩⟩
 ·exact ⟨_,rfl,fun _=>rfl,fun e=>absurd rfl e⟩
 ·split
  ·unfold PSt.read;simp only;split
   ·exact stay 2 (by decide)
   ·split
    ·refine fin P _ rfl ?_ ?_ ?_ ?_ 1 (by decide) <;> (unfold PSt.lookUp; split <;> rfl)
    ·refine fin P _ rfl ?_ ?_ ?_ ?_ 1 (by decide) <;> (unfold PSt.scan; simp only; split <;> rfl)
  ·unfold PSt.update;split
   ·refine fin P _ rfl ?_ ?_ ?_ ?_ 1 (by decide) <;> (unfold PSt.walk; split <;> rfl)
   ·unfold PSt.lock;split
    ·split
     ·refine fin _ _ ?_ ?_ ?_ ?_ ?_ 1 (by decide) <;> rfl
     ·exact stay 2 (by decide)
    ·refine fin _ _ ?_ ?_ ?_ ?_ ?_ 1 (by decide) <;> rfl
   ·unfold PSt.check;split
    ·refine fin _ _ ?_ ?_ ?_ ?_ ?_ 1 (by decide) <;> rfl
    ·split
     ·refine fin _ _ ?_ ?_ ?_ ?_ ?_ 1 (by decide) <;> rfl
     ·refine fin _ _ ?_ ?_ ?_ ?_ ?_ 1 (by decide) <;> rfl
   ·unfold PSt.prepare;split
    ·refine fin _ _ ?_ ?_ ?_ ?_ ?_ 1 (by decide) <;> rfl
    ·have hpp : ∀ pp : PMem × PWork,pp.2.kind = t.work.kind/\pp.2.key = t.work.key/\pp.2.value = t.work.value/\pp.2.spans = t.work.spans->∃ t',(((P.setM pp.1).setW i { pp.2 with next:=8 },(1 : Int)) : PSt × Int).1.ts = P.ts.set i t'/\(((((P.setM pp.1).setW i { pp.2 with next:=8 },(1 : Int)) : PSt × Int)).2 = 3->t'.busy = false)/\(((((P.setM pp.1).setW i { pp.2 with next:=8 },(1 : Int)) : PSt × Int)).2≠3->t'.busy = true/\SameOp t t'/\t'.hasEnded = t.hasEnded/\t'.last = t.last):=by
      rintro pp ⟨h1,h2,h3,h4⟩;exact fin (P.setM pp.1) { pp.2 with next:=8 } rfl h1 h2 h3 h4 1 (by decide)
     refine hpp (if t.work.kind = 1 then P.prepareInsert t.work else P.prepareRemove t.work) ?_;split
     ·unfold PSt.prepareInsert;simp only [if_pos hk];refine ⟨?_,?_,?_,?_⟩ <;> first | rfl | trivial
     ·unfold PSt.prepareRemove;simp only [if_pos hk];refine ⟨?_,?_,?_,?_⟩ <;> first | rfl | trivial
   ·unfold PSt.take;split
    ·refine fin _ _ ?_ ?_ ?_ ?_ ?_ 1 (by decide) <;> rfl
    ·simp only;split
     ·refine fin _ _ ?_ ?_ ?_ ?_ ?_ 1 (by decide) <;> rfl
     ·refine fin _ _ ?_ ?_ ?_ ?_ ?_ 1 (by decide) <;> rfl
   ·refine fin _ _ ?_ ?_ ?_ ?_ ?_ 1 (by decide) <;> rfl
   ·refine fin _ _ ?_ ?_ ?_ ?_ ?_ 1 (by decide) <;> rfl
   ·refine fin _ _ ?_ ?_ ?_ ?_ ?_ 1 (by decide) <;> rfl
   ·refine fin _ _ ?_ ?_ ?_ ?_ ?_ 1 (by decide) <;> rfl
   ·exact stay 1 (by decide)
theorem ok_step (hk : D.P.kind = 0) (hok : D.ok) (ht : D.P.ts[i]? = some t) (hb : t.busy = true) (hs : Stepped D i t D') : D'.ok:=by
 obtain ⟨t',h1,h2,h3⟩:=step_work hk ht hb;show D'.bs = D'.P.ts.map (·.busy);rw [hs.P,h1,hs.bs,List.map_set];have hok' : D.bs = D.P.ts.map (·.busy):=hok;split
 ·next e=>rw [h2 e,hok']
 ·next e =>
  rw [(h3 e).1,hok'];apply List.ext_getElem?;intro j;rw [List.getElem?_set];split
  ·next e=>subst e; rw [List.getElem?_map,ht]; simp [hb]; exact (List.getElem?_eq_some_iff.1 ht).1
  ·rfl
def Pot (N : Nat) (D : PlD) (n : Nat) : Prop:=∃ C,Inv C D.P/\D.P.mem.ns.length = N + 2/\Phi (N + 2) C D.P<=n
theorem Pot.move {N n : Nat} (h : Pot N D n) (ht : D.P.ts[i]? = some t) (hb : t.busy = true) (hs : Stepped D i t D') (hm : (D.P.step i t).2≠2) : ∃ n',n' + 1<=n/\Pot N D' n':=by
 obtain ⟨C,h1,h2,h3⟩:=h;have hd:=h1.drops h2 ht hb hm;refine ⟨Phi (N + 2) (nextC C t) (D.P.step i t).1,by omega,nextC C t,?_,?_,?_⟩
 ·rw [hs.P]; exact h1.step ht hb
 ·rw [hs.P,step_len h1.kind]; exact h2
 ·rw [hs.P]; exact Nat.le_refl _
theorem Pot.wait {N n : Nat} (h : Pot N D n) (ht : D.P.ts[i]? = some t) (hb : t.busy = true) (hs : Stepped D i t D') (hm : (D.P.step i t).2 = 2) : Pot N D' n/\D'.P = D.P/\D'.bs = D.bs:=by
 obtain ⟨C,h1,h2,h3⟩:=h;have hw:=(h1.waits ht hb hm).1;have hP : D'.P = D.P:=by rw [hs.P,hw]
 refine ⟨⟨C,?_,?_,?_⟩,hP,?_⟩
 ·rw [hP]; exact h1
 ·rw [hP]; exact h2
 ·rw [hP]; exact h3
 ·rw [hs.bs,if_neg (by omega)]
structure Plays (f : Nat) (T N E L : Int) (J : PlD->Prop) : Prop where
 inv : ∀ {D},J D->∃ C,Inv C D.P
 len : ∀ {D},J D->D.P.mem.ns.length = N.toNat + 2
 ok : ∀ {D},J D->D.ok
 cfg : ∀ {D},J D->D.k = 0/\D.t = T/\D.n = N/\D.e = E/\D.l = L
 step : ∀ {D D' : PlD} {i : Nat} {t : PThread},J D->Fit D.N D.P->D.P.ts[i]? = some t->t.busy = true->f<=i->Stepped D i t D'->J D'
 begin : ∀ {D D' : PlD} {i : Nat} {t : PThread} {o : OpV},J D->D.P.ts[i]? = some t->f<=i->Begun D i t o D'->J D'
 sweep : ∀ {D : PlD} (L' : ZLay),J D->J { D with L:=L',P:=D.P.doSweep.1 }
 low : ∀ {D : PlD} {i : Nat} {t : PThread},J D->i < f->D.P.ts[i]? = some t->t.busy = true->t.work.kind = 3\/t.work.kind = 4
def Sz (b : Nat) (D : PlD) : Prop:=D.N<=b/\D.deeds.length<=b/\0<=D.puts/\D.puts<=b/\0<=D.takes/\D.takes<=b
theorem Sz.mono {b b' : Nat} (h : Sz b D) (hb : b<=b') : Sz b' D:=by unfold Sz at *; omega
theorem Sz.step {b : Nat} (h : Sz b D) (hs : Stepped D i t D') : Sz (b + 1) D':=by
 have hd : D'.deeds.length<=D.deeds.length + 1:=by
  by_cases e : (D.P.step i t).2 = 3
  ·obtain ⟨av,o,f,_,_,q⟩:=hs.deeds.2 e;rw [q]; simp
  ·rw [hs.deeds.1 e]; omega
 unfold Sz at *;rw [hs.N,hs.cnt.1,hs.cnt.2]; omega
theorem Sz.begin {b : Nat} {o : OpV} (h : Sz b D) (hs : Begun D i t o D') : Sz (b + 1) D':=by
 have hc : (D'.puts = D.puts\/D'.puts = D.puts + 1)/\(D'.takes = D.takes\/D'.takes = D.takes + 1):=by
  by_cases hh : t.busy = true\/properB o.kind o.key o.spans = false
  ·obtain ⟨_,_,_,_,q1,q2⟩:=hs.no hh; exact ⟨.inl q1,.inl q2⟩
  ·simp only [not_or,Bool.not_eq_true,Bool.not_eq_false] at hh;obtain ⟨_,_,_,_,q1,q2⟩:=hs.yes hh.1 hh.2;rw [q1,q2];exact ⟨by split <;> omega,by split <;> omega⟩
 unfold Sz at *;rw [hs.N,hs.deeds]; omega
end
end
section
open Go.RowKit
structure Turning (f N : Nat) (D : PlD) (k m s : Nat) (D1 : PlD) : Prop where
 pot : ∀ n,Pot N D n->∃ n',n' + m<=n/\Pot N D1 n'
 still : m = 0->D1.P = D.P/\∀ j u,f<=j->j < k->D.P.ts[j]? = some u->u.busy = true->(D.P.step j u).2 = 2
 none_ : s = 0->D1.P = D.P/\m = 0/\∀ j u,f<=j->j < k->D.P.ts[j]? = some u->u.busy = false
 some_ : s≠0->m = 0->∃ j u,f<=j/\D.P.ts[j]? = some u/\u.busy = true
 le : m<=k/\s<=k
section
variable {own : Own} {z : Nat} {w w' : World} {pb : Nat} {D D1 D2 : PlD} {i f k m s N b : Nat} {t : PThread} {J : PlD->Prop} {T Nn E L : Int}
theorem Turning.start : Turning f N D f 0 0 D:=⟨fun n h=>⟨n,by omega,h⟩,fun _=>⟨rfl,fun j u h1 h2=>by omega⟩,fun _=>⟨rfl,rfl,fun j u h1 h2=>by omega⟩,fun h=>absurd rfl h,by omega⟩
theorem Turning.skip (h : Turning f N D k m s D1) (hk : D1.P.ts[k]? = some t) (hb : t.busy = false) : Turning f N D (k + 1) m s D1:=by
 refine ⟨h.pot,?_,?_,h.some_,by have:=h.le; omega⟩
 ·intro hm;obtain ⟨h1,h2⟩:=h.still hm;refine ⟨h1,?_⟩;intro j u hj hjk hu hub;rcases (show j < k\/j = k by omega) with e | e
  ·exact h2 j u hj e hu hub
  ·subst e; rw [<- h1,hk] at hu; injection hu with hu; subst hu; rw [hb] at hub; cases hub
 ·intro hs;obtain ⟨h1,h2,h3⟩:=h.none_ hs;refine ⟨h1,h2,?_⟩;intro j u hj hjk hu;rcases (show j < k\/j = k by omega) with e | e
  ·exact h3 j u hj e hu
  ·subst e; rw [<- h1,hk] at hu; injection hu with hu; subst hu; exact hb
theorem Turning.wait (h : Turning f N D k m s D1) (hf : f<=k) (hp : ∃ C,Inv C D1.P) (hk : D1.P.ts[k]? = some t) (hb : t.busy = true) (hs : Stepped D1 k t D2) (h2 : (D1.P.step k t).2 = 2) : Turning f N D (k + 1) m (s + 1) D2:=by
 obtain ⟨C,hC⟩:=hp;have hP2 : D2.P = D1.P:=by rw [hs.P,(hC.waits hk hb h2).1]
 refine ⟨?_,?_,fun e=>by omega,?_,by have:=h.le; omega⟩
 ·intro n hn;obtain ⟨n',q1,q2⟩:=h.pot n hn;exact ⟨n',q1,(q2.wait hk hb hs h2).1⟩
 ·intro hm;obtain ⟨g1,g2⟩:=h.still hm;refine ⟨hP2.trans g1,?_⟩;intro j u hj hjk hu hub;rcases (show j < k\/j = k by omega) with e | e
  ·exact g2 j u hj e hu hub
  ·subst e; rw [<- g1,hk] at hu; injection hu with hu; subst hu; rw [<- g1]; exact h2
 ·intro _ hm;obtain ⟨g1,_⟩:=h.still hm;exact ⟨k,t,hf,by rw [<- g1]; exact hk,hb⟩
theorem Turning.move (h : Turning f N D k m s D1) (hk : D1.P.ts[k]? = some t) (hb : t.busy = true) (hs : Stepped D1 k t D2) (h2 : (D1.P.step k t).2≠2) : Turning f N D (k + 1) (m + 1) (s + 1) D2:=by
 refine ⟨?_,fun e=>by omega,fun e=>by omega,fun _ e=>by omega,by have:=h.le; omega⟩;intro n hn;obtain ⟨n',q1,q2⟩:=h.pot n hn;obtain ⟨n'',q3,q4⟩:=q2.move hk hb hs h2;exact ⟨n'',by omega,q4⟩
theorem Turning.done (hJ : Plays f T Nn E L J) (hj : J D) (h : Turning f N D D.P.ts.length m s D1) (hm : m = 0) : s = 0:=by
 by_cases hs : s = 0
 ·exact hs
 ·exfalso;obtain ⟨j,u,h1,h2,h3⟩:=h.some_ hs hm;obtain ⟨C,hC⟩:=hJ.inv hj;obtain ⟨j',u',g1,g2,g3,g4⟩:=hC.live h2 h3;have hf : f<=j':=by
   rcases Nat.lt_or_ge j' f with hlt | hge
   ·have hl:=hJ.low hj hlt g1 g2;rcases g4 with e | e
    ·omega
    ·omega
   ·exact hge
  exact g3 ((h.still hm).2 j' u' hf (List.getElem?_eq_some_iff.1 g1).1 g1 g2)
theorem Psteps_busy (h : PlAt own z w pb D) (hb : D.bs[i]? = some true) (ht : D.P.ts[i]? = some t) (htb : t.busy = true) (hN : D.N < 2 ^ 39) (hdl : D.deeds.length<=2 ^ 38) :
  Calls Tryz.prog 56 #[pv pb,.int .i64 i] w fun r w'=>r = .returned (.tuple #[.int .i64 (D.P.step i t).2,.bool true])/\PlGoes own z w pb w' (Stepped D i t):=by
 by_cases h3 : (D.P.step i t).2 = 3
 ·rw [h3]; exact Psteps_end h hb ht htb hN hdl h3
 ·exact Psteps_on h hb ht htb hN h3
theorem Pturn_calls (hJ : Plays f T Nn E L J) (h : PlAt own z w pb D) (hj : J D) (hS : Sz b D) (hb : b<=2 ^ 37) (hf : (f : Int) < T) :
  Calls Tryz.prog 80 #[pv pb,.int .i64 f] w fun r w'=>∃ m s : Nat,r = .returned (.tuple #[.int .i64 m,.int .i64 s,.bool true])/\m<=8/\PlGoes own z w pb w' (fun D1=>J D1/\Sz (b + 8) D1/\Turning f Nn.toNat D D.P.ts.length m s D1):=by
 have hT8:=h.fit.thr;have hTt : D.t = D.P.ts.length:=h.thr;obtain ⟨q,hq⟩ : ∃ q : Nat,Hid (q = D.P.ts.length):=⟨_,rfl⟩;have hTq : Hid (T = q):=by show T = q; rw [<- (hJ.cfg hj).2.1,hTt,hq.out]
 have hq8 : q<=8:=by have:=hq.out; omega
 have hfq : f < q:=by have:=hTq.out; omega
 have H:=(mkH (PlAt own z w pb D/\J D/\Sz b D) <|⟨h,hj,hS⟩);have HJ:=(mkH (Plays f T Nn E L J) <|hJ);have HL:=(mkH (∀ (own1 : Own) (w1 : World) (D1 : PlD),PlAt own1 z w1 pb D1->J D1->D1.P.ts.length = q/\D1.t = q) <|by
  intro own1 w1 D1 h1 j1;have h2:=h1.thr;have h3:=(hJ.cfg j1).2.1;have h4:=hTq.out;have : (D1.P.ts.length : Int) = q:=by rw [<- h2,h3,h4]
  exact ⟨by omega,by rw [h3,h4]⟩)
 have HQ:=(mkH (∀ (w' : World) (m s : Nat),PlGoes own z w pb w' (fun D1=>J D1/\Sz (b + 8) D1/\Turning f Nn.toNat D q m s D1)->PlGoes own z w pb w' (fun D1=>J D1/\Sz (b + 8) D1/\Turning f Nn.toNat D D.P.ts.length m s D1)) <|by
  intro w' m s hh; rw [hq.out] at hh; exact hh)
 clear h hj hS hT8 hTt hJ hq hTq hf;unfold pv
 go_enter Tryz.func80,Tryz.ntmps80
 go_wp2
 go_loopw [7,8,9] (fun v1 v2 v3 wr=>∃ k m s : Nat,f<=k/\k<=q/\m<=8/\s<=8/\v1 = .int .i64 m/\v2 = .int .i64 s/\v3 = .int .i64 k/\Hid (PlGoes own z w pb wr (fun D1=>J D1/\Sz (b + k) D1/\Turning f Nn.toNat D k m s D1))) (fun _ _ v3 _=>q - (intOf v3).toNat)
 case atStart=>exact ⟨f,0,0,Nat.le_refl _,by omega,by omega,by omega,rfl,rfl,rfl,own,D,H.out.1,Ext.refl _ _,Fr.refl _ _,H.out.2.1,H.out.2.2.mono (by omega),Turning.start⟩
 case round =>
  clear H;obtain ⟨k,m,s,hfk,hkq,hm8,hs8,rfl,rfl,rfl,HG⟩:=hrel;obtain ⟨own1,D1,hP,hE,hF,hj1,hS1,hTu⟩:=HG.out;obtain ⟨l1,l2⟩:=HL.out own1 wr D1 hP hj1;have HP:=(mkH (PlAt own1 z wr pb D1/\J D1/\Sz (b + k) D1/\Turning f Nn.toNat D k m s D1) <|⟨hP,hj1,hS1,hTu⟩);have HX:=(mkH (Ext own own1 w/\FrP own z w wr) <|⟨hE,hF⟩);have hok : D1.ok:=HJ.out.ok hj1;by_cases hlt : k < q
  ·have hkl : k < D1.P.ts.length:=by omega
   have ht1 : D1.P.ts[k]? = some D1.P.ts[k]:=List.getElem?_eq_getElem hkl;generalize D1.P.ts[k] = t1 at ht1;have hbs : D1.bs[k]? = some t1.busy:=by
    have hok' : D1.bs = D1.P.ts.map (·.busy):=hok;rw [hok',List.getElem?_map,ht1]; rfl
   obtain ⟨g,gc,hv,hc,hz,hg,hgl⟩:=hP.busyRow hbs;have ha:=hP.at_.cell;rw [l1] at hv;simp only [PlD.cells,hv,l2,pv] at ha;have HT:=(mkH (D1.P.ts[k]? = some t1/\D1.bs[k]? = some t1.busy) <|⟨ht1,hbs⟩);have hle:=hTu.le;clear hP hE hF hj1 hS1 hTu HG hok ht1 hbs hv hg;cases hbz : t1.busy
   ·rw [hbz] at hc;have HG2:=(mkH (PlGoes own z w pb wr (fun D1=>J D1/\Sz (b + (k + 1)) D1/\Turning f Nn.toNat D (k + 1) m s D1)) <|⟨own1,D1,HP.out.1,HX.out.1,HX.out.2,HP.out.2.1,HP.out.2.2.1.mono (by omega),HP.out.2.2.2.skip HT.out.1 hbz⟩);clear HT hbz;go_wp2
    go_roundw
    case rel=>exact ⟨k + 1,m,s,by omega,by omega,hm8,hs8,rfl,rfl,by go_num,HG2⟩
    case measure=>simp [intOf]; omega
   ·rw [hbz] at hc;have HT2:=(mkH (t1.busy = true/\D1.bs[k]? = some true) <|⟨hbz,by rw [<- hbz]; exact HT.out.2⟩);clear hbz;have HN:=(mkH (D1.N < 2 ^ 39/\D1.deeds.length<=2 ^ 38) <|by have:=HP.out.2.2.1; unfold Sz at this; exact ⟨by omega,by omega⟩);go_wp2_with fail;refine (Psteps_busy HP.out.1 HT2.out.2 HT.out.1 HT2.out.1 HN.out.1 HN.out.2).mono ?_;rintro r w2 ⟨rfl,own2,D2,hP2,hE2,hF2,hS2⟩;have HS2:=(mkH (PlGoes own z w pb w2 (fun D2=>J D2/\Sz (b + (k + 1)) D2/\Stepped D1 k t1 D2)) <|PlGoes.trans HX.out.1 HX.out.2 ⟨own2,D2,hP2,hE2,hF2,HJ.out.step HP.out.2.1 HP.out.1.fit HT.out.1 HT2.out.1 hfk hS2,HP.out.2.2.1.step hS2,hS2⟩);have hrg:=(HP.out.1.fit.turn HT.out.1 HT2.out.1).how;clear hP2 hE2 hF2 hS2 ha hc hz;by_cases h2 : (D1.P.step k t1).2 = 2
    ·have HG2:=(mkH (PlGoes own z w pb w2 (fun D2=>J D2/\Sz (b + (k + 1)) D2/\Turning f Nn.toNat D (k + 1) m (s + 1) D2)) <|by
      obtain ⟨o,d,y1,y2,y3,y4,y5,y6⟩:=HS2.out;exact ⟨o,d,y1,y2,y3,y4,y5,HP.out.2.2.2.wait hfk (HJ.out.inv HP.out.2.1) HT.out.1 HT2.out.1 y6 h2⟩)
     rw [h2];clear h2 HS2 hrg;go_wp2
     go_roundw
     case rel=>exact ⟨k + 1,m,s + 1,by omega,by omega,hm8,by omega,rfl,by go_num,by go_num,HG2⟩
     case measure=>simp [intOf]; omega
    ·have HG2:=(mkH (PlGoes own z w pb w2 (fun D2=>J D2/\Sz (b + (k + 1)) D2/\Turning f Nn.toNat D (k + 1) (m + 1) (s + 1) D2)) <|by
      obtain ⟨o,d,y1,y2,y3,y4,y5,y6⟩:=HS2.out;exact ⟨o,d,y1,y2,y3,y4,y5,HP.out.2.2.2.move HT.out.1 HT2.out.1 y6 h2⟩)
     generalize (D1.P.step k t1).2 = hw at h2 hrg ⊢;have h2' : (hw == 2) = false:=by simpa using h2
     clear HS2 h2;go_wp2
     go_roundw
     case rel=>exact ⟨k + 1,m + 1,s + 1,by omega,by omega,by omega,by omega,by go_num,by go_num,by go_num,HG2⟩
     case measure=>simp [intOf]; omega
  ·have hkq' : Hid (k = q):=by show k = q; omega
   have ha:=hP.at_.cell;simp only [PlD.cells,l2,pv] at ha;have HF:=(mkH (PlGoes own z w pb wr (fun D1=>J D1/\Sz (b + 8) D1/\Turning f Nn.toNat D q m s D1)) <|⟨own1,D1,hP,hE,hF,hj1,hS1.mono (by omega),by rw [<- hkq'.out]; exact hTu⟩);clear hP hE hF hj1 hS1 hTu HG hok HP HX;go_wp2;go_ret3;exact ⟨m,s,rfl,hm8,HQ.out _ _ _ HF.out⟩
end
end
section
open Go.RowKit
section
variable {own : Own} {z : Nat} {w w' : World} {pb : Nat} {D D1 D2 : PlD} {i f k m s N b : Nat} {t : PThread} {J : PlD->Prop} {T Nn E L : Int}
theorem Plays.pot (hJ : Plays f T Nn E L J) (hj : J D) (hT : (D.P.ts.length : Int) = T) (hN : 0<=Nn) : Pot Nn.toNat D (T * (T + 2) * (Nn + 16)).toNat:=by
 obtain ⟨C,hC⟩:=hJ.inv hj;refine ⟨C,hC,hJ.len hj,?_⟩
 have:=hC.bound Nn.toNat
 have e : (T * (T + 2) * (Nn + 16)).toNat = D.P.ts.length * ((D.P.ts.length + 2) * (Nn.toNat + 16)):=by
  rw [<- hT];have : ((D.P.ts.length : Int) * (D.P.ts.length + 2) * (Nn + 16)) = ((D.P.ts.length * ((D.P.ts.length + 2) * (Nn.toNat + 16)) : Nat) : Int):=by
   rw [<- Nat.mul_assoc];simp only [Int.natCast_mul,Int.natCast_add];rw [Int.toNat_of_nonneg hN]; rfl
  rw [this]; rfl
 rw [e]; exact this
def Still (f : Nat) (D : PlD) : Prop:=∀ j u,f<=j->D.P.ts[j]? = some u->u.busy = false
theorem most_le {T Nn : Int} (hT : 1<=T/\T<=8) (hN : 0<=Nn/\Nn<=64) : (0<=T * (T + 2)/\T * (T + 2)<=80)/\0<=T * (T + 2) * (Nn + 16)/\T * (T + 2) * (Nn + 16)<=6400:=by
 have h1 : T * (T + 2)<=8 * 10:=Int.mul_le_mul hT.2 (by omega) (by omega) (by omega);have h2 : 0<=T * (T + 2):=Int.mul_nonneg (by omega) (by omega);have h3 : T * (T + 2) * (Nn + 16)<=80 * 80:=Int.mul_le_mul (by omega) (by omega) (by omega) (by omega);have h4 : 0<=T * (T + 2) * (Nn + 16):=Int.mul_nonneg h2 (by omega);omega
theorem Pfinish_calls (hJ : Plays f T Nn E L J) (h : PlAt own z w pb D) (hj : J D) (hS : Sz b D) (hb : b<=2 ^ 36) (hf : (f : Int) < T) (hNn : 0<=Nn/\Nn<=64) :
  Calls Tryz.prog 48 #[pv pb,.int .i64 f] w fun r w'=>r = .returned (.bool true)/\PlGoes own z w pb w' (fun D1=>J D1/\Sz (b + 60000) D1/\Still f D1):=by
 have hT8:=h.fit.thr;have hTt : D.t = D.P.ts.length:=h.thr;have hT1 : (1 : Int)<=T/\T<=8:=by have:=(hJ.cfg hj).2.1; omega
 obtain ⟨⟨m1,m2⟩,m3,m4⟩:=most_le hT1 hNn;obtain ⟨n1,n2⟩:=hNn;obtain ⟨t1,t2⟩:=hT1;have hpot:=hJ.pot hj (by rw [<- hTt]; exact (hJ.cfg hj).2.1) n1;have H:=(mkH (PlAt own z w pb D/\J D/\Sz b D) <|⟨h,hj,hS⟩);have HJ:=(mkH (Plays f T Nn E L J) <|hJ);have HF:=(mkH ((f : Int) < T) <|hf);have ha:=h.at_.cell;simp only [PlD.cells,(hJ.cfg hj).2.1,(hJ.cfg hj).2.2.1,pv] at ha;obtain ⟨M,hM⟩ : ∃ M : Nat,Hid (T * (T + 2) * (Nn + 16) = M):=⟨(T * (T + 2) * (Nn + 16)).toNat,by show _ = _; omega⟩;have hM6 : M<=6400:=by have:=hM.out; omega
 have HPot:=(mkH (Pot Nn.toNat D M) <|by
  show Pot Nn.toNat D M;rw [hM.out] at hpot; simpa using hpot)
 clear h hj hS hT8 hTt hJ hf hpot;unfold pv
 go_enter Tryz.func48,Tryz.ntmps48
 go_wp2;go_region;rw [hM.out];have HD:=(mkH (PlAt own z w.drew pb D) <|H.out.1.calm ((Fr.refl _ _).drew));have HW:=(mkH (FrP own z w w.drew) <|(Fr.refl _ _).drew);clear ha;generalize w.drew = w0 at HD HW ⊢;go_wp2
 go_loopw [6] (fun v wr=>∃ j : Nat,j<=M/\v = .int .i64 j/\Hid (PlGoes own z w pb wr (fun D1=>J D1/\Sz (b + 8 * j) D1/\∃ n,n + j<=M/\Pot Nn.toNat D1 n))) (fun v _=>M + 1 - (intOf v).toNat)
 case atStart=>exact ⟨0,by omega,rfl,own,D,HD.out,Ext.refl _ _,HW.out,H.out.2.1,H.out.2.2,M,by omega,HPot.out⟩
 case round =>
  clear H HD HW HPot;obtain ⟨j,hjM,rfl,HG⟩:=hrel;obtain ⟨own1,D1,hP,hE,hF,hj1,hS1,n,hn,hpt⟩:=HG.out;have HP:=(mkH (PlAt own1 z wr pb D1/\J D1/\Sz (b + 8 * j) D1/\n + j<=M/\Pot Nn.toNat D1 n) <|⟨hP,hj1,hS1,hn,hpt⟩);have HX:=(mkH (Ext own own1 w/\FrP own z w wr) <|⟨hE,hF⟩);clear hP hE hF hj1 hS1 hn hpt HG;have HB:=(mkH (b + 8 * j<=2 ^ 37) <|by show b + 8 * j<=2 ^ 37; omega);go_wp2_with fail;refine (Pturn_calls HJ.out HP.out.1 HP.out.2.1 HP.out.2.2.1 HB.out HF.out).mono ?_;rintro r w2 ⟨mm,ss,rfl,hm8,own2,D2,hP2,hE2,hF2,hj2,hS2,hTu⟩;have HG2:=(mkH (PlGoes own z w pb w2 (fun D2=>J D2/\Sz (b + 8 * (j + 1)) D2/\Turning f Nn.toNat D1 D1.P.ts.length mm ss D2)) <|PlGoes.trans HX.out.1 HX.out.2 ⟨own2,D2,hP2,hE2,hF2,hj2,hS2.mono (by omega),hTu⟩);clear hP2 hE2 hF2 hj2 hS2 hTu hm8;by_cases hs : ss = 0
  ·have HR:=(mkH (PlGoes own z w pb w2 (fun D1=>J D1/\Sz (b + 60000) D1/\Still f D1)) <|by
    obtain ⟨o,d,y1,y2,y3,y4,y5,y6⟩:=HG2.out;obtain ⟨z1,z2,z3⟩:=y6.none_ hs;refine ⟨o,d,y1,y2,y3,y4,y5.mono (by omega),?_⟩;intro q u hq hu;rw [z1] at hu;exact z3 q u hq (List.getElem?_eq_some_iff.1 hu).1 hu)
   subst hs;clear HG2;go_wp2;go_ret;exact ⟨rfl,HR.out⟩
  ·have hm : mm≠0:=by
    intro e;obtain ⟨o,d,y1,y2,y3,y4,y5,y6⟩:=HG2.out;exact hs (y6.done HJ.out HP.out.2.1 e)
   have HG3:=(mkH (j + 1<=M/\PlGoes own z w pb w2 (fun D2=>J D2/\Sz (b + 8 * (j + 1)) D2/\∃ n,n + (j + 1)<=M/\Pot Nn.toNat D2 n)) <|by
    obtain ⟨o,d,y1,y2,y3,y4,y5,y6⟩:=HG2.out;obtain ⟨n',q1,q2⟩:=y6.pot n HP.out.2.2.2.2
    have:=HP.out.2.2.2.1
    exact ⟨by omega,o,d,y1,y2,y3,y4,y5,n',by omega,q2⟩)
   have hs' : ((ss : Int) == 0) = false:=by simp; exact hs
   have hm' : ((mm : Int) == 0) = false:=by simp; exact hm
   have hj1:=HG3.out.1;have HG4:=(mkH (PlGoes own z w pb w2 (fun D2=>J D2/\Sz (b + 8 * (j + 1)) D2/\∃ n,n + (j + 1)<=M/\Pot Nn.toNat D2 n)) <|HG3.out.2);clear HG2 HG3 hs hm;go_wp2
   go_roundw
   case rel=>exact ⟨j + 1,hj1,by go_num,HG4⟩
   case measure=>simp [intOf]; omega
end
end
end Go.Proofs.YtfccelbmacjifaaGreat
