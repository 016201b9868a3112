import Derived.Test.YtfccelbmacjifabGreatP0
import Derived.Test.YtfccelbmacjifabGreatP32
set_option linter.unusedSimpArgs false
set_option maxRecDepth 100000
set_option maxHeartbeats 4000000
namespace Go.Proofs.YtfccelbmacjifabGreat
section
namespace T
def tookD (d : DeedV) : Bool:=decide (d.op.kind = 1\/d.op.kind = 2) && d.a.did
def Tm (ds : List DeedV) (s f : Int) (b : Bool) : Prop:=∀ (j : Nat) e,(j : Int) < f->ds[j]? = some e->e.a.stamp<=s/\(b = true->e.a.stamp < s)
section
variable {g : Gh} {R : Int->List (Int × Int)} {u : Int->Int × Int × Int} {P : PSt} {i : Nat} {t t' : PThread} {puts takes N E L f s : Int} {ds : List DeedV} {o : OpV} {k : PWork}
theorem Tm.app {b : Bool} (h : Tm ds s f b) (hf : f<=ds.length) (x : DeedV) : Tm (ds ++ [x]) s f b:=by
 intro j e hj he;rw [List.getElem?_append_left (by omega)] at he;exact h j e hj he
def Tell (P : PSt) (i : Nat) (t t' : PThread) : Prop :=
 ((P.step i t).1.clock = P.clock /\
  ((t'.busy = true/\t.work.next<=8/\t'.work.next<=8) \/
   (t'.busy = true/\t.work.next = 6/\t'.work.next = 12/\t'.work.ans = { stamp:=P.clock }) \/
   (t'.busy = true/\t.work.next = 7/\t'.work.next = 12/\t'.work.ans = { err:=7 }/\(P.mem.room.1 < (P.needs t.work.kind).1\/P.mem.room.2 < (P.needs t.work.kind).2)) \/
   (t'.busy = true/\t.work.next = 8/\t'.work.next = 12/\t'.work.ans = { err:=8 }/\P.limit<=P.clock) \/
   (t'.busy = true/\9<=t.work.next/\t.work.next<=12/\t'.work.next = t.work.next + 1/\t'.work.ans = t.work.ans) \/
   (t'.busy = false/\t.work.next = 13))) \/
 ((P.step i t).1.clock = P.clock + 1/\t'.busy = true/\t.work.next = 8/\9<=t'.work.next/\t'.work.ans.did = true/\t'.work.ans.stamp = P.clock + 1/\t'.work.ans.err = 0)
theorem Inv.tell (h : Inv g P) (ht : P.ts[i]? = some t) (hb : t.busy = true) (hk : t.work.kind = 1\/t.work.kind = 2) (hts : (P.step i t).1.ts = P.ts.set i t') : Tell P i t t':=by
 have hi:=(List.getElem?_eq_some_iff.1 ht).1;have hnx:=(h.th i t ht).nx hb;obtain ⟨t1,hto⟩:=h.goTo ht hb;have e1 : t1 = t':=set_inj hi (hto.ts.symm.trans hts);subst e1;obtain ⟨t2,hu⟩:=h.upTo ht hb hk;have e2 : t2 = t1:=set_inj hi (hu.ts.symm.trans hto.ts);subst e2;have hck:=hto.ck;unfold Tell;by_cases h13 : t.work.next = 13
 ·left;rw [if_neg (by omega)] at hck;exact ⟨hck,.inr (.inr (.inr (.inr (.inr ⟨by rw [hu.n13 h13]; rfl,h13⟩))))⟩
 have hb2:=hu.bz h13;by_cases h9 : 9<=t.work.next
 ·left;rw [if_neg (by omega)] at hck;obtain ⟨n1,n2⟩:=hu.n9 h9 (by omega);exact ⟨hck,.inr (.inr (.inr (.inr (.inl ⟨hb2,h9,by omega,n1,n2⟩))))⟩
 by_cases h8 : t.work.next = 8
 ·have hn8:=hto.n8 h8;by_cases hl : P.limit<=P.clock
  ·left;rw [if_neg (fun q=>q.2.1 hl)] at hck;rw [if_pos hl] at hn8;exact ⟨hck,.inr (.inr (.inr (.inl ⟨hb2,h8,by rw [hn8]; rfl,by rw [hn8]; rfl,hl⟩)))⟩
  ·right;rw [if_pos ⟨h8,hl,hk⟩] at hck;rw [if_neg hl] at hn8;split at hn8
   ·exact ⟨hck,hb2,h8,by rw [hn8]; show 9<=9; omega,by rw [hn8],by rw [hn8],by rw [hn8]⟩
   ·exact ⟨hck,hb2,h8,by rw [hn8]; show 9<=10; omega,by rw [hn8],by rw [hn8],by rw [hn8]⟩
 ·left;rw [if_neg (by omega)] at hck;refine ⟨hck,?_⟩;by_cases h7 : t.work.next = 7
  ·rcases hu.n7 h7 with ⟨q,q1⟩ | q
   ·exact .inr (.inr (.inl ⟨hb2,h7,by rw [q]; rfl,by rw [q]; rfl,q1⟩))
   ·exact .inl ⟨hb2,by omega,by omega⟩
  ·by_cases h6 : t.work.next = 6
   ·rcases hu.n6 h6 with q | q | ⟨q,_⟩
    ·exact .inl ⟨hb2,by omega,by omega⟩
    ·exact .inl ⟨hb2,by omega,by omega⟩
    ·exact .inr (.inl ⟨hb2,h6,by rw [q]; rfl,by rw [q]; rfl⟩)
   ·have:=hu.lo (by omega)
    exact .inl ⟨hb2,by omega,by omega⟩
theorem Inv.rdTo (h : Inv g P) (ht : P.ts[i]? = some t) (hb : t.busy = true) (hk : t.work.kind = 3\/t.work.kind = 4) (hts : (P.step i t).1.ts = P.ts.set i t') : (P.step i t).1.clock = P.clock/\(t'.busy = true->3<=t'.work.next->(t.work.next = 2/\t'.work.time = P.clock)\/(3<=t.work.next/\t'.work.time = t.work.time)):=by
 have hi:=(List.getElem?_eq_some_iff.1 ht).1;obtain ⟨t1,hto⟩:=h.goTo ht hb;have hck:=hto.ck;rw [if_neg (by omega)] at hck;refine ⟨hck,?_⟩;have hnx:=(h.th i t ht).nx hb;have hrd:=(h.th i t ht).rd hb hk;have same : P.ts.set i t = P.ts:=by
  apply List.ext_getElem?;intro j;rw [List.getElem?_set];split
  ·next e=>subst e; simp_all
  ·rfl
 have on : ∀ {w : PThread},(P.step i t).1.ts = P.ts.set i w->w = t':=fun q=>set_inj hi (q.symm.trans hts)
 rcases (show t.work.next = 1\/t.work.next = 2\/t.work.next = 3\/t.work.next = 13\/t.work.next = 4 by omega) with hn | hn | hn | hn | hn
 ·have hs : P.step i t = (P.setT i { t with slot:=1,work:={ t.work with next:=2 } },1):=by unfold PSt.step; simp only [hn]
  have e:=on (w:={ t with slot:=1,work:={ t.work with next:=2 } }) (by rw [hs]; rfl);subst e;intro _ q;have : 3<=2:=q;omega
 ·have hs : P.step i t = (P.setT i { t with work:={ t.work with time:=P.clock,next:=3 } },1):=by unfold PSt.step; simp only [hn]
  have e:=on (w:={ t with work:={ t.work with time:=P.clock,next:=3 } }) (by rw [hs]; rfl);subst e;exact fun _ _=>.inl ⟨hn,rfl⟩
 ·have hs : P.step i t = (P.setT i { t with slot:=2,work:=t.work.home },1):=by unfold PSt.step; simp only [hn]
  have e:=on (w:={ t with slot:=2,work:=t.work.home }) (by rw [hs]; rfl);subst e;exact fun _ _=>.inr ⟨by omega,rfl⟩
 ·have hs : P.step i t = (P.setT i t.leave,3):=by unfold PSt.step; simp only [hn]
  have e:=on (w:=t.leave) (by rw [hs]; rfl);subst e;exact fun q=>nomatch q
 ·have hsm:=step_mid (i:=i) (t:=t) P (by omega) (by omega);rw [if_pos hk] at hsm;unfold PSt.read at hsm;simp only at hsm;split at hsm
  ·have e:=on (w:=t) (by rw [hsm]; exact same.symm);subst e;exact fun _ _=>.inr ⟨by omega,rfl⟩
  ·have hkk : ∀ k,k = (if t.work.kind = 3 then P.lookUp t.work (P.mem.ledTo (P.linkNext t.work).1 (P.linkNext t.work).2 t.work.time) else P.scan t.work (P.mem.ledTo (P.linkNext t.work).1 (P.linkNext t.work).2 t.work.time))->k.time = t.work.time:=by
    rintro k rfl;split
    ·unfold PSt.lookUp; split <;> rfl
    ·unfold PSt.scan; simp only; split <;> rfl
   have e:=on (by rw [hsm]; show (P.setW i _).ts = _; rw [setW_to P ht]);subst e;exact fun _ _=>.inr ⟨by omega,hkk _ rfl⟩
structure WT (ds : List DeedV) (N E L puts takes : Int) (k : PWork) (o : OpV) (f : Int) : Prop where
 op : k.kind = o.kind/\(k.kind≠4->k.key = o.key)/\(k.kind = 1->k.value = o.value)/\(k.kind = 4->k.spans = o.spans)
 pr : properB o.kind o.key o.spans = true
 f0 : 0<=f/\f<=ds.length
 rt : (k.kind = 3\/k.kind = 4)->3<=k.next->0<=k.time/\Tm ds k.time f false
 ut : (k.kind = 1\/k.kind = 2)->9<=k.next->k.ans.err = 0->Tm ds k.ans.stamp f k.ans.did
 e7 : (k.kind = 1\/k.kind = 2)->9<=k.next->k.ans.err = 7->N < 2 * puts\/E < 1 + 3 * puts + takes
 e8 : (k.kind = 1\/k.kind = 2)->9<=k.next->k.ans.err = 8->L < puts + takes
theorem WT.app (h : WT ds N E L puts takes k o f) (x : DeedV) : WT (ds ++ [x]) N E L puts takes k o f:=by
 refine ⟨h.op,h.pr,⟨h.f0.1,?_⟩,fun a b=>⟨(h.rt a b).1,(h.rt a b).2.app h.f0.2 x⟩,fun a b c=>(h.ut a b c).app h.f0.2 x,h.e7,h.e8⟩
 have:=h.f0.2
 simp only [List.length_append,List.length_singleton];omega
theorem WT.begun (h : WT ds N E L puts takes k o f) {p q : Int} (hp : puts<=p) (hq : takes<=q) : WT ds N E L p q k o f:=by
 refine ⟨h.op,h.pr,h.f0,h.rt,h.ut,fun a b c=>?_,fun a b c=>?_⟩
 ·have:=h.e7 a b c; omega
 ·have:=h.e8 a b c; omega
theorem WT.step (hw : WT ds N E L puts takes t.work o f) (h : Inv g P) (hn : Nums R P puts takes) (hu : Used P puts takes) (ht : P.ts[i]? = some t) (hb : t.busy = true) (h0 : 0<=P.clock) (hds : ∀ e ∈ ds,e.a.stamp<=P.clock) (hN : (P.mem.ns.length : Int) = N + 2) (hE : (P.mem.es.length : Int) = E) (hL : P.limit = L) (hts : (P.step i t).1.ts = P.ts.set i t') (hb' : t'.busy = true) : WT ds N E L puts takes t'.work o f:=by
 have hi:=(List.getElem?_eq_some_iff.1 ht).1;obtain ⟨t3,s1,s2,s3⟩:=step_work ht hb;have e3 : t3 = t':=set_inj hi (s1.symm.trans hts);subst e3;have h3 : (P.step i t).2≠3:=fun q=>by rw [s2 q] at hb'; cases hb'
 obtain ⟨_,⟨a1,a2,a3,a4⟩,_⟩:=s3 h3;have now : ∀ b : Bool,∀ s,(P.clock<=s/\(b = true->P.clock < s))->Tm ds s f b:=by
  intro b s hs j e _ he
  have:=hds e (List.mem_of_getElem? he)
  exact ⟨by omega,fun q=>by have:=hs.2 q; omega⟩
 refine ⟨by rw [a1,a2,a3,a4]; exact hw.op,hw.pr,hw.f0,?_,?_,?_,?_⟩
 ·intro k1 k2;rw [a1] at k1;rcases (h.rdTo ht hb k1 hts).2 hb' k2 with ⟨_,q⟩ | ⟨q1,q2⟩
  ·rw [q]; exact ⟨h0,now false _ ⟨Int.le_refl _,(fun q=>nomatch q)⟩⟩
  ·rw [q2]; exact hw.rt k1 q1
 ·intro k1 k2 k3;rw [a1] at k1;rcases h.tell ht hb k1 hts with ⟨_,q | q | q | q | q | q⟩ | q
  ·omega
  ·rw [q.2.2.2]; exact now _ _ ⟨Int.le_refl _,(fun q=>nomatch q)⟩
  ·rw [q.2.2.2.1] at k3; exact absurd k3 (by decide)
  ·rw [q.2.2.2.1] at k3; exact absurd k3 (by decide)
  ·rw [q.2.2.2.2] at k3 ⊢; exact hw.ut k1 q.2.1 k3
  ·rw [q.1] at hb'; cases hb'
  ·rw [q.2.2.2.2.2.1]; exact now _ _ ⟨by omega,fun _=>by omega⟩
 ·intro k1 k2 k3;rw [a1] at k1;rcases h.tell ht hb k1 hts with ⟨_,q | q | q | q | q | q⟩ | q
  ·omega
  ·rw [q.2.2.2] at k3; exact absurd k3 (by show ¬ (0 : Int) = 7; decide)
  ·exact hu.full h.kind ht hb q.2.1 k1 q.2.2.2.2 hN hE
  ·rw [q.2.2.2.1] at k3; exact absurd k3 (by decide)
  ·rw [q.2.2.2.2] at k3; exact hw.e7 k1 q.2.1 k3
  ·rw [q.1] at hb'; cases hb'
  ·omega
 ·intro k1 k2 k3;rw [a1] at k1;rcases h.tell ht hb k1 hts with ⟨_,q | q | q | q | q | q⟩ | q
  ·omega
  ·rw [q.2.2.2] at k3; exact absurd k3 (by show ¬ (0 : Int) = 8; decide)
  ·rw [q.2.2.2.1] at k3; exact absurd k3 (by decide)
  ·rw [<- hL]; exact hn.late ht hb q.2.1 k1 q.2.2.2.2
  ·rw [q.2.2.2.2] at k3; exact hw.e8 k1 q.2.1 k3
  ·rw [q.1] at hb'; cases hb'
  ·omega
def tkT (s : Int) (t : PThread) : Bool:=t.busy && (decide (t.work.kind = 1\/t.work.kind = 2) && (decide (9<=t.work.next) && (t.work.ans.did && decide (t.work.ans.stamp = s))))
def tkD (s : Int) (d : DeedV) : Bool:=tookD d && decide (d.a.stamp = s)
theorem tkT_low (h : t.work.next<=8) : tkT s t = false:=by unfold tkT; simp [show ¬ 9<=t.work.next by omega]
theorem tkT_idle (h : t.busy = false) : tkT s t = false:=by unfold tkT; simp [h]
theorem tkT_not (h : t.work.ans.did = false) : tkT s t = false:=by unfold tkT; simp [h]
theorem tkT_kind (h : ¬ (t.work.kind = 1\/t.work.kind = 2)) : tkT s t = false:=by unfold tkT; simp [h]
theorem Inv.tkStep (h : Inv g P) (ht : P.ts[i]? = some t) (hb : t.busy = true) (hts : (P.step i t).1.ts = P.ts.set i t') : ((P.step i t).2 = 3->(P.step i t).1.clock = P.clock/\tkT s t' = false/\tkT s t = (decide (t.work.kind = 1\/t.work.kind = 2) && t.work.ans.did && decide (t.work.ans.stamp = s)))/\((P.step i t).2≠3->((P.step i t).1.clock = P.clock/\tkT s t' = tkT s t)\/((P.step i t).1.clock = P.clock + 1/\tkT s t = false/\tkT s t' = decide (s = P.clock + 1))):=by
 have hi:=(List.getElem?_eq_some_iff.1 ht).1;obtain ⟨t3,s1,s2,s3⟩:=step_work ht hb;have e3 : t3 = t':=set_inj hi (s1.symm.trans hts);subst e3;by_cases hk : t.work.kind = 1\/t.work.kind = 2
 ·have htell:=h.tell ht hb hk hts;refine ⟨fun q3=>?_,fun q3=>?_⟩
  ·have hb':=s2 q3;have h13:=three_next q3;refine ⟨?_,tkT_idle hb',by unfold tkT; simp [hb,h13,Bool.and_assoc]⟩;rcases htell with ⟨q,_⟩ | q
   ·exact q
   ·rw [hb'] at q; exact absurd q.2.1 (by decide)
  ·obtain ⟨hb',⟨a1,_⟩,_⟩:=s3 q3;rcases htell with ⟨hc,q | q | q | q | q | q⟩ | q
   ·exact .inl ⟨hc,by rw [tkT_low q.2.1,tkT_low q.2.2]⟩
   ·exact .inl ⟨hc,by rw [tkT_low (t:=t) (by omega),tkT_not (by rw [q.2.2.2])]⟩
   ·exact .inl ⟨hc,by rw [tkT_low (t:=t) (by omega),tkT_not (by rw [q.2.2.2.1])]⟩
   ·exact .inl ⟨hc,by rw [tkT_low (t:=t) (by omega),tkT_not (by rw [q.2.2.2.1])]⟩
   ·refine .inl ⟨hc,?_⟩;unfold tkT;rw [a1,q.2.2.2.2,hb,hb'];have e1 : decide (9<=t.work.next) = true:=by simp; exact q.2.1
    have e2 : decide (9<=t3.work.next) = true:=by simp; omega
    rw [e1,e2]
   ·rw [hb'] at q; exact absurd q.1 (by decide)
   ·refine .inr ⟨q.1,tkT_low (by omega),?_⟩;unfold tkT;rw [a1,hb',q.2.2.2.2.1,q.2.2.2.2.2.1];have e2 : decide (9<=t3.work.next) = true:=by simp; omega
    rw [e2,decide_eq_true hk];simp only [Bool.true_and];exact decide_eq_decide.2 ⟨fun q=>q.symm,fun q=>q.symm⟩
 ·have hr : t.work.kind = 3\/t.work.kind = 4:=by have:=(h.th i t ht).kd hb; omega
  have hc:=(h.rdTo ht hb hr hts).1;refine ⟨fun q3=>⟨hc,tkT_idle (s2 q3),?_⟩,fun q3=>.inl ⟨hc,?_⟩⟩
  ·rw [tkT_kind hk]; simp [hk]
  ·obtain ⟨_,⟨a1,_⟩,_⟩:=s3 q3;rw [tkT_kind hk,tkT_kind (by rw [a1]; exact hk)]
end
end T
end
section
namespace T
def okT (R : Int->List (Int × Int)) (c : Int) (d : DeedV) : Prop:=(d.op.kind = 1\/d.op.kind = 2)/\1<=d.a.stamp/\d.a.stamp<=c/\shUpd (R (d.a.stamp - 1)) d.op.kind d.op.key = true/\R d.a.stamp = shNew (R (d.a.stamp - 1)) d.op.kind d.op.key d.op.value/\d.a = { shAns (R (d.a.stamp - 1)) d.op.kind d.op.key d.op.spans with stamp:=d.a.stamp }
def okN (R : Int->List (Int × Int)) (c : Int) (d : DeedV) : Prop:=0<=d.a.stamp/\d.a.stamp<=c/\shUpd (R d.a.stamp) d.op.kind d.op.key = false/\d.a.err = 0/\d.a = { shAns (R d.a.stamp) d.op.kind d.op.key d.op.spans with stamp:=d.a.stamp }
def okE (N E L puts takes : Int) (d : DeedV) : Prop:=d.a = { err:=d.a.err }/\((d.a.err = 7/\(d.op.kind = 1\/d.op.kind = 2)/\(N < 2 * puts\/E < 1 + 3 * puts + takes))\/(d.a.err = 8/\(d.op.kind = 1\/d.op.kind = 2)/\L < puts + takes)\/(d.a.err = 9/\d.op.kind = 4/\64 < d.op.spans.length * puts))
def FairD (R : Int->List (Int × Int)) (c N E L puts takes : Int) (d : DeedV) : Prop:=okT R c d\/okN R c d\/okE N E L puts takes d
section
variable {g : Gh} {R : Int->List (Int × Int)} {u : Int->Int × Int × Int} {P : PSt} {i : Nat} {t t' : PThread} {puts takes N E L f s c : Int} {ds : List DeedV} {o : OpV} {k : PWork} {d : DeedV}
theorem okT.took (h : okT R c d) : tookD d = true/\d.a.err = 0:=by
 obtain ⟨h1,_,_,h4,_,h6⟩:=h;have hd : shAns (R (d.a.stamp - 1)) d.op.kind d.op.key d.op.spans = { did:=true,value:=if d.op.kind = 2 then (shVal (R (d.a.stamp - 1)) d.op.key).1 else 0 }:=by
  unfold shAns;rw [if_neg (by omega),if_neg (by omega),h4,if_pos rfl]
 rw [hd] at h6;unfold tookD;rw [h6];simp [h1]
theorem okN.took (h : okN R c d) : tookD d = false:=by
 obtain ⟨_,_,h3,_,h5⟩:=h;unfold tookD;by_cases hk : d.op.kind = 1\/d.op.kind = 2
 ·have hd : shAns (R d.a.stamp) d.op.kind d.op.key d.op.spans = {}:=by
   unfold shAns;rw [if_neg (by omega),if_neg (by omega),h3]
   rfl
  rw [hd] at h5;rw [h5]; simp
 ·simp [hk]
theorem okE.err (h : okE N E L puts takes d) : d.a.err≠0/\d.a.stamp = 0:=by
 obtain ⟨h1,h2⟩:=h;refine ⟨by omega,by rw [h1]⟩
theorem FairD.le (h : FairD R c N E L puts takes d) (h0 : 0<=c) : d.a.stamp<=c:=by
 rcases h with h | h | h
 ·exact h.2.2.1
 ·exact h.2.1
 ·rw [h.err.2]; exact h0
theorem FairD.more (h : FairD R P.clock N E L puts takes d) : FairD (nextR R P t) (P.clock + 1) N E L puts takes d:=by
 have e : ∀ s,s<=P.clock->nextR R P t s = R s:=fun s hs=>by unfold nextR; rw [if_neg (by omega)]
 rcases h with h | h | h
 ·left;obtain ⟨h1,h2,h3,h4,h5,h6⟩:=h;refine ⟨h1,h2,by omega,?_,?_,?_⟩
  ·rw [e _ (by omega)]; exact h4
  ·rw [e _ (by omega),e _ (by omega)]; exact h5
  ·rw [e _ (by omega)]; exact h6
 ·right; left;obtain ⟨h1,h2,h3,h4,h5⟩:=h;refine ⟨h1,by omega,?_,h4,?_⟩
  ·rw [e _ (by omega)]; exact h3
  ·rw [e _ (by omega)]; exact h5
 ·exact .inr (.inr h)
theorem FairD.begun (h : FairD R c N E L puts takes d) {p q : Int} (hp : puts<=p) (hq : takes<=q) : FairD R c N E L p q d:=by
 rcases h with h | h | h
 ·exact .inl h
 ·exact .inr (.inl h)
 ·obtain ⟨h1,h2⟩:=h;refine .inr (.inr ⟨h1,?_⟩);rcases h2 with ⟨a,b,c⟩ | ⟨a,b,c⟩ | ⟨a,b,c⟩
  ·exact .inl ⟨a,b,by omega⟩
  ·exact .inr (.inl ⟨a,b,by omega⟩)
  ·refine .inr (.inr ⟨a,b,?_⟩)
   have:=Int.mul_le_mul_of_nonneg_left hp (show (0 : Int)<=d.op.spans.length by omega)
   omega
theorem shNew_val (R : List (Int × Int)) (kd ky v v' : Int) (h : kd = 1->v = v') : shNew R kd ky v = shNew R kd ky v':=by
 unfold shNew;split
 ·by_cases e : kd = 1
  ·rw [if_pos e,if_pos e,h e]
  ·rw [if_neg e,if_neg e]
 ·rfl
theorem end_fair (h : Inv g P) (hR : InvR g P) (hRt : ∀ T,0<=T->T<=P.clock->R T = Rt g T) (hS : Said R u P.clock t) (hw : WT ds N E L puts takes t.work o f) (hrs : ∀ s,1<=s->s<=P.clock->R s = shNew (R (s - 1)) (u s).1 (u s).2.1 (u s).2.2) (hn : Nums R P puts takes) (ht : P.ts[i]? = some t) (hb : t.busy = true) (h13 : t.work.next = 13) (av : Value) :
  FairD R P.clock N E L puts takes ⟨o,t.work.ans,av,f⟩/\(t.work.ans.err = 0->Tm ds t.work.ans.stamp f (tookD ⟨o,t.work.ans,av,f⟩)):=by
 obtain ⟨o1,o2,o3,o4⟩:=hw.op;have hkd:=(h.th i t ht).kd hb;by_cases hk : t.work.kind = 1\/t.work.kind = 2
 ·have hko : o.kind = 1\/o.kind = 2:=by rw [<- o1]; exact hk
  have hky:=o2 (by omega);have htk : tookD ⟨o,t.work.ans,av,f⟩ = t.work.ans.did:=by unfold tookD; simp only [hko,decide_true,Bool.true_and]
  refine ⟨?_,fun he=>by rw [htk]; exact hw.ut hk (by omega) he⟩;rcases hS.a12 hb hk (by omega) with q | q | q | q
  ·left;obtain ⟨q1,q2,q3,q4,q5⟩:=q;refine ⟨hko,q1,q2,?_,?_,?_⟩
   ·show shUpd (R (t.work.ans.stamp - 1)) o.kind o.key = true;rw [<- o1,<- hky]; exact q4
   ·show R t.work.ans.stamp = shNew (R (t.work.ans.stamp - 1)) o.kind o.key o.value;rw [hrs _ q1 q2,q3,<- o1,<- hky];exact shNew_val _ _ _ _ _ o3
   ·show t.work.ans = { shAns (R (t.work.ans.stamp - 1)) o.kind o.key o.spans with stamp:=t.work.ans.stamp };have : shAns (R (t.work.ans.stamp - 1)) o.kind o.key o.spans = { did:=true,value:=if t.work.kind = 2 then (shVal (R (t.work.ans.stamp - 1)) t.work.key).1 else 0 }:=by
     unfold shAns;rw [if_neg (by omega),if_neg (by omega),<- o1,<- hky,q4,if_pos rfl]
    rw [this];generalize t.work.ans.stamp = s at *;rw [q5]
  ·right; left;obtain ⟨q1,q2,q3,q4⟩:=q;refine ⟨q1,q2,?_,by show t.work.ans.err = 0; rw [q4],?_⟩
   ·show shUpd (R t.work.ans.stamp) o.kind o.key = false;rw [<- o1,<- hky]; exact q3
   ·show t.work.ans = { shAns (R t.work.ans.stamp) o.kind o.key o.spans with stamp:=t.work.ans.stamp };have : shAns (R t.work.ans.stamp) o.kind o.key o.spans = {}:=by
     unfold shAns;rw [if_neg (by omega),if_neg (by omega),<- o1,<- hky,q3]
     rfl
    rw [this];generalize t.work.ans.stamp = s at *;rw [q4]
  ·right; right;have e7:=hw.e7 hk (by omega) (by rw [q]);refine ⟨by show t.work.ans = { err:=t.work.ans.err }; rw [q],.inl ⟨by show t.work.ans.err = 7; rw [q],hko,e7⟩⟩
  ·right; right;have e8:=hw.e8 hk (by omega) (by rw [q]);refine ⟨by show t.work.ans = { err:=t.work.ans.err }; rw [q],.inr (.inl ⟨by show t.work.ans.err = 8; rw [q],hko,e8⟩)⟩
 ·have hr : t.work.kind = 3\/t.work.kind = 4:=by omega
  have hko : ¬ (o.kind = 1\/o.kind = 2):=by rw [<- o1]; exact hk
  have htk : tookD ⟨o,t.work.ans,av,f⟩ = false:=by unfold tookD; simp only [hko,decide_false,Bool.false_and]
  have han:=(hR i t ht).an hb hr h13;obtain ⟨r1,r2⟩:=hw.rt hr (by omega);have htm:=((h.th i t ht).tm hb (by omega)).1;rw [<- hRt _ r1 htm] at han;have hupd : shUpd (R t.work.time) o.kind o.key = false:=by
   unfold shUpd;simp only [not_or] at hko;simp [hko.1,hko.2]
  by_cases h3 : t.work.kind = 3
  ·unfold readAns at han;rw [if_pos h3] at han;have hst : t.work.ans.stamp = t.work.time:=by rw [han]
   refine ⟨.inr (.inl ⟨by show 0<=t.work.ans.stamp; omega,by show t.work.ans.stamp<=_; omega,by show shUpd (R t.work.ans.stamp) o.kind o.key = false; rw [hst]; exact hupd,by show t.work.ans.err = 0; rw [han],?_⟩),fun _=>by rw [htk,hst]; exact r2⟩;show t.work.ans = { shAns (R t.work.ans.stamp) o.kind o.key o.spans with stamp:=t.work.ans.stamp };rw [hst,han];unfold shAns;rw [if_neg (by omega),if_pos (by omega),<- o2 (by omega)]
  ·have h4 : t.work.kind = 4:=by omega
   unfold readAns at han;rw [if_neg h3] at han;unfold answerOf at han;by_cases hl : lensOf (spanLists t.work.spans (R t.work.time)) > 64
   ·rw [if_pos hl] at han;refine ⟨.inr (.inr ⟨by show t.work.ans = { err:=t.work.ans.err }; rw [han],.inr (.inr ⟨by show t.work.ans.err = 9; rw [han],by show o.kind = 4; omega,?_⟩)⟩),fun he=>by rw [han] at he; exact absurd he (by decide)⟩;show 64 < (o.spans.length : Int) * puts;have hle:=lens_le (R t.work.time) t.work.spans;have hln:=hn.ln t.work.time r1 htm;rw [<- o4 h4]
    have:=Int.mul_le_mul_of_nonneg_left (show ((R t.work.time).length : Int)<=puts by omega) (show (0 : Int)<=t.work.spans.length by omega)
    omega
   ·rw [if_neg hl] at han;have hst : t.work.ans.stamp = t.work.time:=by rw [han]
    refine ⟨.inr (.inl ⟨by show 0<=t.work.ans.stamp; omega,by show t.work.ans.stamp<=_; omega,by show shUpd (R t.work.ans.stamp) o.kind o.key = false; rw [hst]; exact hupd,by show t.work.ans.err = 0; rw [han],?_⟩),fun _=>by rw [htk,hst]; exact r2⟩;show t.work.ans = { shAns (R t.work.ans.stamp) o.kind o.key o.spans with stamp:=t.work.ans.stamp };rw [hst,han];unfold shAns answerOf;rw [if_pos (by omega),<- o4 h4,if_neg hl]
end
end T
end
section
namespace T
structure OrdC (R : Int->List (Int × Int)) (u : Int->Int × Int × Int) (N E L : Int) (D : PlD) : Prop where
 c0 : 0<=D.P.clock
 r0 : R 0 = []
 rs : ∀ s,1<=s->s<=D.P.clock->R s = shNew (R (s - 1)) (u s).1 (u s).2.1 (u s).2.2
 nm : Nums R D.P D.puts D.takes
 us : Used D.P D.puts D.takes
 sd : ∀ (j : Nat) w,D.P.ts[j]? = some w->Said R u D.P.clock w
 wt : ∀ (j : Nat) w o f,D.P.ts[j]? = some w->w.busy = true->D.ops[j]? = some o->D.frm[j]? = some f->WT D.deeds N E L D.puts D.takes w.work o f
 fd : ∀ (n : Nat) d,D.deeds[n]? = some d->FairD R D.P.clock N E L D.puts D.takes d
 td : ∀ (n : Nat) d,D.deeds[n]? = some d->0<=d.frm/\d.frm<=n/\(d.a.err = 0->Tm D.deeds d.a.stamp d.frm (tookD d))
 sc : ∀ s,(count (tkD s) D.deeds : Int) + count (tkT s) D.P.ts = if 1<=s/\s<=D.P.clock then 1 else 0
 sm : ∀ T,0<=T->T<=D.P.clock->(R T).length<=N.toNat + 2
 pd : ∀ (n : Nat) d,D.deeds[n]? = some d->properB d.op.kind d.op.key d.op.spans = true
structure OrdJ (T N E L : Int) (D : PlD) : Prop where
 ex : ∃ g R u,All g D.P/\(∀ T,0<=T->T<=D.P.clock->R T = Rt g T)/\OrdC R u N E L D
 len : D.P.mem.ns.length = N.toNat + 2
 eln : D.P.mem.es.length = E.toNat
 lim : D.P.limit = L
 pos : 0<=N/\0<=E
 ok : D.ok
 cfg : D.k = 1/\D.t = T/\D.n = N/\D.e = E/\D.l = L
section
variable {g : Gh} {R : Int->List (Int × Int)} {u : Int->Int × Int × Int} {P : PSt} {i : Nat} {t t' : PThread} {puts takes N E L T f s c : Int} {ds : List DeedV} {o : OpV} {k : PWork} {d : DeedV} {D D' : PlD}
theorem sweep_clk (P : PSt) : P.doSweep.1.clock = P.clock:=by
 unfold PSt.doSweep;simp only;split
 ·rfl
 ·split
  ·split <;> rfl
  ·split <;> rfl
theorem cnt_app {α : Type} (p : α->Bool) (l : List α) (x : α) : count p (l ++ [x]) = count p l + (if p x then 1 else 0):=by
 unfold count;rw [List.filter_append,List.length_append];cases h : p x <;> simp [h]
theorem get_app {l : List DeedV} {x : DeedV} {n : Nat} {d : DeedV} (h : (l ++ [x])[n]? = some d) : l[n]? = some d\/(n = l.length/\d = x):=by
 rcases Nat.lt_or_ge n l.length with q | q
 ·rw [List.getElem?_append_left q] at h; exact .inl h
 ·rw [List.getElem?_append_right q] at h;have hn : n - l.length < 1:=by have:=(List.getElem?_eq_some_iff.1 h).1; simpa using this
  have h0 : n - l.length = 0:=by omega
  rw [h0] at h;simp at h;exact .inr ⟨by omega,h.symm⟩
theorem OrdJ.step (h : OrdJ T N E L D) (ht : D.P.ts[i]? = some t) (hb : t.busy = true) (hs : Stepped D i t D') : OrdJ T N E L D':=by
 obtain ⟨g,R,u,hA,hRt,hO⟩:=h.ex;have hC:=hA.i;have hi:=(List.getElem?_eq_some_iff.1 ht).1;have hp:=h.pos;have hlen:=h.len;have heln:=h.eln;obtain ⟨t',s1,s2,s3⟩:=step_work ht hb;refine ⟨?_,by rw [hs.P,step_len]; exact h.len,by rw [hs.P,(hC.elen ht hb).1]; exact h.eln,by rw [hs.P,(hC.elen ht hb).2.1]; exact h.lim,hp,ok_step h.ok ht hb hs,cfg_trans hs.cfg h.cfg⟩;have old : ∀ (j : Nat) w,(D.P.step i t).1.ts[j]? = some w->(j = i/\w = t')\/(j≠i/\D.P.ts[j]? = some w):=by
  intro j w hw;rw [s1,List.getElem?_set] at hw;by_cases e : i = j
  ·subst e; simp [hi] at hw; exact .inl ⟨rfl,hw.symm⟩
  ·rw [if_neg e] at hw; exact .inr ⟨fun q=>e q.symm,hw⟩
 have hdc : ∀ e ∈ D.deeds,e.a.stamp<=D.P.clock:=by
  intro e he;obtain ⟨n,hn⟩:=List.mem_iff_getElem?.1 he;exact (hO.fd n e hn).le hO.c0
 have htk:=fun s=>hC.tkStep (s:=s) ht hb s1
 have hfl:=fun s=>count_flip (tkT s) t' ht
 have hAs:=hA.step ht hb;have hc:=hC.clockStep ht hb;by_cases hTk : ¬ Took D.P t
 ·rw [if_neg hTk] at hc;rw [nextG_no hTk] at hAs;refine ⟨g,R,u,by rw [hs.P]; exact hAs,by rw [hs.P,hc]; exact hRt,?_⟩;have nm:=(hO.nm.step hC ht hb hO.c0).1 hc;have us:=hO.us.step hC ht hb;have sd:=(Said.step hO.sd hC (hRt _ hO.c0 (Int.le_refl _)) hO.c0 ht hb).1 hc;by_cases e3 : (D.P.step i t).2 = 3
  ·obtain ⟨av,o,f,g1,g2,g3⟩:=hs.deeds.2 e3;have h13:=three_next e3;have hwt:=hO.wt i t o f ht hb g1 g2;obtain ⟨q1,q2⟩:=end_fair hC hA.r hRt (hO.sd i t ht) hwt hO.rs hO.nm ht hb h13 av;refine ⟨by rw [hs.P,hc]; exact hO.c0,hO.r0,by rw [hs.P,hc]; exact hO.rs,by rw [hs.P,hs.cnt.1,hs.cnt.2]; exact nm,by rw [hs.P,hs.cnt.1,hs.cnt.2]; exact us,by rw [hs.P,hc]; exact sd,?_,?_,?_,?_,by rw [hs.P,hc]; exact hO.sm,?_⟩
   ·intro j w oo ff hj hwb ho hf;rw [hs.P] at hj;rw [hs.ops] at ho;rw [hs.frm] at hf;rw [g3,hs.cnt.1,hs.cnt.2];rcases old j w hj with ⟨_,rfl⟩ | ⟨_,q⟩
    ·rw [s2 e3] at hwb; cases hwb
    ·exact (hO.wt j w oo ff q hwb ho hf).app _
   ·intro n d hd;rw [g3] at hd;rw [hs.P,hc,hs.cnt.1,hs.cnt.2];rcases get_app hd with q | ⟨_,rfl⟩
    ·exact hO.fd n d q
    ·exact q1
   ·intro n d hd;rw [g3] at hd ⊢;rcases get_app hd with q | ⟨rfl,rfl⟩
    ·obtain ⟨a,b,c⟩:=hO.td n d q;have hn:=(List.getElem?_eq_some_iff.1 q).1;exact ⟨a,b,fun z=>(c z).app (by omega) _⟩
    ·exact ⟨hwt.f0.1,hwt.f0.2,fun z=>(q2 z).app hwt.f0.2 _⟩
   ·intro s;obtain ⟨_,k2,k3⟩:=(htk s).1 e3;have hfl:=hfl s;rw [k2] at hfl;simp only [Bool.false_eq_true,if_false] at hfl;rw [hs.P,hc,g3,s1,cnt_app];have hkk : tkD s ⟨o,t.work.ans,av,f⟩ = tkT s t:=by
     rw [k3];unfold tkD tookD;rw [hwt.op.1]
    rw [hkk]
    have:=hO.sc s
    omega
   ·intro n d hd;rw [g3] at hd;rcases get_app hd with q | ⟨_,rfl⟩
    ·exact hO.pd n d q
    ·exact hwt.pr
  ·have g3:=hs.deeds.1 e3;refine ⟨by rw [hs.P,hc]; exact hO.c0,hO.r0,by rw [hs.P,hc]; exact hO.rs,by rw [hs.P,hs.cnt.1,hs.cnt.2]; exact nm,by rw [hs.P,hs.cnt.1,hs.cnt.2]; exact us,by rw [hs.P,hc]; exact sd,?_,by rw [g3,hs.P,hc,hs.cnt.1,hs.cnt.2]; exact hO.fd,by rw [g3]; exact hO.td,?_,by rw [hs.P,hc]; exact hO.sm,by rw [g3]; exact hO.pd⟩
   ·intro j w oo ff hj hwb ho hf;rw [hs.P] at hj;rw [hs.ops] at ho;rw [hs.frm] at hf;rw [g3,hs.cnt.1,hs.cnt.2];rcases old j w hj with ⟨rfl,rfl⟩ | ⟨_,q⟩
    ·exact (hO.wt j t oo ff ht hb ho hf).step hC hO.nm hO.us ht hb hO.c0 hdc (by omega) (by omega) h.lim s1 hwb
    ·exact hO.wt j w oo ff q hwb ho hf
   ·intro s;rw [hs.P,hc,g3,s1];have hfl:=hfl s;rcases (htk s).2 e3 with ⟨_,q⟩ | ⟨q,_⟩
    ·rw [q] at hfl
     have:=hO.sc s
     omega
    ·omega
 ·have hTk:=Classical.not_not.1 hTk;rw [if_pos hTk] at hc;have h8:=hTk.1;have e3 : (D.P.step i t).2≠3:=fun q=>by have:=three_next q; omega
  have g3:=hs.deeds.1 e3;have hold : ∀ T,T<=D.P.clock->nextR R D.P t T = R T/\True:=by
   intro T hT;unfold nextR;rw [if_neg (by omega)];exact ⟨rfl,trivial⟩
  have nm:=(hO.nm.step hC ht hb hO.c0).2 hc;have us:=hO.us.step hC ht hb;have sd:=(Said.step hO.sd hC (hRt _ hO.c0 (Int.le_refl _)) hO.c0 ht hb).2 hc;have c0:=hO.c0;have hlink : ∀ T,0<=T->T<=D.P.clock + 1->nextR R D.P t T = Rt (nextG g D.P i t) T:=by
   intro T h1 h2;by_cases e : T = D.P.clock + 1
   ·subst e;unfold nextR;rw [if_pos rfl,hRt _ c0 (Int.le_refl _)];exact (hC.tookRows ht hb hTk).1.symm
   ·rw [(hold T (by omega)).1,nextG_old g D.P i t (by omega)];exact hRt T h1 (by omega)
  refine ⟨nextG g D.P i t,nextR R D.P t,nextU u D.P t,by rw [hs.P]; exact hAs,by rw [hs.P,hc]; exact hlink,?_⟩;refine ⟨by rw [hs.P,hc]; omega,by rw [(hold 0 c0).1]; exact hO.r0,?_,by rw [hs.P,hs.cnt.1,hs.cnt.2]; exact nm,by rw [hs.P,hs.cnt.1,hs.cnt.2]; exact us,by rw [hs.P,hc]; exact sd,?_,?_,by rw [g3]; exact hO.td,?_,?_,by rw [g3]; exact hO.pd⟩
  ·rw [hs.P,hc];intro s h1 h2;by_cases e : s = D.P.clock + 1
   ·have e1 : nextR R D.P t (s - 1) = R D.P.clock:=by rw [(hold (s - 1) (by omega)).1]; congr 1; omega
    have e2 : nextU u D.P t s = (t.work.kind,t.work.key,t.work.value):=by unfold nextU; rw [if_pos e]
    rw [e1,e2];unfold nextR; rw [if_pos e]
   ·have e2 : nextU u D.P t s = u s:=by unfold nextU; rw [if_neg e]
    rw [(hold s (by omega)).1,(hold (s - 1) (by omega)).1,e2];exact hO.rs s h1 (by omega)
  ·intro j w oo ff hj hwb ho hf;rw [hs.P] at hj;rw [hs.ops] at ho;rw [hs.frm] at hf;rw [g3,hs.cnt.1,hs.cnt.2];rcases old j w hj with ⟨rfl,rfl⟩ | ⟨_,q⟩
   ·exact (hO.wt j t oo ff ht hb ho hf).step hC hO.nm hO.us ht hb hO.c0 hdc (by omega) (by omega) h.lim s1 hwb
   ·exact hO.wt j w oo ff q hwb ho hf
  ·intro n d hd;rw [g3] at hd;rw [hs.P,hc,hs.cnt.1,hs.cnt.2];exact (hO.fd n d hd).more
  ·intro s;rw [hs.P,hc,g3,s1];have hfl:=hfl s;have hsc:=hO.sc s;rcases (htk s).2 e3 with ⟨q,_⟩ | ⟨_,q1,q2⟩
   ·omega
   ·rw [q1,q2] at hfl;simp only [Bool.false_eq_true,if_false,decide_eq_true_eq] at hfl;by_cases e : s = D.P.clock + 1
    ·rw [if_pos e] at hfl;rw [if_neg (by omega)] at hsc;rw [if_pos (by omega)];omega
    ·rw [if_neg e] at hfl;by_cases e2 : 1<=s/\s<=D.P.clock
     ·rw [if_pos e2] at hsc;rw [if_pos (by omega)];omega
     ·rw [if_neg e2] at hsc;rw [if_neg (by omega)];omega
  ·rw [hs.P,hc];intro T h1 h2;by_cases e : T = D.P.clock + 1
   ·subst e;have hsz:=hAs.v.now.size hAs.i.n.gt.dj hAs.i.n.gt.z;have hln:=Rt_len hAs.i.n.gt;rw [Tr.size_is,step_len] at hsz;rw [hc] at hsz hln;rw [hlink _ h1 (Int.le_refl _)];omega
   ·rw [(hold T (by omega)).1]; exact hO.sm T h1 (by omega)
theorem OrdJ.begin (h : OrdJ T N E L D) (ht : D.P.ts[i]? = some t) (hB : Begun D i t o D') : OrdJ T N E L D':=by
 obtain ⟨g,R,u,hA,hRt,hO⟩:=h.ex;have hC:=hA.i;have hi:=(List.getElem?_eq_some_iff.1 ht).1;by_cases hh : t.busy = true\/properB o.kind o.key o.spans = false
 ·obtain ⟨q1,_,q3,q4,q5,q6⟩:=hB.no hh;refine ⟨⟨g,R,u,by rw [q1]; exact hA,by rw [q1]; exact hRt,?_⟩,by rw [q1]; exact h.len,by rw [q1]; exact h.eln,by rw [q1]; exact h.lim,h.pos,ok_begin h.ok hB,cfg_trans hB.cfg h.cfg⟩;exact ⟨by rw [q1]; exact hO.c0,hO.r0,by rw [q1]; exact hO.rs,by rw [q1,q5,q6]; exact hO.nm,by rw [q1,q5,q6]; exact hO.us,by rw [q1]; exact hO.sd,by rw [q1,q3,q4,q5,q6,hB.deeds]; exact hO.wt,by rw [q1,q5,q6,hB.deeds]; exact hO.fd,by rw [hB.deeds]; exact hO.td,by rw [q1,hB.deeds]; exact hO.sc,by rw [q1]; exact hO.sm,by rw [hB.deeds]; exact hO.pd⟩
 ·simp only [not_or,Bool.not_eq_true,Bool.not_eq_false] at hh;obtain ⟨q1,_,q3,q4,q5,q6⟩:=hB.yes hh.1 hh.2;obtain ⟨w1,w2,w3,_,_,w6,w7,_,w9⟩:=newWork_ok (va:=o.value) hh.2;have g2 : D'.P.mem = D.P.mem:=by rw [q1]; rfl
  have hp : D.puts<=D'.puts:=by rw [q5]; split <;> omega
  have hq : D.takes<=D'.takes:=by rw [q6]; split <;> omega
  have hck : D'.P.clock = D.P.clock:=by rw [q1]; rfl
  have hts : D'.P.ts = D.P.ts.set i { t with busy:=true,work:=newWork o.kind o.key o.value o.spans }:=by rw [q1]; rfl
  have old : ∀ (j : Nat) w,D'.P.ts[j]? = some w->(j = i/\w = { t with busy:=true,work:=newWork o.kind o.key o.value o.spans })\/(j≠i/\D.P.ts[j]? = some w):=by
   intro j w hw;rw [hts,List.getElem?_set] at hw;by_cases e : i = j
   ·subst e; simp [hi] at hw; exact .inl ⟨rfl,hw.symm⟩
   ·rw [if_neg e] at hw; exact .inr ⟨fun q=>e q.symm,hw⟩
  have idle : ∀ (p : PThread->Bool),p t = false->(p { t with busy:=true,work:=newWork o.kind o.key o.value o.spans } = true->count p D'.P.ts = count p D.P.ts + 1)/\(p { t with busy:=true,work:=newWork o.kind o.key o.value o.spans } = false->count p D'.P.ts = count p D.P.ts):=by
   intro p hp
   have:=count_flip p { t with busy:=true,work:=newWork o.kind o.key o.value o.spans } ht
   rw [hp] at this;rw [hts];refine ⟨fun q=>?_,fun q=>?_⟩
   ·rw [q] at this; simp only [Bool.false_eq_true,if_false,if_true] at this; omega
   ·rw [q] at this; simp only [Bool.false_eq_true,if_false,if_true] at this; omega
  have hnx : ∀ m : Nat,1<=m->(newWork o.kind o.key o.value o.spans).next<=m:=by intro m hm; omega
  have c8:=idle bu8 (by unfold bu8; rw [hh.1]; rfl);have ci:=idle bi8 (by unfold bi8; rw [hh.1]; rfl);have c7:=idle bi7 (by unfold bi7; rw [hh.1]; rfl);have cr:=idle br7 (by unfold br7; rw [hh.1]; rfl);have v8 : bu8 { t with busy:=true,work:=newWork o.kind o.key o.value o.spans } = decide (o.kind = 1\/o.kind = 2):=by unfold bu8; simp only [w1,w2]; simp
  have vi : bi8 { t with busy:=true,work:=newWork o.kind o.key o.value o.spans } = decide (o.kind = 1):=by unfold bi8; simp only [w1,w2]; simp
  have v7 : bi7 { t with busy:=true,work:=newWork o.kind o.key o.value o.spans } = decide (o.kind = 1):=by unfold bi7; simp only [w1,w2]; simp
  have vr : br7 { t with busy:=true,work:=newWork o.kind o.key o.value o.spans } = decide (o.kind = 2):=by unfold br7; simp only [w1,w2]; simp
  rw [v8] at c8;rw [vi] at ci;rw [v7] at c7;rw [vr] at cr;simp only [decide_eq_true_eq,decide_eq_false_iff_not] at c8 ci c7 cr;refine ⟨⟨g,R,u,by rw [q1]; exact hA.begin ht hh.1 hh.2,by rw [hck]; exact hRt,?_⟩,by rw [g2]; exact h.len,by rw [g2]; exact h.eln,by rw [q1]; exact h.lim,h.pos,ok_begin h.ok hB,cfg_trans hB.cfg h.cfg⟩;have hnm:=hO.nm.ck;have hus:=hO.us;refine ⟨by rw [hck]; exact hO.c0,hO.r0,by rw [hck]; exact hO.rs,⟨?_,?_⟩,⟨?_,?_⟩,?_,?_,?_,by rw [hB.deeds]; exact hO.td,?_,by rw [hck]; exact hO.sm,by rw [hB.deeds]; exact hO.pd⟩
  ·rw [hck,q5,q6];by_cases e1 : o.kind = 1
   ·have:=c8.1 (.inl e1); rw [if_pos e1,if_neg (by omega)]; omega
   ·by_cases e2 : o.kind = 2
    ·have:=c8.1 (.inr e2); rw [if_neg e1,if_pos e2]; omega
    ·have:=c8.2 (by omega); rw [if_neg e1,if_neg e2]; omega
  ·intro T h1 h2;rw [hck] at h2
   have:=hO.nm.ln T h1 h2
   rw [q5];by_cases e1 : o.kind = 1
   ·have:=ci.1 e1; rw [if_pos e1]; omega
   ·have:=ci.2 e1; rw [if_neg e1]; omega
  ·have:=hus.n
   rw [g2,q5];by_cases e1 : o.kind = 1
   ·have:=c7.1 e1; rw [if_pos e1]; omega
   ·have:=c7.2 e1; rw [if_neg e1]; omega
  ·have:=hus.e
   rw [g2,q5,q6];by_cases e1 : o.kind = 1
   ·have:=c7.1 e1; have:=cr.2 (by omega); rw [if_pos e1,if_neg (by omega)]; omega
   ·have:=c7.2 e1
    by_cases e2 : o.kind = 2
    ·have:=cr.1 e2; rw [if_neg e1,if_pos e2]; omega
    ·have:=cr.2 e2; rw [if_neg e1,if_neg e2]; omega
  ·rw [hck];intro j w hw;rcases old j w hw with ⟨_,rfl⟩ | ⟨_,q⟩
   ·refine ⟨fun _ _ q=>?_,fun _ _ q=>?_⟩
    ·have : 9<=(newWork o.kind o.key o.value o.spans).next:=q; omega
    ·have : 12<=(newWork o.kind o.key o.value o.spans).next:=q; omega
   ·exact hO.sd j w q
  ·intro j w oo ff hj hwb ho hf;rw [hB.deeds];rw [q3] at ho;rw [q4] at hf;rcases old j w hj with ⟨rfl,rfl⟩ | ⟨hne,q⟩
   ·rw [List.getElem?_set] at ho hf;rw [if_pos rfl] at ho hf;split at ho
    ·split at hf
     ·injection ho with ho; injection hf with hf
      subst ho; subst hf;refine ⟨⟨w2,fun e=>?_,fun e=>w9 (w2.symm.trans e),fun e=>(w7 (w2.symm.trans e)).2.2⟩,hh.2,⟨by omega,Int.le_refl _⟩,fun _ q=>?_,fun _ q=>?_,fun _ q=>?_,fun _ q=>?_⟩
      ·exact (w6 (fun q=>e (w2.trans q))).2.2
      ·have : 3<=(newWork o.kind o.key o.value o.spans).next:=q; omega
      ·have : 9<=(newWork o.kind o.key o.value o.spans).next:=q; omega
      ·have : 9<=(newWork o.kind o.key o.value o.spans).next:=q; omega
      ·have : 9<=(newWork o.kind o.key o.value o.spans).next:=q; omega
     ·cases hf
    ·cases ho
   ·rw [List.getElem?_set_ne (fun q=>hne q.symm)] at ho hf;exact (hO.wt j w oo ff q hwb ho hf).begun hp hq
  ·intro n d hd;rw [hB.deeds] at hd;rw [hck];exact (hO.fd n d hd).begun hp hq
  ·intro s;rw [hB.deeds,hck,((idle (tkT s) (tkT_idle hh.1)).2 (tkT_low (hnx 8 (by omega))))];exact hO.sc s
theorem OrdJ.sweep (h : OrdJ T N E L D) (L' : ZLay) : OrdJ T N E L { D with L:=L',P:=D.P.doSweep.1 }:=by
 obtain ⟨g,R,u,hA,hRt,hO⟩:=h.ex;have hC:=hA.i;refine ⟨⟨sweepG g D.P,R,u,hA.sweep,fun T h1 h2=>by
  have h2 : T<=D.P.doSweep.1.clock:=h2;rw [sweep_clk] at h2;rw [hRt T h1 h2];unfold Rt;rw [sweepG_V],?_⟩,by show D.P.doSweep.1.mem.ns.length = _; rw [sweep_len]; exact h.len,by show D.P.doSweep.1.mem.es.length = _; rw [(sweep_eln D.P).1]; exact h.eln,by show D.P.doSweep.1.limit = _; rw [(sweep_eln D.P).2.1]; exact h.lim,h.pos,?_,h.cfg⟩
 ·refine ⟨by show 0<=D.P.doSweep.1.clock; rw [sweep_clk]; exact hO.c0,hO.r0,by show ∀ s,1<=s->s<=D.P.doSweep.1.clock->_; rw [sweep_clk]; exact hO.rs,⟨?_,?_⟩,hO.us.sweep,?_,?_,?_,hO.td,?_,?_,hO.pd⟩
  ·show D.P.doSweep.1.clock + (count bu8 D.P.doSweep.1.ts : Nat)<=_;rw [sweep_clk,sweep_ts]; exact hO.nm.ck
  ·show ∀ T,0<=T->T<=D.P.doSweep.1.clock->((R T).length : Int) + (count bi8 D.P.doSweep.1.ts : Nat)<=_;rw [sweep_clk,sweep_ts]; exact hO.nm.ln
  ·show ∀ (j : Nat) w,D.P.doSweep.1.ts[j]? = some w->Said R u D.P.doSweep.1.clock w;rw [sweep_clk,sweep_ts]; exact hO.sd
  ·show ∀ (j : Nat) w o f,D.P.doSweep.1.ts[j]? = some w->_;rw [sweep_ts]; exact hO.wt
  ·show ∀ (n : Nat) d,D.deeds[n]? = some d->FairD R D.P.doSweep.1.clock N E L D.puts D.takes d;rw [sweep_clk]; exact hO.fd
  ·show ∀ s,(count (tkD s) D.deeds : Int) + (count (tkT s) D.P.doSweep.1.ts : Nat) = if 1<=s/\s<=D.P.doSweep.1.clock then 1 else 0
   rw [sweep_clk,sweep_ts]; exact hO.sc
  ·show ∀ T,0<=T->T<=D.P.doSweep.1.clock->(R T).length<=N.toNat + 2;rw [sweep_clk]; exact hO.sm
 ·show D.bs = D.P.doSweep.1.ts.map (·.busy);rw [sweep_ts]; exact h.ok
theorem OrdJ.fresh (hN : 0<=N) (hE : 1<=E) (hL : 0<=L) (h : FreshPl 1 T N E L D) : OrdJ T N E L D:=by
 have hq:=QT.fresh (T:=T) hN hE hL;obtain ⟨g,hA,hr⟩:=hq.ex;have hts : ∀ t ∈ (freshP 1 T N E L).ts,t = PThread.zero:=fun t ht=>(List.mem_replicate.1 ht).2
 have hid : ∀ t ∈ (freshP 1 T N E L).ts,t.busy = false:=fun t ht=>by rw [hts t ht]; rfl
 have cz : ∀ (p : PThread->Bool),p PThread.zero = false->count p (freshP 1 T N E L).ts = 0:=by
  intro p hp;unfold count;rw [List.filter_eq_nil_iff.2]
  ·rfl
  ·intro t ht; rw [hts t ht,hp]; decide
 obtain ⟨r1,r2⟩:=un_room (freshP 1 T N E L).mem;obtain ⟨r3,r4⟩:=hq.rm;obtain ⟨r5,r6⟩:=hq.len;have hun : un (freshP 1 T N E L).mem<=2:=by omega
 have hue : ue (freshP 1 T N E L).mem<=1:=by omega
 have hc : D.P.clock = 0:=by rw [h.P]; rfl
 refine ⟨⟨g,fun _=>[],fun _=>(0,0,0),by rw [h.P]; exact hA,fun T h1 h2=>?_,?_⟩,by rw [h.P]; exact r5,by rw [h.P]; exact r6,by rw [h.P]; rfl,⟨hN,by omega⟩,h.ok,h.cfg⟩
 ·rw [show T = 0 by omega]; exact hr.symm
 ·refine ⟨by omega,rfl,fun s q1 q2=>by omega,⟨?_,?_⟩,⟨?_,?_⟩,?_,?_,?_,?_,?_,fun _ _ _=>Nat.zero_le _,by rw [h.deeds]; intro n d hd; simp at hd⟩
  ·rw [hc,h.P,cz bu8 rfl,h.cnt.1,h.cnt.2]; decide
  ·intro _ _ _;rw [h.P,cz bi8 rfl,h.cnt.1]; decide
  ·rw [h.P,cz bi7 rfl,h.cnt.1]; omega
  ·rw [h.P,cz bi7 rfl,cz br7 rfl,h.cnt.1,h.cnt.2]; omega
  ·rw [h.P];intro j w hw
   have:=hid w (List.mem_of_getElem? hw)
   exact ⟨(fun b=>by rw [this] at b; exact nomatch b),(fun b=>by rw [this] at b; exact nomatch b)⟩
  ·rw [h.P];intro j w _ _ hw b;rw [hid w (List.mem_of_getElem? hw)] at b; cases b
  ·rw [h.deeds]; intro n d hd; simp at hd
  ·rw [h.deeds]; intro n d hd; simp at hd
  ·intro s;rw [h.deeds,h.P,cz (tkT s) rfl,if_neg (by rw [<- h.P,hc]; omega)]
   rfl
theorem ord_plays : Plays treeKin 0 T N E L (OrdJ T N E L):=by
 refine ⟨fun h=>by obtain ⟨g,_,_,hA,_⟩:=h.ex; exact ⟨_,g,hA,h.len,Nat.le_refl _⟩,fun h=>h.ok,fun h=>h.cfg,fun h _ ht hb _ hs=>h.step ht hb hs,fun h ht _ hB=>h.begin ht hB,fun L' h=>h.sweep L',fun _ h=>by omega⟩
end
end T
end
end Go.Proofs.YtfccelbmacjifabGreat
