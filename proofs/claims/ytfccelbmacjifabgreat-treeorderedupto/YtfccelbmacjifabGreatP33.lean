import Derived.Test.YtfccelbmacjifabGreatP0
import Derived.Test.YtfccelbmacjifabGreatP32
import Derived.Test.YtfccelbmacjifabGreatP26
import Derived.Test.YtfccelbmacjifabGreatP30
import Derived.Test.YtfccelbmacjifabGreatP31
set_option linter.unusedSimpArgs false
set_option maxRecDepth 100000
set_option maxHeartbeats 4000000
namespace Go.Proofs.YtfccelbmacjifabGreat
section
namespace T
structure OrdC (R : Int->List (Int × Int)) (u : Int->Int × Int × Int) (N E L : Int) (D : PlD) : Prop where
 c0 : 0<=D.P.clock
 r0 : R 0 = []
 rs : ∀ s,1<=s->s<=D.P.clock->R s = shNew (R (s - 1)) (u s).1 (u s).2.1 (u s).2.2
 nm : Nums R D.P D.puts D.takes
 us : Used D.P D.puts D.takes
 sd : ∀ (j : Nat) w,D.P.ts[j]? = some w->Said R u D.P.clock w
 wt : ∀ (j : Nat) w o f,D.P.ts[j]? = some w->w.busy = true->D.ops[j]? = some o->D.frm[j]? = some f->WT D.deeds N E L D.puts D.takes w.work o f
 fd : ∀ (n : Nat) d,D.deeds[n]? = some d->FairD R D.P.clock N E L D.puts D.takes d
 td : ∀ (n : Nat) d,D.deeds[n]? = some d->0<=d.frm/\d.frm<=n/\(d.a.err = 0->Tm D.deeds d.a.stamp d.frm (tookD d))
 sc : ∀ s,(count (tkD s) D.deeds : Int) + count (tkT s) D.P.ts = if 1<=s/\s<=D.P.clock then 1 else 0
 sm : ∀ T,0<=T->T<=D.P.clock->(R T).length<=N.toNat + 2
 pd : ∀ (n : Nat) d,D.deeds[n]? = some d->properB d.op.kind d.op.key d.op.spans = true
structure OrdJ (T N E L : Int) (D : PlD) : Prop where
 ex : ∃ g R u,All g D.P/\(∀ T,0<=T->T<=D.P.clock->R T = Rt g T)/\OrdC R u N E L D
 len : D.P.mem.ns.length = N.toNat + 2
 eln : D.P.mem.es.length = E.toNat
 lim : D.P.limit = L
 pos : 0<=N/\0<=E
 ok : D.ok
 cfg : D.k = 1/\D.t = T/\D.n = N/\D.e = E/\D.l = L
section
variable {g : Gh} {R : Int->List (Int × Int)} {u : Int->Int × Int × Int} {P : PSt} {i : Nat} {t t' : PThread} {puts takes N E L T f s c : Int} {ds : List DeedV} {o : OpV} {k : PWork} {d : DeedV} {D D' : PlD}
theorem sweep_clk (P : PSt) : P.doSweep.1.clock = P.clock:=by
 unfold PSt.doSweep;simp only;split
 ·rfl
 ·split
  ·split <;> rfl
  ·split <;> rfl
theorem cnt_app {α : Type} (p : α->Bool) (l : List α) (x : α) : count p (l ++ [x]) = count p l + (if p x then 1 else 0):=by
 unfold count;rw [List.filter_append,List.length_append];cases h : p x <;> simp [h]
theorem get_app {l : List DeedV} {x : DeedV} {n : Nat} {d : DeedV} (h : (l ++ [x])[n]? = some d) : l[n]? = some d\/(n = l.length/\d = x):=by
 rcases Nat.lt_or_ge n l.length with q | q
 ·rw [List.getElem?_append_left q] at h; exact .inl h
 ·rw [List.getElem?_append_right q] at h;have hn : n - l.length < 1:=by have:=(List.getElem?_eq_some_iff.1 h).1; simpa using this
  have h0 : n - l.length = 0:=by omega
  rw [h0] at h;simp at h;exact .inr ⟨by omega,h.symm⟩
theorem OrdJ.step (h : OrdJ T N E L D) (ht : D.P.ts[i]? = some t) (hb : t.busy = true) (hs : Stepped D i t D') : OrdJ T N E L D':=by
 obtain ⟨g,R,u,hA,hRt,hO⟩:=h.ex;have hC:=hA.i;have hi:=(List.getElem?_eq_some_iff.1 ht).1;have hp:=h.pos;have hlen:=h.len;have heln:=h.eln;obtain ⟨t',s1,s2,s3⟩:=step_work ht hb;refine ⟨?_,by rw [hs.P,step_len]; exact h.len,by rw [hs.P,(hC.elen ht hb).1]; exact h.eln,by rw [hs.P,(hC.elen ht hb).2.1]; exact h.lim,hp,ok_step h.ok ht hb hs,cfg_trans hs.cfg h.cfg⟩;have old : ∀ (j : Nat) w,(D.P.step i t).1.ts[j]? = some w->(j = i/\w = t')\/(j≠i/\D.P.ts[j]? = some w):=by
  intro j w hw;rw [s1,List.getElem?_set] at hw;by_cases e : i = j
  ·subst e; simp [hi] at hw; exact .inl ⟨rfl,hw.symm⟩
  ·rw [if_neg e] at hw; exact .inr ⟨fun q=>e q.symm,hw⟩
 have hdc : ∀ e ∈ D.deeds,e.a.stamp<=D.P.clock:=by
  intro e he;obtain ⟨n,hn⟩:=List.mem_iff_getElem?.1 he;exact (hO.fd n e hn).le hO.c0
 have htk:=fun s=>hC.tkStep (s:=s) ht hb s1
 have hfl:=fun s=>count_flip (tkT s) t' ht
 have hAs:=hA.step ht hb;have hc:=hC.clockStep ht hb;by_cases hTk : ¬ Took D.P t
 ·rw [if_neg hTk] at hc;rw [nextG_no hTk] at hAs;refine ⟨g,R,u,by rw [hs.P]; exact hAs,by rw [hs.P,hc]; exact hRt,?_⟩;have nm:=(hO.nm.step hC ht hb hO.c0).1 hc;have us:=hO.us.step hC ht hb;have sd:=(Said.step hO.sd hC (hRt _ hO.c0 (Int.le_refl _)) hO.c0 ht hb).1 hc;by_cases e3 : (D.P.step i t).2 = 3
  ·obtain ⟨av,o,f,g1,g2,g3⟩:=hs.deeds.2 e3;have h13:=three_next e3;have hwt:=hO.wt i t o f ht hb g1 g2;obtain ⟨q1,q2⟩:=end_fair hC hA.r hRt (hO.sd i t ht) hwt hO.rs hO.nm ht hb h13 av;refine ⟨by rw [hs.P,hc]; exact hO.c0,hO.r0,by rw [hs.P,hc]; exact hO.rs,by rw [hs.P,hs.cnt.1,hs.cnt.2]; exact nm,by rw [hs.P,hs.cnt.1,hs.cnt.2]; exact us,by rw [hs.P,hc]; exact sd,?_,?_,?_,?_,by rw [hs.P,hc]; exact hO.sm,?_⟩
   ·intro j w oo ff hj hwb ho hf;rw [hs.P] at hj;rw [hs.ops] at ho;rw [hs.frm] at hf;rw [g3,hs.cnt.1,hs.cnt.2];rcases old j w hj with ⟨_,rfl⟩ | ⟨_,q⟩
    ·rw [s2 e3] at hwb; cases hwb
    ·exact (hO.wt j w oo ff q hwb ho hf).app _
   ·intro n d hd;rw [g3] at hd;rw [hs.P,hc,hs.cnt.1,hs.cnt.2];rcases get_app hd with q | ⟨_,rfl⟩
    ·exact hO.fd n d q
    ·exact q1
   ·intro n d hd;rw [g3] at hd ⊢;rcases get_app hd with q | ⟨rfl,rfl⟩
    ·obtain ⟨a,b,c⟩:=hO.td n d q;have hn:=(List.getElem?_eq_some_iff.1 q).1;exact ⟨a,b,fun z=>(c z).app (by omega) _⟩
    ·exact ⟨hwt.f0.1,hwt.f0.2,fun z=>(q2 z).app hwt.f0.2 _⟩
   ·intro s;obtain ⟨_,k2,k3⟩:=(htk s).1 e3;have hfl:=hfl s;rw [k2] at hfl;simp only [Bool.false_eq_true,if_false] at hfl;rw [hs.P,hc,g3,s1,cnt_app];have hkk : tkD s ⟨o,t.work.ans,av,f⟩ = tkT s t:=by
     rw [k3];unfold tkD tookD;rw [hwt.op.1]
    rw [hkk]
    have:=hO.sc s
    omega
   ·intro n d hd;rw [g3] at hd;rcases get_app hd with q | ⟨_,rfl⟩
    ·exact hO.pd n d q
    ·exact hwt.pr
  ·have g3:=hs.deeds.1 e3;refine ⟨by rw [hs.P,hc]; exact hO.c0,hO.r0,by rw [hs.P,hc]; exact hO.rs,by rw [hs.P,hs.cnt.1,hs.cnt.2]; exact nm,by rw [hs.P,hs.cnt.1,hs.cnt.2]; exact us,by rw [hs.P,hc]; exact sd,?_,by rw [g3,hs.P,hc,hs.cnt.1,hs.cnt.2]; exact hO.fd,by rw [g3]; exact hO.td,?_,by rw [hs.P,hc]; exact hO.sm,by rw [g3]; exact hO.pd⟩
   ·intro j w oo ff hj hwb ho hf;rw [hs.P] at hj;rw [hs.ops] at ho;rw [hs.frm] at hf;rw [g3,hs.cnt.1,hs.cnt.2];rcases old j w hj with ⟨rfl,rfl⟩ | ⟨_,q⟩
    ·exact (hO.wt j t oo ff ht hb ho hf).step hC hO.nm hO.us ht hb hO.c0 hdc (by omega) (by omega) h.lim s1 hwb
    ·exact hO.wt j w oo ff q hwb ho hf
   ·intro s;rw [hs.P,hc,g3,s1];have hfl:=hfl s;rcases (htk s).2 e3 with ⟨_,q⟩ | ⟨q,_⟩
    ·rw [q] at hfl
     have:=hO.sc s
     omega
    ·omega
 ·have hTk:=Classical.not_not.1 hTk;rw [if_pos hTk] at hc;have h8:=hTk.1;have e3 : (D.P.step i t).2≠3:=fun q=>by have:=three_next q; omega
  have g3:=hs.deeds.1 e3;have hold : ∀ T,T<=D.P.clock->nextR R D.P t T = R T/\True:=by
   intro T hT;unfold nextR;rw [if_neg (by omega)];exact ⟨rfl,trivial⟩
  have nm:=(hO.nm.step hC ht hb hO.c0).2 hc;have us:=hO.us.step hC ht hb;have sd:=(Said.step hO.sd hC (hRt _ hO.c0 (Int.le_refl _)) hO.c0 ht hb).2 hc;have c0:=hO.c0;have hlink : ∀ T,0<=T->T<=D.P.clock + 1->nextR R D.P t T = Rt (nextG g D.P i t) T:=by
   intro T h1 h2;by_cases e : T = D.P.clock + 1
   ·subst e;unfold nextR;rw [if_pos rfl,hRt _ c0 (Int.le_refl _)];exact (hC.tookRows ht hb hTk).1.symm
   ·rw [(hold T (by omega)).1,nextG_old g D.P i t (by omega)];exact hRt T h1 (by omega)
  refine ⟨nextG g D.P i t,nextR R D.P t,nextU u D.P t,by rw [hs.P]; exact hAs,by rw [hs.P,hc]; exact hlink,?_⟩;refine ⟨by rw [hs.P,hc]; omega,by rw [(hold 0 c0).1]; exact hO.r0,?_,by rw [hs.P,hs.cnt.1,hs.cnt.2]; exact nm,by rw [hs.P,hs.cnt.1,hs.cnt.2]; exact us,by rw [hs.P,hc]; exact sd,?_,?_,by rw [g3]; exact hO.td,?_,?_,by rw [g3]; exact hO.pd⟩
  ·rw [hs.P,hc];intro s h1 h2;by_cases e : s = D.P.clock + 1
   ·have e1 : nextR R D.P t (s - 1) = R D.P.clock:=by rw [(hold (s - 1) (by omega)).1]; congr 1; omega
    have e2 : nextU u D.P t s = (t.work.kind,t.work.key,t.work.value):=by unfold nextU; rw [if_pos e]
    rw [e1,e2];unfold nextR; rw [if_pos e]
   ·have e2 : nextU u D.P t s = u s:=by unfold nextU; rw [if_neg e]
    rw [(hold s (by omega)).1,(hold (s - 1) (by omega)).1,e2];exact hO.rs s h1 (by omega)
  ·intro j w oo ff hj hwb ho hf;rw [hs.P] at hj;rw [hs.ops] at ho;rw [hs.frm] at hf;rw [g3,hs.cnt.1,hs.cnt.2];rcases old j w hj with ⟨rfl,rfl⟩ | ⟨_,q⟩
   ·exact (hO.wt j t oo ff ht hb ho hf).step hC hO.nm hO.us ht hb hO.c0 hdc (by omega) (by omega) h.lim s1 hwb
   ·exact hO.wt j w oo ff q hwb ho hf
  ·intro n d hd;rw [g3] at hd;rw [hs.P,hc,hs.cnt.1,hs.cnt.2];exact (hO.fd n d hd).more
  ·intro s;rw [hs.P,hc,g3,s1];have hfl:=hfl s;have hsc:=hO.sc s;rcases (htk s).2 e3 with ⟨q,_⟩ | ⟨_,q1,q2⟩
   ·omega
   ·rw [q1,q2] at hfl;simp only [Bool.false_eq_true,if_false,decide_eq_true_eq] at hfl;by_cases e : s = D.P.clock + 1
    ·rw [if_pos e] at hfl;rw [if_neg (by omega)] at hsc;rw [if_pos (by omega)];omega
    ·rw [if_neg e] at hfl;by_cases e2 : 1<=s/\s<=D.P.clock
     ·rw [if_pos e2] at hsc;rw [if_pos (by omega)];omega
     ·rw [if_neg e2] at hsc;rw [if_neg (by omega)];omega
  ·rw [hs.P,hc];intro T h1 h2;by_cases e : T = D.P.clock + 1
   ·subst e;have hsz:=hAs.v.now.size hAs.i.n.gt.dj hAs.i.n.gt.z;have hln:=Rt_len hAs.i.n.gt;rw [Tr.size_is,step_len] at hsz;rw [hc] at hsz hln;rw [hlink _ h1 (Int.le_refl _)];omega
   ·rw [(hold T (by omega)).1]; exact hO.sm T h1 (by omega)
theorem OrdJ.begin (h : OrdJ T N E L D) (ht : D.P.ts[i]? = some t) (hB : Begun D i t o D') : OrdJ T N E L D':=by
 obtain ⟨g,R,u,hA,hRt,hO⟩:=h.ex;have hC:=hA.i;have hi:=(List.getElem?_eq_some_iff.1 ht).1;by_cases hh : t.busy = true\/properB o.kind o.key o.spans = false
 ·obtain ⟨q1,_,q3,q4,q5,q6⟩:=hB.no hh;refine ⟨⟨g,R,u,by rw [q1]; exact hA,by rw [q1]; exact hRt,?_⟩,by rw [q1]; exact h.len,by rw [q1]; exact h.eln,by rw [q1]; exact h.lim,h.pos,ok_begin h.ok hB,cfg_trans hB.cfg h.cfg⟩;exact ⟨by rw [q1]; exact hO.c0,hO.r0,by rw [q1]; exact hO.rs,by rw [q1,q5,q6]; exact hO.nm,by rw [q1,q5,q6]; exact hO.us,by rw [q1]; exact hO.sd,by rw [q1,q3,q4,q5,q6,hB.deeds]; exact hO.wt,by rw [q1,q5,q6,hB.deeds]; exact hO.fd,by rw [hB.deeds]; exact hO.td,by rw [q1,hB.deeds]; exact hO.sc,by rw [q1]; exact hO.sm,by rw [hB.deeds]; exact hO.pd⟩
 ·simp only [not_or,Bool.not_eq_true,Bool.not_eq_false] at hh;obtain ⟨q1,_,q3,q4,q5,q6⟩:=hB.yes hh.1 hh.2;obtain ⟨w1,w2,w3,_,_,w6,w7,_,w9⟩:=newWork_ok (va:=o.value) hh.2;have g2 : D'.P.mem = D.P.mem:=by rw [q1]; rfl
  have hp : D.puts<=D'.puts:=by rw [q5]; split <;> omega
  have hq : D.takes<=D'.takes:=by rw [q6]; split <;> omega
  have hck : D'.P.clock = D.P.clock:=by rw [q1]; rfl
  have hts : D'.P.ts = D.P.ts.set i { t with busy:=true,work:=newWork o.kind o.key o.value o.spans }:=by rw [q1]; rfl
  have old : ∀ (j : Nat) w,D'.P.ts[j]? = some w->(j = i/\w = { t with busy:=true,work:=newWork o.kind o.key o.value o.spans })\/(j≠i/\D.P.ts[j]? = some w):=by
   intro j w hw;rw [hts,List.getElem?_set] at hw;by_cases e : i = j
   ·subst e; simp [hi] at hw; exact .inl ⟨rfl,hw.symm⟩
   ·rw [if_neg e] at hw; exact .inr ⟨fun q=>e q.symm,hw⟩
  have idle : ∀ (p : PThread->Bool),p t = false->(p { t with busy:=true,work:=newWork o.kind o.key o.value o.spans } = true->count p D'.P.ts = count p D.P.ts + 1)/\(p { t with busy:=true,work:=newWork o.kind o.key o.value o.spans } = false->count p D'.P.ts = count p D.P.ts):=by
   intro p hp
   have:=count_flip p { t with busy:=true,work:=newWork o.kind o.key o.value o.spans } ht
   rw [hp] at this;rw [hts];refine ⟨fun q=>?_,fun q=>?_⟩
   ·rw [q] at this; simp only [Bool.false_eq_true,if_false,if_true] at this; omega
   ·rw [q] at this; simp only [Bool.false_eq_true,if_false,if_true] at this; omega
  have hnx : ∀ m : Nat,1<=m->(newWork o.kind o.key o.value o.spans).next<=m:=by intro m hm; omega
  have c8:=idle bu8 (by unfold bu8; rw [hh.1]; rfl);have ci:=idle bi8 (by unfold bi8; rw [hh.1]; rfl);have c7:=idle bi7 (by unfold bi7; rw [hh.1]; rfl);have cr:=idle br7 (by unfold br7; rw [hh.1]; rfl);have v8 : bu8 { t with busy:=true,work:=newWork o.kind o.key o.value o.spans } = decide (o.kind = 1\/o.kind = 2):=by unfold bu8; simp only [w1,w2]; simp
  have vi : bi8 { t with busy:=true,work:=newWork o.kind o.key o.value o.spans } = decide (o.kind = 1):=by unfold bi8; simp only [w1,w2]; simp
  have v7 : bi7 { t with busy:=true,work:=newWork o.kind o.key o.value o.spans } = decide (o.kind = 1):=by unfold bi7; simp only [w1,w2]; simp
  have vr : br7 { t with busy:=true,work:=newWork o.kind o.key o.value o.spans } = decide (o.kind = 2):=by unfold br7; simp only [w1,w2]; simp
  rw [v8] at c8;rw [vi] at ci;rw [v7] at c7;rw [vr] at cr;simp only [decide_eq_true_eq,decide_eq_false_iff_not] at c8 ci c7 cr;refine ⟨⟨g,R,u,by rw [q1]; exact hA.begin ht hh.1 hh.2,by rw [hck]; exact hRt,?_⟩,by rw [g2]; exact h.len,by rw [g2]; exact h.eln,by rw [q1]; exact h.lim,h.pos,ok_begin h.ok hB,cfg_trans hB.cfg h.cfg⟩;have hnm:=hO.nm.ck;have hus:=hO.us;refine ⟨by rw [hck]; exact hO.c0,hO.r0,by rw [hck]; exact hO.rs,⟨?_,?_⟩,⟨?_,?_⟩,?_,?_,?_,by rw [hB.deeds]; exact hO.td,?_,by rw [hck]; exact hO.sm,by rw [hB.deeds]; exact hO.pd⟩
  ·rw [hck,q5,q6];by_cases e1 : o.kind = 1
   ·have:=c8.1 (.inl e1); rw [if_pos e1,if_neg (by omega)]; omega
   ·by_cases e2 : o.kind = 2
    ·have:=c8.1 (.inr e2); rw [if_neg e1,if_pos e2]; omega
    ·have:=c8.2 (by omega); rw [if_neg e1,if_neg e2]; omega
  ·intro T h1 h2;rw [hck] at h2
   have:=hO.nm.ln T h1 h2
   rw [q5];by_cases e1 : o.kind = 1
   ·have:=ci.1 e1; rw [if_pos e1]; omega
   ·have:=ci.2 e1; rw [if_neg e1]; omega
  ·have:=hus.n
   rw [g2,q5];by_cases e1 : o.kind = 1
   ·have:=c7.1 e1; rw [if_pos e1]; omega
   ·have:=c7.2 e1; rw [if_neg e1]; omega
  ·have:=hus.e
   rw [g2,q5,q6];by_cases e1 : o.kind = 1
   ·have:=c7.1 e1; have:=cr.2 (by omega); rw [if_pos e1,if_neg (by omega)]; omega
   ·have:=c7.2 e1
    by_cases e2 : o.kind = 2
    ·have:=cr.1 e2; rw [if_neg e1,if_pos e2]; omega
    ·have:=cr.2 e2; rw [if_neg e1,if_neg e2]; omega
  ·rw [hck];intro j w hw;rcases old j w hw with ⟨_,rfl⟩ | ⟨_,q⟩
   ·refine ⟨fun _ _ q=>?_,fun _ _ q=>?_⟩
    ·have : 9<=(newWork o.kind o.key o.value o.spans).next:=q; omega
    ·have : 12<=(newWork o.kind o.key o.value o.spans).next:=q; omega
   ·exact hO.sd j w q
  ·intro j w oo ff hj hwb ho hf;rw [hB.deeds];rw [q3] at ho;rw [q4] at hf;rcases old j w hj with ⟨rfl,rfl⟩ | ⟨hne,q⟩
   ·rw [List.getElem?_set] at ho hf;rw [if_pos rfl] at ho hf;split at ho
    ·split at hf
     ·injection ho with ho; injection hf with hf
      subst ho; subst hf;refine ⟨⟨w2,fun e=>?_,fun e=>w9 (w2.symm.trans e),fun e=>(w7 (w2.symm.trans e)).2.2⟩,hh.2,⟨by omega,Int.le_refl _⟩,fun _ q=>?_,fun _ q=>?_,fun _ q=>?_,fun _ q=>?_⟩
      ·exact (w6 (fun q=>e (w2.trans q))).2.2
      ·have : 3<=(newWork o.kind o.key o.value o.spans).next:=q; omega
      ·have : 9<=(newWork o.kind o.key o.value o.spans).next:=q; omega
      ·have : 9<=(newWork o.kind o.key o.value o.spans).next:=q; omega
      ·have : 9<=(newWork o.kind o.key o.value o.spans).next:=q; omega
     ·cases hf
    ·cases ho
   ·rw [List.getElem?_set_ne (fun q=>hne q.symm)] at ho hf;exact (hO.wt j w oo ff q hwb ho hf).begun hp hq
  ·intro n d hd;rw [hB.deeds] at hd;rw [hck];exact (hO.fd n d hd).begun hp hq
  ·intro s;rw [hB.deeds,hck,((idle (tkT s) (tkT_idle hh.1)).2 (tkT_low (hnx 8 (by omega))))];exact hO.sc s
theorem OrdJ.sweep (h : OrdJ T N E L D) (L' : ZLay) : OrdJ T N E L { D with L:=L',P:=D.P.doSweep.1 }:=by
 obtain ⟨g,R,u,hA,hRt,hO⟩:=h.ex;have hC:=hA.i;refine ⟨⟨sweepG g D.P,R,u,hA.sweep,fun T h1 h2=>by
  have h2 : T<=D.P.doSweep.1.clock:=h2;rw [sweep_clk] at h2;rw [hRt T h1 h2];unfold Rt;rw [sweepG_V],?_⟩,by show D.P.doSweep.1.mem.ns.length = _; rw [sweep_len]; exact h.len,by show D.P.doSweep.1.mem.es.length = _; rw [(sweep_eln D.P).1]; exact h.eln,by show D.P.doSweep.1.limit = _; rw [(sweep_eln D.P).2.1]; exact h.lim,h.pos,?_,h.cfg⟩
 ·refine ⟨by show 0<=D.P.doSweep.1.clock; rw [sweep_clk]; exact hO.c0,hO.r0,by show ∀ s,1<=s->s<=D.P.doSweep.1.clock->_; rw [sweep_clk]; exact hO.rs,⟨?_,?_⟩,hO.us.sweep,?_,?_,?_,hO.td,?_,?_,hO.pd⟩
  ·show D.P.doSweep.1.clock + (count bu8 D.P.doSweep.1.ts : Nat)<=_;rw [sweep_clk,sweep_ts]; exact hO.nm.ck
  ·show ∀ T,0<=T->T<=D.P.doSweep.1.clock->((R T).length : Int) + (count bi8 D.P.doSweep.1.ts : Nat)<=_;rw [sweep_clk,sweep_ts]; exact hO.nm.ln
  ·show ∀ (j : Nat) w,D.P.doSweep.1.ts[j]? = some w->Said R u D.P.doSweep.1.clock w;rw [sweep_clk,sweep_ts]; exact hO.sd
  ·show ∀ (j : Nat) w o f,D.P.doSweep.1.ts[j]? = some w->_;rw [sweep_ts]; exact hO.wt
  ·show ∀ (n : Nat) d,D.deeds[n]? = some d->FairD R D.P.doSweep.1.clock N E L D.puts D.takes d;rw [sweep_clk]; exact hO.fd
  ·show ∀ s,(count (tkD s) D.deeds : Int) + (count (tkT s) D.P.doSweep.1.ts : Nat) = if 1<=s/\s<=D.P.doSweep.1.clock then 1 else 0
   rw [sweep_clk,sweep_ts]; exact hO.sc
  ·show ∀ T,0<=T->T<=D.P.doSweep.1.clock->(R T).length<=N.toNat + 2;rw [sweep_clk]; exact hO.sm
 ·show D.bs = D.P.doSweep.1.ts.map (·.busy);rw [sweep_ts]; exact h.ok
theorem OrdJ.fresh (hN : 0<=N) (hE : 1<=E) (hL : 0<=L) (h : FreshPl 1 T N E L D) : OrdJ T N E L D:=by
 have hq:=QT.fresh (T:=T) hN hE hL;obtain ⟨g,hA,hr⟩:=hq.ex;have hts : ∀ t ∈ (freshP 1 T N E L).ts,t = PThread.zero:=fun t ht=>(List.mem_replicate.1 ht).2
 have hid : ∀ t ∈ (freshP 1 T N E L).ts,t.busy = false:=fun t ht=>by rw [hts t ht]; rfl
 have cz : ∀ (p : PThread->Bool),p PThread.zero = false->count p (freshP 1 T N E L).ts = 0:=by
  intro p hp;unfold count;rw [List.filter_eq_nil_iff.2]
  ·rfl
  ·intro t ht; rw [hts t ht,hp]; decide
 obtain ⟨r1,r2⟩:=un_room (freshP 1 T N E L).mem;obtain ⟨r3,r4⟩:=hq.rm;obtain ⟨r5,r6⟩:=hq.len;have hun : un (freshP 1 T N E L).mem<=2:=by omega
 have hue : ue (freshP 1 T N E L).mem<=1:=by omega
 have hc : D.P.clock = 0:=by rw [h.P]; rfl
 refine ⟨⟨g,fun _=>[],fun _=>(0,0,0),by rw [h.P]; exact hA,fun T h1 h2=>?_,?_⟩,by rw [h.P]; exact r5,by rw [h.P]; exact r6,by rw [h.P]; rfl,⟨hN,by omega⟩,h.ok,h.cfg⟩
 ·rw [show T = 0 by omega]; exact hr.symm
 ·refine ⟨by omega,rfl,fun s q1 q2=>by omega,⟨?_,?_⟩,⟨?_,?_⟩,?_,?_,?_,?_,?_,fun _ _ _=>Nat.zero_le _,by rw [h.deeds]; intro n d hd; simp at hd⟩
  ·rw [hc,h.P,cz bu8 rfl,h.cnt.1,h.cnt.2]; decide
  ·intro _ _ _;rw [h.P,cz bi8 rfl,h.cnt.1]; decide
  ·rw [h.P,cz bi7 rfl,h.cnt.1]; omega
  ·rw [h.P,cz bi7 rfl,cz br7 rfl,h.cnt.1,h.cnt.2]; omega
  ·rw [h.P];intro j w hw
   have:=hid w (List.mem_of_getElem? hw)
   exact ⟨(fun b=>by rw [this] at b; exact nomatch b),(fun b=>by rw [this] at b; exact nomatch b)⟩
  ·rw [h.P];intro j w _ _ hw b;rw [hid w (List.mem_of_getElem? hw)] at b; cases b
  ·rw [h.deeds]; intro n d hd; simp at hd
  ·rw [h.deeds]; intro n d hd; simp at hd
  ·intro s;rw [h.deeds,h.P,cz (tkT s) rfl,if_neg (by rw [<- h.P,hc]; omega)]
   rfl
theorem ord_plays : Plays treeKin 0 T N E L (OrdJ T N E L):=by
 refine ⟨fun h=>by obtain ⟨g,_,_,hA,_⟩:=h.ex; exact ⟨_,g,hA,h.len,Nat.le_refl _⟩,fun h=>h.ok,fun h=>h.cfg,fun h _ ht hb _ hs=>h.step ht hb hs,fun h ht _ hB=>h.begin ht hB,fun L' h=>h.sweep L',fun _ h=>by omega⟩
end
end T
end
section
namespace T
def rk (d : DeedV) : Int:=2 * d.a.stamp + (if tookD d then 0 else 1)
def aheadD (a b : DeedV) : Bool:=if a.a.stamp≠b.a.stamp then decide (a.a.stamp < b.a.stamp) else (tookD a && !tookD b)
structure OrdL (ds : List DeedV) (i : Nat) (l : List (DeedV × Nat)) : Prop where
 mem : ∀ d n,(d,n) ∈ l ↔ n < i/\ds[n]? = some d/\d.a.err = 0
 srt : l.Pairwise (fun x y=>rk x.1<=rk y.1/\(rk x.1 < rk y.1\/x.2 < y.2))
def Pre (A : List (DeedV × Nat)) (c : Int) : Prop:=0<=c/\(∀ x ∈ A,tookD x.1 = true->x.1.a.stamp<=c)/\(∀ s,1<=s->s<=c->∃ x ∈ A,tookD x.1 = true/\x.1.a.stamp = s)
structure FairEnd (R : Int->List (Int × Int)) (ds : List DeedV) (c N E L puts takes : Int) : Prop where
 c0 : 0<=c
 r0 : R 0 = []
 fd : ∀ (n : Nat) d,ds[n]? = some d->FairD R c N E L puts takes d
 td : ∀ (n : Nat) d,ds[n]? = some d->0<=d.frm/\d.frm<=n/\(d.a.err = 0->Tm ds d.a.stamp d.frm (tookD d))
 sc : ∀ s,(count (tkD s) ds : Int) = if 1<=s/\s<=c then 1 else 0
 sm : ∀ T,0<=T->T<=c->(R T).length<=N.toNat + 2
 pd : ∀ (n : Nat) d,ds[n]? = some d->properB d.op.kind d.op.key d.op.spans = true
section
variable {R : Int->List (Int × Int)} {puts takes N E L T s c c' : Int} {ds : List DeedV} {d e : DeedV} {D : PlD} {A B : List (DeedV × Nat)} {i n m : Nat}
theorem ahead_rk (a b : DeedV) : aheadD a b = decide (rk a < rk b):=by
 unfold aheadD rk;by_cases h : a.a.stamp = b.a.stamp
 ·rw [if_neg (fun q=>q h),h];cases tookD a <;> cases tookD b <;> simp <;> omega
 ·rw [if_pos h];apply decide_eq_decide.2;cases tookD a <;> cases tookD b <;> simp <;> omega
theorem OrdL.none (ds : List DeedV) : OrdL ds 0 []:=⟨fun d n=>⟨fun q=>(List.not_mem_nil q).elim,fun q=>by omega⟩,List.Pairwise.nil⟩
theorem OrdL.skip {l : List (DeedV × Nat)} (h : OrdL ds i l) (hd : ds[i]? = some d) (he : d.a.err≠0) : OrdL ds (i + 1) l:=by
 refine ⟨fun x n=>?_,h.srt⟩;rw [h.mem];constructor
 ·rintro ⟨a,b⟩; exact ⟨by omega,b⟩
 ·rintro ⟨a,b,c⟩;refine ⟨?_,b,c⟩;rcases Nat.lt_or_ge n i with q | q
  ·exact q
  ·have : n = i:=by omega
   subst this;rw [hd] at b; injection b with b; subst b
   exact absurd c he
theorem OrdL.put (h : OrdL ds i (A ++ B)) (hd : ds[i]? = some d) (he : d.a.err = 0) (hB : ∀ b ∈ B,aheadD d b.1 = true) (hA : ∀ a,A.getLast? = some a->aheadD d a.1 = false) : OrdL ds (i + 1) (A ++ (d,i) :: B):=by
 refine ⟨fun x n=>?_,?_⟩
 ·have hm:=h.mem x n;simp only [List.mem_append,List.mem_cons,Prod.mk.injEq] at hm ⊢;constructor
  ·rintro (q | ⟨rfl,rfl⟩ | q)
   ·obtain ⟨a,b⟩:=hm.1 (.inl q); exact ⟨by omega,b⟩
   ·exact ⟨by omega,hd,he⟩
   ·obtain ⟨a,b⟩:=hm.1 (.inr q); exact ⟨by omega,b⟩
  ·rintro ⟨a,b,c⟩;rcases Nat.lt_or_ge n i with q | q
   ·rcases hm.2 ⟨q,b,c⟩ with z | z
    ·exact .inl z
    ·exact .inr (.inr z)
   ·have : n = i:=by omega
    subst this;rw [hd] at b; injection b with b; subst b
    exact .inr (.inl ⟨rfl,rfl⟩)
 ·have hs:=h.srt;rw [List.pairwise_append] at hs ⊢;obtain ⟨s1,s2,s3⟩:=hs;have hB' : ∀ b ∈ B,rk d < rk b.1:=fun b hb=>by have:=hB b hb; rw [ahead_rk] at this; exact of_decide_eq_true this
  have hA' : ∀ a ∈ A,rk a.1<=rk d:=by
   intro a ha;have hne : A≠[]:=fun q=>by rw [q] at ha; cases ha
   have hl:=hA (A.getLast hne) (List.getLast?_eq_some_getLast hne);rw [ahead_rk] at hl;have hl:=of_decide_eq_false hl;have e : A = A.dropLast ++ [A.getLast hne]:=(List.dropLast_concat_getLast hne).symm;rw [e] at s1 ha;rcases List.mem_append.1 ha with q | q
   ·have:=(List.pairwise_append.1 s1).2.2 a q _ (List.mem_singleton_self _)
    omega
   ·rw [List.mem_singleton.1 q]; omega
  refine ⟨s1,List.pairwise_cons.2 ⟨fun b hb=>?_,s2⟩,?_⟩
  ·have:=hB' b hb
   exact ⟨by show rk d<=_; omega,.inl this⟩
  ·intro a ha b hb;rcases List.mem_cons.1 hb with rfl | hb
   ·refine ⟨hA' a ha,.inr ?_⟩;exact ((h.mem a.1 a.2).1 (List.mem_append.2 (.inl ha))).1
   ·exact s3 a ha b hb
theorem cnt_two {α : Type} (p : α->Bool) : ∀ {l : List α} {n m : Nat} {a b : α},l[n]? = some a->l[m]? = some b->n≠m->p a = true->p b = true->2<=count p l
 | [],n,_,_,_,h,_,_,_,_=>by simp at h
 | x :: l,0,0,_,_,_,_,h,_,_=>absurd rfl h
 | x :: l,0,m + 1,a,b,h1,h2,_,pa,pb=>by
  simp only [List.getElem?_cons_zero,Option.some.injEq] at h1;subst h1
  have:=cnt_pos p (l:=l) (k:=m) (by simpa using h2) pb
  unfold count at *;simp [pa]; omega
 | x :: l,n + 1,0,a,b,h1,h2,_,pa,pb=>by
  simp only [List.getElem?_cons_zero,Option.some.injEq] at h2;subst h2
  have:=cnt_pos p (l:=l) (k:=n) (by simpa using h1) pa
  unfold count at *;simp [pb]; omega
 | x :: l,n + 1,m + 1,a,b,h1,h2,hn,pa,pb=>by
  have:=cnt_two p (l:=l) (n:=n) (m:=m) (by simpa using h1) (by simpa using h2) (by omega) pa pb
  unfold count at *;rw [List.filter_cons];split
  ·simp; omega
  ·exact this
theorem FairEnd.took (h : FairEnd R ds c N E L puts takes) (hd : ds[n]? = some d) (ht : tookD d = true) : okT R c d:=by
 rcases h.fd n d hd with q | q | q
 ·exact q
 ·rw [q.took] at ht; cases ht
 ·exfalso;unfold tookD at ht;rw [q.1] at ht;simp at ht
theorem FairEnd.uniq (h : FairEnd R ds c N E L puts takes) (hd : ds[n]? = some d) (he : ds[m]? = some e) (t1 : tookD d = true) (t2 : tookD e = true) (hs : d.a.stamp = e.a.stamp) : n = m:=by
 by_cases hne : n = m
 ·exact hne
 ·exfalso
  have:=cnt_two (tkD d.a.stamp) hd he hne (by unfold tkD; simp [t1]) (by unfold tkD; simp [t2,hs])
  have h1:=h.sc d.a.stamp;split at h1 <;> omega
theorem FairEnd.have (h : FairEnd R ds c N E L puts takes) (h1 : 1<=s) (h2 : s<=c) : ∃ (n : Nat) (d : DeedV),ds[n]? = some d/\tookD d = true/\d.a.stamp = s:=by
 have hc:=h.sc s;rw [if_pos ⟨h1,h2⟩] at hc;have : 0 < (ds.filter (tkD s)).length:=by unfold count at hc; omega
 obtain ⟨d,hd⟩:=List.exists_mem_of_length_pos this;obtain ⟨hm,hp⟩:=List.mem_filter.1 hd;obtain ⟨n,hn⟩:=List.mem_iff_getElem?.1 hm;unfold tkD at hp;simp only [Bool.and_eq_true,decide_eq_true_eq] at hp;exact ⟨n,d,hn,hp.1,hp.2⟩
theorem FairEnd.later (h : FairEnd R ds c N E L puts takes) (hl : OrdL ds ds.length (A ++ (d,n) :: B)) (hm : (e,m) ∈ B) : ¬ (m : Int) < d.frm:=by
 intro hlt;obtain ⟨_,m2,_⟩:=(hl.mem e m).1 (by simp [hm]);obtain ⟨_,n2,n3⟩:=(hl.mem d n).1 (by simp);obtain ⟨_,t2,t3⟩:=h.td n d n2;obtain ⟨q1,q2⟩:=t3 n3 m e hlt m2;have hs:=(List.pairwise_cons.1 (List.pairwise_append.1 hl.srt).2.1).1 (e,m) hm;unfold rk at hs;simp only at hs;cases td : tookD d
 ·rw [td] at hs q2;cases te : tookD e
  ·rw [te] at hs;simp at hs;omega
  ·rw [te] at hs;simp at hs;omega
 ·have:=q2 td
  rw [td] at hs;cases te : tookD e
  ·rw [te] at hs; simp at hs; omega
  ·rw [te] at hs; simp at hs; omega
theorem FairEnd.behind (h : FairEnd R ds c N E L puts takes) (hl : OrdL ds ds.length (A ++ (d,n) :: B)) (hp : Pre A c') (hc : c' + 1<=c) : (tookD d = true/\d.a.stamp = c' + 1)\/rk d<=2 * (c' + 1):=by
 obtain ⟨m,e,q1,q2,q3⟩:=h.have (s:=c' + 1) (by have:=hp.1; omega) hc;have hm:=(hl.mem e m).2 ⟨(List.getElem?_eq_some_iff.1 q1).1,q1,(h.took q1 q2).took.2⟩;rcases List.mem_append.1 hm with z | z
 ·have:=hp.2.1 _ z q2
  simp only at this;omega
 ·rcases List.mem_cons.1 z with z | z
  ·simp only [Prod.mk.injEq] at z;left;rw [<- z.1]; exact ⟨q2,q3⟩
  ·right;have hs:=((List.pairwise_cons.1 (List.pairwise_append.1 hl.srt).2.1).1 (e,m) z).1;simp only at hs;unfold rk at hs ⊢;rw [q2] at hs;simp only [if_true] at hs;omega
theorem FairEnd.next (h : FairEnd R ds c N E L puts takes) (hl : OrdL ds ds.length (A ++ (d,n) :: B)) (hp : Pre A c') :
  (if tookD d then d.a.stamp = c' + 1 else d.a.stamp = c')/\Pre (A ++ [(d,n)]) (if tookD d then c' + 1 else c')/\R (if tookD d then c' + 1 else c') = shNew (R c') d.op.kind d.op.key d.op.value/\d.a = { shAns (R c') d.op.kind d.op.key d.op.spans with stamp:=d.a.stamp }/\shUpd (R c') d.op.kind d.op.key = tookD d:=by
 obtain ⟨n1,n2,n3⟩:=(hl.mem d n).1 (by simp);obtain ⟨p0,p1,p2⟩:=hp;cases ht : tookD d
 ·simp only [Bool.false_eq_true,if_false];have hN : okN R c d:=by
   rcases h.fd n d n2 with q | q | q
   ·rw [q.took.1] at ht; cases ht
   ·exact q
   ·exact absurd n3 q.err.1
  obtain ⟨o1,o2,o3,o4,o5⟩:=hN;have hst : d.a.stamp = c':=by
   rcases Int.lt_trichotomy d.a.stamp c' with q | q | q
   ·exfalso;obtain ⟨x,x1,x2,x3⟩:=p2 c' (by omega) (Int.le_refl _);have hs:=((List.pairwise_append.1 hl.srt).2.2 x x1 (d,n) (by simp)).1;simp only at hs;unfold rk at hs;rw [x2,ht] at hs;simp at hs;omega
   ·exact q
   ·exfalso;rcases h.behind hl ⟨p0,p1,p2⟩ (by omega) with z | z
    ·rw [z.1] at ht; cases ht
    ·unfold rk at z;rw [ht] at z;simp at z;omega
  rw [hst] at o3 o5;refine ⟨hst,⟨p0,?_,?_⟩,?_,by rw [hst]; exact o5,o3⟩
  ·intro x hx hxt;rcases List.mem_append.1 hx with q | q
   ·exact p1 x q hxt
   ·rw [List.mem_singleton.1 q] at hxt;simp only at hxt;rw [ht] at hxt; cases hxt
  ·intro s s1 s2;obtain ⟨x,x1,x2⟩:=p2 s s1 s2;exact ⟨x,List.mem_append.2 (.inl x1),x2⟩
  ·unfold shNew;rw [o3]
   rfl
 ·simp only [if_true];obtain ⟨o0,o1,o2,o3,o4,o5⟩:=h.took n2 ht;have hst : d.a.stamp = c' + 1:=by
   rcases Int.lt_trichotomy d.a.stamp (c' + 1) with q | q | q
   ·exfalso;obtain ⟨x,x1,x2,x3⟩:=p2 d.a.stamp o1 (by omega);obtain ⟨y1,y2,_⟩:=(hl.mem x.1 x.2).1 (List.mem_append.2 (.inl x1));have hnm:=h.uniq y2 n2 x2 ht x3;have hs:=((List.pairwise_append.1 hl.srt).2.2 x x1 (d,n) (by simp)).2;simp only at hs;unfold rk at hs;rw [x2,ht,x3] at hs;omega
   ·exact q
   ·exfalso;rcases h.behind hl ⟨p0,p1,p2⟩ (by omega) with z | z
    ·omega
    ·unfold rk at z;rw [ht] at z;simp at z;omega
  have e1 : d.a.stamp - 1 = c':=by omega
  rw [e1] at o3 o4 o5;refine ⟨hst,⟨by omega,?_,?_⟩,by rw [<- hst]; exact o4,o5,o3⟩
  ·intro x hx hxt;rcases List.mem_append.1 hx with q | q
   ·have:=p1 x q hxt; omega
   ·rw [List.mem_singleton.1 q];show d.a.stamp<=_;omega
  ·intro s s1 s2;rcases (show s<=c'\/s = c' + 1 by omega) with q | q
   ·obtain ⟨x,x1,x2⟩:=p2 s s1 q;exact ⟨x,List.mem_append.2 (.inl x1),x2⟩
   ·exact ⟨(d,n),List.mem_append.2 (.inr (List.mem_singleton_self _)),ht,by show d.a.stamp = s; omega⟩
theorem FairEnd.last (h : FairEnd R ds c N E L puts takes) (hl : OrdL ds ds.length A) (hp : Pre A c') : c' = c:=by
 obtain ⟨p0,p1,p2⟩:=hp;rcases Int.lt_trichotomy c' c with q | q | q
 ·exfalso;obtain ⟨m,e,q1,q2,q3⟩:=h.have (s:=c' + 1) (by omega) (by omega);have hm:=(hl.mem e m).2 ⟨(List.getElem?_eq_some_iff.1 q1).1,q1,(h.took q1 q2).took.2⟩
  have:=p1 _ hm q2
  simp only at this;omega
 ·exact q
 ·exfalso;have hc:=h.c0;obtain ⟨x,x1,x2,x3⟩:=p2 c' (by omega) (Int.le_refl _);obtain ⟨_,y2,_⟩:=(hl.mem x.1 x.2).1 x1
  have:=(h.took y2 x2).2.2.1
  omega
theorem Pre.none : Pre [] 0:=⟨Int.le_refl _,fun x hx=>(List.not_mem_nil hx).elim,fun s h1 h2=>by omega⟩
theorem OrdJ.fair (h : OrdJ T N E L D) (hst : Still 0 D) : ∃ R,FairEnd R D.deeds D.P.clock N E L D.puts D.takes:=by
 obtain ⟨g,R,u,hA,hRt,hO⟩:=h.ex;refine ⟨R,hO.c0,hO.r0,hO.fd,hO.td,fun s=>?_,hO.sm,hO.pd⟩
 have:=hO.sc s
 have hz : count (tkT s) D.P.ts = 0:=by
  unfold count;rw [List.filter_eq_nil_iff.2]
  ·rfl
  ·intro t ht;obtain ⟨j,hj⟩:=List.mem_iff_getElem?.1 ht;rw [tkT_idle (hst j t (Nat.zero_le _) hj)]; decide
 rw [hz] at this;omega
end
section
variable {P : PSt} {i j m : Nat} {t t' : PThread} {N E L T : Int} {D D' : PlD} {o : OpV}
theorem th_ofT (h : P.ts[i]? = some t) : P.th i = t:=by unfold PSt.th; rw [h]; rfl
theorem OrdJ.same (h : OrdJ T N E L D) (e1 : D'.P = D.P) (e2 : D'.ops = D.ops) (e3 : D'.frm = D.frm) (e4 : D'.deeds = D.deeds) (e5 : D'.puts = D.puts) (e6 : D'.takes = D.takes) (e7 : D'.bs = D.bs) (e8 : D'.k = D.k/\D'.t = D.t/\D'.n = D.n/\D'.e = D.e/\D'.l = D.l) : OrdJ T N E L D':=by
 obtain ⟨⟨g,R,u,hA,hRt,hO⟩,h2,h3,h4,h5,h6,h7⟩:=h;refine ⟨⟨g,R,u,by rw [e1]; exact hA,by rw [e1]; exact hRt,?_⟩,by rw [e1]; exact h2,by rw [e1]; exact h3,by rw [e1]; exact h4,h5,by unfold PlD.ok at *; rw [e1,e7]; exact h6,cfg_trans e8 h7⟩;obtain ⟨o1,o2,o3,o4,o5,o6,o7,o8,o9,o10,o11,o12⟩:=hO;exact ⟨by rw [e1]; exact o1,o2,by rw [e1]; exact o3,by rw [e1,e5,e6]; exact o4,by rw [e1,e5,e6]; exact o5,by rw [e1]; exact o6,by rw [e1,e2,e3,e4,e5,e6]; exact o7,by rw [e1,e4,e5,e6]; exact o8,by rw [e4]; exact o9,by rw [e1,e4]; exact o10,by rw [e1]; exact o11,by rw [e4]; exact o12⟩
theorem OrdJ.iter (h : OrdJ T N E L D) (ht : D.P.ts[i]? = some t) (hb : t.busy = true) : ∀ (j : Nat),(∀ q,q < j->D.P.how i q = 1)->∃ D1,OrdJ T N E L D1/\D1.P = D.P.iter i j/\D1.ops = D.ops/\D1.frm = D.frm/\D1.puts = D.puts/\D1.takes = D.takes/\D1.bs = D.bs/\D1.deeds = D.deeds/\(D1.k = D.k/\D1.t = D.t/\D1.n = D.n/\D1.e = D.e/\D1.l = D.l)/\(∃ t1,D1.P.ts[i]? = some t1/\t1.busy = true)/\(∀ q,q≠i->D1.P.ts[q]? = D.P.ts[q]?)
 | 0,_=>⟨D,h,rfl,rfl,rfl,rfl,rfl,rfl,rfl,⟨rfl,rfl,rfl,rfl,rfl⟩,⟨t,ht,hb⟩,fun _ _=>rfl⟩
 | j + 1,hq=>by
  obtain ⟨D1,h1,h2,h3,h4,h5,h6,h7,h8,h9,⟨t1,h10,h11⟩,h12⟩:=OrdJ.iter h ht hb j (fun q hq'=>hq q (by omega));have hhow : (D1.P.step i t1).2 = 1:=by
   have:=hq j (by omega)
   unfold PSt.how at this;rw [<- h2,th_ofT h10] at this;exact this
  have hst : Stepped D1 i t1 { D1 with P:=(D1.P.step i t1).1,N:=D1.N + 1 }:=by
   refine ⟨rfl,rfl,⟨rfl,rfl,rfl,rfl,rfl⟩,rfl,rfl,⟨rfl,rfl⟩,?_,fun _=>rfl,fun q=>?_⟩
   ·rw [if_neg (by omega)]
   ·omega
  have hi:=(List.getElem?_eq_some_iff.1 h10).1;obtain ⟨t2,s1,_,s3⟩:=step_work h10 h11;refine ⟨_,h1.step h10 h11 hst,?_,h3,h4,h5,h6,h7,h8,h9,⟨t2,?_,(s3 (by omega)).1⟩,?_⟩
  ·show (D1.P.step i t1).1 = ((D.P.iter i j).step i ((D.P.iter i j).th i)).1;rw [<- h2,th_ofT h10]
  ·show (D1.P.step i t1).1.ts[i]? = _;rw [s1]; simp [hi]
  ·intro q hne;show (D1.P.step i t1).1.ts[q]? = _;rw [s1,List.getElem?_set_ne (fun e=>hne e.symm)];exact h12 q hne
theorem OrdJ.soloed (h : OrdJ T N E L D) (ht : D.P.ts[i]? = some t) (hb : t.busy = true) (hmv : ∀ j,j < m->D.P.how i j = 1) (hend : D.P.how i m = 3) (hS : Soloed D i m D') (hid : ∀ (j : Nat) u,j≠i->D.P.ts[j]? = some u->u.busy = false) : OrdJ T N E L D'/\Still 0 D':=by
 obtain ⟨D1,h1,h2,h3,h4,h5,h6,h7,h8,h9,⟨t1,h10,h11⟩,h12⟩:=h.iter ht hb m hmv;have hhow : (D1.P.step i t1).2 = 3:=by
  unfold PSt.how at hend;rw [<- h2,th_ofT h10] at hend;exact hend
 obtain ⟨av,o,f,g1,g2,g3⟩:=hS.deeds;rw [<- h2,th_ofT h10] at g3;have hP : D'.P = (D1.P.step i t1).1:=by
  rw [hS.P];show ((D.P.iter i m).step i ((D.P.iter i m).th i)).1 = _;rw [<- h2,th_ofT h10]
 have hst : Stepped D1 i t1 { D1 with P:=(D1.P.step i t1).1,N:=D1.N + 1,bs:=D1.bs.set i false,deeds:=D'.deeds }:=by
  refine ⟨rfl,rfl,⟨rfl,rfl,rfl,rfl,rfl⟩,rfl,rfl,⟨rfl,rfl⟩,?_,fun q=>absurd hhow q,fun _=>⟨av,o,f,by rw [h3]; exact g1,by rw [h4]; exact g2,by show D'.deeds = _; rw [h8]; exact g3⟩⟩;rw [if_pos hhow]
 have hfin:=h1.step h10 h11 hst;obtain ⟨a1,a2,a3,a4,a5⟩:=hS.cfg;obtain ⟨b1,b2,b3,b4,b5⟩:=h9;refine ⟨hfin.same hP (hS.same.1.trans h3.symm) (hS.same.2.1.trans h4.symm) rfl (hS.same.2.2.1.trans h5.symm) (hS.same.2.2.2.trans h6.symm) (by show D'.bs = D1.bs.set i false; rw [h7]; exact hS.bs) ⟨a1.trans b1.symm,a2.trans b2.symm,a3.trans b3.symm,a4.trans b4.symm,a5.trans b5.symm⟩,?_⟩;intro q u _ hu;have hi:=(List.getElem?_eq_some_iff.1 h10).1;obtain ⟨t2,s1,s2,_⟩:=step_work h10 h11;rw [hP,s1] at hu;by_cases e : q = i
 ·subst e;rw [List.getElem?_set_self hi] at hu;injection hu with hu
  rw [<- hu]; exact s2 hhow
 ·rw [List.getElem?_set_ne (fun z=>e z.symm),h12 q e] at hu;exact hid q u e hu
structure OrdB (T N E L : Int) (b : Nat) (D : PlD) : Prop where
 j : OrdJ T N E L D
 ex : ∃ t,D.P.ts[0]? = some t/\t.busy = true/\(t.work.kind = 3\/t.work.kind = 4)/\t.work.next = 1
 idle : ∀ (j : Nat) u,j≠0->D.P.ts[j]? = some u->u.busy = false
 bs : D.bs[0]? = some true
 sz : Sz b D
theorem OrdB.run {b : Nat} (h : OrdB T N E L b D) : ∃ t,D.P.ts[0]? = some t/\t.busy = true/\∃ m : Nat,(m : Nat) < N.toNat + 16/\(∀ j,j < m->D.P.how 0 j = 1)/\D.P.how 0 m = 3:=by
 obtain ⟨t,ht,htb,hk,hn⟩:=h.ex;obtain ⟨g,R,u,hA,hRt,hO⟩:=h.j.ex;obtain ⟨m,m1,m2,m3,_⟩:=solo_end (i:=0) (fun _=>True) (fun _ _ _ _ _ _=>trivial) (N.toNat + 16) D.P g t hA (fun j u hj hne=>h.idle j u hne hj) ht htb h.j.len (by rw [phi_r3 htb hk (by omega)]; omega) trivial;exact ⟨t,ht,htb,m,by omega,m2,m3⟩
end
section
variable {R : Int->List (Int × Int)} {puts takes N E L c c' : Int} {ds : List DeedV} {A B : List (DeedV × Nat)}
theorem OrdL.len {ds : List DeedV} {i : Nat} {l : List (DeedV × Nat)} (h : OrdL ds i l) : l.length<=i:=by
 have hn : (l.map (·.2)).Nodup:=by
  rw [List.nodup_iff_pairwise_ne,List.pairwise_map];refine h.srt.imp_of_mem ?_;intro a b ha hb hab e;obtain ⟨_,a2,_⟩:=(h.mem a.1 a.2).1 ha;obtain ⟨_,b2,_⟩:=(h.mem b.1 b.2).1 hb;rw [e,b2] at a2;injection a2 with a2
  rw [a2] at hab;omega
 have:=nodup_leA (l:=l.map (·.2)) (m:=List.range i) hn (fun x hx=>by
  obtain ⟨p,hp,rfl⟩:=List.mem_map.1 hx;exact List.mem_range.2 ((h.mem p.1 p.2).1 hp).1)
 simpa using this
theorem FairEnd.pre_le (h : FairEnd R ds c N E L puts takes) (hl : OrdL ds ds.length (A ++ B)) (hp : Pre A c') : c'<=c:=by
 by_cases h1 : 1<=c'
 ·obtain ⟨x,x1,x2,x3⟩:=hp.2.2 c' h1 (Int.le_refl _);obtain ⟨_,y2,_⟩:=(hl.mem x.1 x.2).1 (List.mem_append.2 (.inl x1))
  have:=(h.took y2 x2).2.2.1
  omega
 ·have:=h.c0; omega
end
end T
end
section
open Go.RowKit
section
variable {own : Own} {z : Nat} {w w' : World} {pb b : Nat} {D D1 : PlD} {i j : Nat}
theorem isUpdate_calls (kind key value : Int) (sv : Value) (w : World) :
  Calls Tryz.prog 33 #[opVal kind key value sv] w fun r w'=>r = .returned (.bool (kind == 1 || kind == 2))/\Fr (fun _=>False) w w':=by
 unfold opVal;have HF:=(mkH (∀ o,Fr (fun _=>False) w (w.alloc o)) <|fun o=>(Fr.refl _ _).alloc _);by_cases h1 : kind = 1
 ·subst h1
  go_enter Tryz.func33,Tryz.ntmps33
  go_wp2;go_ret;exact ⟨rfl,HF.out _⟩
 ·have h1' : (kind == 1) = false:=by simpa using h1
  by_cases h2 : kind = 2
  ·subst h2;clear h1 h1'
   go_enter Tryz.func33,Tryz.ntmps33
   go_wp2;go_ret;exact ⟨rfl,HF.out _⟩
  ·have h2' : (kind == 2) = false:=by simpa using h2
   have HE : Hid ((kind == 1 || kind == 2) = false):=by show _ = _; simp [h1',h2']
   clear h1 h2
   go_enter Tryz.func33,Tryz.ntmps33
   go_wp2;go_ret;exact ⟨ret_bool HE.out.symm,HF.out _⟩
end
end
section
open Go.RowKit
section
variable {own : Own} {z : Nat} {w w' : World} {pb : Nat} {D D1 : PlD} {i j : Nat}
theorem whole_calls (w : World) : Calls Tryz.prog 28 #[] w fun e w'=>∃ va vc,e = .returned (opVal 4 0 0 (.slice va 1 vc))/\OwnSpans w w' (.slice va 1 vc) [(0,1099511627776)]:=by
 go_enter Tryz.func28,Tryz.ntmps28
 go_wp2_with fail;generalize hw1 : World.alloc (World.alloc w _) _ = w1;have hA : At w1 w.heap.size [.int .i64 4,.int .i64 0,.int .i64 0,.slice (some ⟨w.heap.size + 1,0,none⟩) 1 1] 53:=by subst hw1; exact (At.new w _ _).alloc _
 have hB : At w1 (w.heap.size + 1) [.int .i64 0,.int .i64 1099511627776] 81:=by subst hw1; exact At.newAt (by simp) _ _
 have hF : Fr (fun _=>False) w w1:=by subst hw1; exact ((Fr.refl _ _).alloc _).alloc _
 have f0:=hA.cell;have HO : OwnSpans w w1 (.slice (some ⟨w.heap.size + 1,0,none⟩) 1 1) [(0,1099511627776)]:=by
  refine ⟨⟨rfl,.inr ⟨w.heap.size + 1,1,_,rfl,Nat.zero_le _,hB,Nat.le_refl _,by unfold maxLen; decide,rfl,rfl⟩⟩,?_,hF⟩;intro k hk;simp [Value.ownBlock] at hk;omega
 clear hw1 hA hB hF;refine bodyPost_ret (v:=opVal 4 0 0 (.slice (some ⟨w.heap.size + 1,0,none⟩) 1 1)) (by simp [results,Tryz.results28,go_sem,opVal,f0]) rfl ⟨_,_,rfl,HO⟩
theorem took_calls (kd ky va : Int) (sv : Value) (e : Int) (did : Bool) (av st : Int) (lv : Value) (f : Int) (w : World) (sa la : Option Addr) (sn sc ln lc : Nat) (hs : sv = .slice sa sn sc) (hv : lv = .slice la ln lc) :
  Calls Tryz.prog 39 #[.agg #[.int .i64 kd,.int .i64 ky,.int .i64 va,sv,.int .i64 e,.bool did,.int .i64 av,.int .i64 st,lv,.int .i64 f]] w fun r w'=>r = .returned (.bool ((kd == 1 || kd == 2) && did))/\Fr (fun _=>False) w w':=by
 subst hv hs;have HU:=(mkH (∀ w,Calls Tryz.prog 33 #[opVal kd ky va (.slice sa sn sc)] w _) <|fun w=>isUpdate_calls kd ky va (.slice sa sn sc) w);unfold opVal at HU
 go_enter Tryz.func39,Tryz.ntmps39
 go_wp2_with fail;refine Calls.mono (HU.out _) ?_;rintro r w1 ⟨rfl,hF1⟩;have hA : At w1 w.heap.size [.int .i64 kd,.int .i64 ky,.int .i64 va,.slice sa sn sc,.int .i64 e,.bool did,.int .i64 av,.int .i64 st,.slice la ln lc,.int .i64 f] 75:=hF1.at (At.new w _ _) (fun h=>h);have hac:=hA.cell;have HF:=(mkH (Fr (fun _=>False) w w1) <|((Fr.refl _ _).alloc _).trans hF1);clear hA hF1 HU;obtain ⟨b,hb⟩ : ∃ b,Hid ((kd == 1 || kd == 2) = b):=⟨_,rfl⟩;rw [hb.out];cases b
 ·go_wp2;go_ret;exact ⟨by rw [hb.out]; rfl,HF.out⟩
 ·go_wp2;go_ret;exact ⟨by rw [hb.out]; simp,HF.out⟩
end
end
section
namespace T
section
variable {D D' : PlD} {i j : Nat} {t : PThread} {T N E L : Int}
theorem proper_whole : properB 4 0 [(0,1099511627776)] = true:=by decide
end
end T
end
section
open Go.RowKit
open Go.Proofs.YtfccelbmacjifabGreat.T (QT proper_whole)
section
variable {own : Own} {z : Nat} {w w' : World} {pb b : Nat} {D D' : PlD} {i j : Nat} {t : PThread} {T N E L : Int} {ps : List (Int × Int)} {o : OpV}
end
end
section
open Go.RowKit
open Go.Proofs.YtfccelbmacjifabGreat.T (QT)
section
variable {own : Own} {z : Nat} {w w' : World} {pb b : Nat} {D D' : PlD} {i j : Nat} {t : PThread} {T N E L : Int} {ps : List (Int × Int)} {o : OpV}
theorem PlAt.deedCells (h : PlAt own z w pb D) (hd : D.deeds≠[]) : ∃ g c,D.dv = .slice (some ⟨g,0,none⟩) D.deeds.length c/\∀ (k : Nat) d,D.deeds[k]? = some d->(∃ sa sn sc la ln lc,d.op.sv = .slice sa sn sc/\d.av = .slice la ln lc)/\∀ q v,d.cells[q]? = some v->w.cell? ⟨g,k * 10 + q,none⟩ = some v:=by
 have hl : 0 < D.deeds.length:=List.length_pos_iff.2 hd;obtain ⟨g,c,hv,_⟩:=ownsRow_shape h.deeds.row (by omega);have hr:=h.deeds.row;rw [hv] at hr;refine ⟨g,c,hv,?_⟩;intro k d hk;refine ⟨?_,?_⟩
 ·have hdk:=h.dok d (List.mem_of_getElem? hk);obtain ⟨sa,sc,h1⟩:=ownsShape hdk.1.row;obtain ⟨ins,_,h2,_⟩:=hdk.2.1.top;obtain ⟨la,lc,h3⟩:=ownsShape h2.row;exact ⟨sa,_,sc,la,_,lc,h1,h3⟩
 ·intro q v hq;exact ownsRow_cell hr ((tab_get DeedV.cells 10 deed_len D.deeds k q d hk (by have:=(List.getElem?_eq_some_iff.1 hq).1; simpa [deed_len] using this)).trans hq)
end
end
section
open Go.RowKit
open Go.Proofs.YtfccelbmacjifabGreat.T (OrdJ OrdB proper_whole)
section
variable {P : PSt} {i j m : Nat} {t t' : PThread} {N E L T : Int} {D D' : PlD} {o : OpV} {own : Own} {z : Nat} {w w' : World} {pb b : Nat}
theorem ord_begin (hP : PlAt own z w pb D) (h : OrdJ T N E L D) (hst : Still 0 D) (hs : Sz b D) (hT : 1<=T) (hb : b<=2 ^ 36) (sa : Option Addr) (sc : Nat) (ho : OpOk own (z + 1) w ⟨4,0,0,[(0,1099511627776)],.slice sa 1 sc⟩) :
  Calls Tryz.prog 29 #[pv pb,.int .i64 ((0 : Nat) : Int),opVal 4 0 0 (.slice sa 1 sc)] w fun r w'=>r = .returned (.bool true)/\PlGoes own z w pb w' (OrdB T N E L (b + 1)):=by
 have hl : 0 < D.P.ts.length:=by have:=hP.thr; have:=h.cfg.2.1; omega
 have ht : D.P.ts[0]? = some D.P.ts[0]:=List.getElem?_eq_getElem hl;generalize D.P.ts[0] = t at ht;have htb : t.busy = false:=hst 0 t (Nat.zero_le _) ht;refine (Pbegins_calls hP h.ok ht 4 0 0 [(0,1099511627776)] sa sc ho (by simp) (by unfold Sz at hs; omega)).mono ?_;rintro r w' ⟨rfl,own',D',h1,h2,h3,hB⟩;refine ⟨rfl,own',D',h1,h2,h3,?_⟩;obtain ⟨y1,y2,y3,y4,y5,y6⟩:=hB.yes htb proper_whole;refine ⟨h.begin ht hB,⟨{ t with busy:=true,work:=newWork 4 0 0 [(0,1099511627776)] },?_,rfl,.inr rfl,rfl⟩,?_,?_,hs.begin hB⟩
 ·rw [y1]; simp [PSt.setT,hl]
 ·intro j u hj hu;rw [y1] at hu;have hu' : (D.P.ts.set 0 { t with busy:=true,work:=newWork 4 0 0 [(0,1099511627776)] })[j]? = some u:=hu;rw [List.getElem?_set_ne (by omega)] at hu';exact hst j u (Nat.zero_le _) hu'
 ·rw [y2,List.getElem?_set_self (by rw [hP.bl]; exact hl)]
theorem ord_solo (hP : PlAt own z w pb D) (h : OrdB T N E L b D) (hb : b<=2 ^ 36) (hN : 0<=N/\N<=64) :
  Calls Tryz.prog 30 #[pv pb,.int .i64 ((0 : Nat) : Int)] w fun r w'=>r = .returned (.bool true)/\PlGoes own z w pb w' (fun D'=>OrdJ T N E L D'/\Still 0 D'/\Sz (b + 100) D'/\D'.deeds≠[]):=by
 obtain ⟨t,ht,htb,m,m1,m2,m3⟩:=h.run;have hs:=h.sz;unfold Sz at hs;refine (Psolo_calls hP (by rw [h.j.cfg.2.2.1]; exact hN) h.bs ht htb (by omega) (by omega) m (by rw [h.j.cfg.2.2.1]; omega) m2 m3).mono ?_;rintro r w' ⟨rfl,own',D',h1,h2,h3,hS⟩;obtain ⟨q1,q2⟩:=h.j.soloed ht htb m2 m3 hS h.idle;obtain ⟨av,o,f,_,_,g3⟩:=hS.deeds;refine ⟨rfl,own',D',h1,h2,h3,q1,q2,?_,by rw [g3]; simp⟩;have hl : D'.deeds.length = D.deeds.length + 1:=by rw [g3]; simp
 have hNN:=hS.N;unfold Sz;rw [hl,hS.same.2.2.1,hS.same.2.2.2];omega
end
end
end Go.Proofs.YtfccelbmacjifabGreat
