import Derived.Test.YtfccelbmacjifabGreatP0
import Derived.Test.YtfccelbmacjifabGreatP28
import Derived.Test.YtfccelbmacjifabGreatP26
import Derived.Test.YtfccelbmacjifabGreatRows
import Derived.Test.YtfccelbmacjifabGreatP22
import Derived.Test.YtfccelbmacjifabGreatP17
import Derived.ProofKit
import Derived.Lib.SmallJoins
import Derived.OpenShut
import Derived.ChangeOld
import Derived.JoinedCond
import Derived.Test.YtfccelbmacjifabGreatP23
set_option linter.unusedSimpArgs false
set_option maxRecDepth 100000
set_option maxHeartbeats 4000000
namespace Go.Proofs.YtfccelbmacjifabGreat
section
def rk (d : DeedV) : Int:=2 * d.a.stamp + (if tookD d then 0 else 1)
def aheadD (a b : DeedV) : Bool:=if a.a.stamp≠b.a.stamp then decide (a.a.stamp < b.a.stamp) else (tookD a && !tookD b)
structure OrdL (ds : List DeedV) (i : Nat) (l : List (DeedV × Nat)) : Prop where
 mem : ∀ d n,(d,n) ∈ l ↔ n < i/\ds[n]? = some d/\d.a.err = 0
 srt : l.Pairwise (fun x y=>rk x.1<=rk y.1/\(rk x.1 < rk y.1\/x.2 < y.2))
def Pre (A : List (DeedV × Nat)) (c : Int) : Prop:=0<=c/\(∀ x ∈ A,tookD x.1 = true->x.1.a.stamp<=c)/\(∀ s,1<=s->s<=c->∃ x ∈ A,tookD x.1 = true/\x.1.a.stamp = s)
structure FairEnd (Rt : Int->List (Int × Int)) (ds : List DeedV) (c N E L puts takes : Int) : Prop where
 c0 : 0<=c
 r0 : Rt 0 = []
 fd : ∀ (n : Nat) d,ds[n]? = some d->FairD Rt c N E L puts takes d
 td : ∀ (n : Nat) d,ds[n]? = some d->0<=d.frm/\d.frm<=n/\(d.a.err = 0->Tm ds d.a.stamp d.frm (tookD d))
 sc : ∀ s,(count (tkD s) ds : Int) = if 1<=s/\s<=c then 1 else 0
 sm : ∀ T,0<=T->T<=c->(Rt T).length<=N.toNat + 2
 pd : ∀ (n : Nat) d,ds[n]? = some d->properB d.op.kind d.op.key d.op.spans = true
section
variable {Rt : Int->List (Int × Int)} {puts takes N E L T s c c' : Int} {ds : List DeedV} {d e : DeedV} {D : PlD} {A B : List (DeedV × Nat)} {i n m : Nat}
theorem ahead_rk (a b : DeedV) : aheadD a b = decide (rk a < rk b):=by
 unfold aheadD rk;by_cases h : a.a.stamp = b.a.stamp
 ·rw [if_neg (fun q=>q h),h];cases tookD a <;> cases tookD b <;> simp <;> omega
 ·rw [if_pos h];apply decide_eq_decide.2;cases tookD a <;> cases tookD b <;> simp <;> omega
theorem OrdL.none (ds : List DeedV) : OrdL ds 0 []:=⟨fun d n=>⟨fun q=>(List.not_mem_nil q).elim,fun q=>by omega⟩,List.Pairwise.nil⟩
theorem OrdL.skip {l : List (DeedV × Nat)} (h : OrdL ds i l) (hd : ds[i]? = some d) (he : d.a.err≠0) : OrdL ds (i + 1) l:=by
 refine ⟨fun x n=>?_,h.srt⟩;rw [h.mem];constructor
 ·rintro ⟨a,b⟩; exact ⟨by omega,b⟩
 ·rintro ⟨a,b,c⟩;refine ⟨?_,b,c⟩;rcases Nat.lt_or_ge n i with q | q
  ·exact q
  ·have : n = i:=by omega
   subst this;rw [hd] at b; injection b with b; subst b
   exact absurd c he
theorem OrdL.put (h : OrdL ds i (A ++ B)) (hd : ds[i]? = some d) (he : d.a.err = 0) (hB : ∀ b ∈ B,aheadD d b.1 = true) (hA : ∀ a,A.getLast? = some a->aheadD d a.1 = false) : OrdL ds (i + 1) (A ++ (d,i) :: B):=by
 refine ⟨fun x n=>?_,?_⟩
 ·have hm:=h.mem x n;simp only [List.mem_append,List.mem_cons,Prod.mk.injEq] at hm ⊢;constructor
  ·rintro (q | ⟨rfl,rfl⟩ | q)
   ·obtain ⟨a,b⟩:=hm.1 (.inl q); exact ⟨by omega,b⟩
   ·exact ⟨by omega,hd,he⟩
   ·obtain ⟨a,b⟩:=hm.1 (.inr q); exact ⟨by omega,b⟩
  ·rintro ⟨a,b,c⟩;rcases Nat.lt_or_ge n i with q | q
   ·rcases hm.2 ⟨q,b,c⟩ with z | z
    ·exact .inl z
    ·exact .inr (.inr z)
   ·have : n = i:=by omega
    subst this;rw [hd] at b; injection b with b; subst b
    exact .inr (.inl ⟨rfl,rfl⟩)
 ·have hs:=h.srt;rw [List.pairwise_append] at hs ⊢;obtain ⟨s1,s2,s3⟩:=hs;have hB' : ∀ b ∈ B,rk d < rk b.1:=fun b hb=>by have:=hB b hb; rw [ahead_rk] at this; exact of_decide_eq_true this
  have hA' : ∀ a ∈ A,rk a.1<=rk d:=by
   intro a ha;have hne : A≠[]:=fun q=>by rw [q] at ha; cases ha
   have hl:=hA (A.getLast hne) (List.getLast?_eq_some_getLast hne);rw [ahead_rk] at hl;have hl:=of_decide_eq_false hl;have e : A = A.dropLast ++ [A.getLast hne]:=(List.dropLast_concat_getLast hne).symm;rw [e] at s1 ha;rcases List.mem_append.1 ha with q | q
   ·have:=(List.pairwise_append.1 s1).2.2 a q _ (List.mem_singleton_self _)
    omega
   ·rw [List.mem_singleton.1 q]; omega
  refine ⟨s1,List.pairwise_cons.2 ⟨fun b hb=>?_,s2⟩,?_⟩
  ·have:=hB' b hb
   exact ⟨by show rk d<=_; omega,.inl this⟩
  ·intro a ha b hb;rcases List.mem_cons.1 hb with rfl | hb
   ·refine ⟨hA' a ha,.inr ?_⟩;exact ((h.mem a.1 a.2).1 (List.mem_append.2 (.inl ha))).1
   ·exact s3 a ha b hb
theorem cnt_two {α : Type} (p : α->Bool) : ∀ {l : List α} {n m : Nat} {a b : α},l[n]? = some a->l[m]? = some b->n≠m->p a = true->p b = true->2<=count p l
 | [],n,_,_,_,h,_,_,_,_=>by simp at h
 | x :: l,0,0,_,_,_,_,h,_,_=>absurd rfl h
 | x :: l,0,m + 1,a,b,h1,h2,_,pa,pb=>by
  simp only [List.getElem?_cons_zero,Option.some.injEq] at h1;subst h1
  have:=cnt_pos p (l:=l) (k:=m) (by simpa using h2) pb
  unfold count at *;simp [pa]; omega
 | x :: l,n + 1,0,a,b,h1,h2,_,pa,pb=>by
  simp only [List.getElem?_cons_zero,Option.some.injEq] at h2;subst h2
  have:=cnt_pos p (l:=l) (k:=n) (by simpa using h1) pa
  unfold count at *;simp [pb]; omega
 | x :: l,n + 1,m + 1,a,b,h1,h2,hn,pa,pb=>by
  have:=cnt_two p (l:=l) (n:=n) (m:=m) (by simpa using h1) (by simpa using h2) (by omega) pa pb
  unfold count at *;rw [List.filter_cons];split
  ·simp; omega
  ·exact this
theorem FairEnd.took (h : FairEnd Rt ds c N E L puts takes) (hd : ds[n]? = some d) (ht : tookD d = true) : okT Rt c d:=by
 rcases h.fd n d hd with q | q | q
 ·exact q
 ·rw [q.took] at ht; cases ht
 ·exfalso;unfold tookD at ht;rw [q.1] at ht;simp at ht
theorem FairEnd.uniq (h : FairEnd Rt ds c N E L puts takes) (hd : ds[n]? = some d) (he : ds[m]? = some e) (t1 : tookD d = true) (t2 : tookD e = true) (hs : d.a.stamp = e.a.stamp) : n = m:=by
 by_cases hne : n = m
 ·exact hne
 ·exfalso
  have:=cnt_two (tkD d.a.stamp) hd he hne (by unfold tkD; simp [t1]) (by unfold tkD; simp [t2,hs])
  have h1:=h.sc d.a.stamp;split at h1 <;> omega
theorem FairEnd.have (h : FairEnd Rt ds c N E L puts takes) (h1 : 1<=s) (h2 : s<=c) : ∃ (n : Nat) (d : DeedV),ds[n]? = some d/\tookD d = true/\d.a.stamp = s:=by
 have hc:=h.sc s;rw [if_pos ⟨h1,h2⟩] at hc;have : 0 < (ds.filter (tkD s)).length:=by unfold count at hc; omega
 obtain ⟨d,hd⟩:=List.exists_mem_of_length_pos this;obtain ⟨hm,hp⟩:=List.mem_filter.1 hd;obtain ⟨n,hn⟩:=List.mem_iff_getElem?.1 hm;unfold tkD at hp;simp only [Bool.and_eq_true,decide_eq_true_eq] at hp;exact ⟨n,d,hn,hp.1,hp.2⟩
theorem FairEnd.later (h : FairEnd Rt ds c N E L puts takes) (hl : OrdL ds ds.length (A ++ (d,n) :: B)) (hm : (e,m) ∈ B) : ¬ (m : Int) < d.frm:=by
 intro hlt;obtain ⟨_,m2,_⟩:=(hl.mem e m).1 (by simp [hm]);obtain ⟨_,n2,n3⟩:=(hl.mem d n).1 (by simp);obtain ⟨_,t2,t3⟩:=h.td n d n2;obtain ⟨q1,q2⟩:=t3 n3 m e hlt m2;have hs:=(List.pairwise_cons.1 (List.pairwise_append.1 hl.srt).2.1).1 (e,m) hm;unfold rk at hs;simp only at hs;cases td : tookD d
 ·rw [td] at hs q2;cases te : tookD e
  ·rw [te] at hs;simp at hs;omega
  ·rw [te] at hs;simp at hs;omega
 ·have:=q2 td
  rw [td] at hs;cases te : tookD e
  ·rw [te] at hs; simp at hs; omega
  ·rw [te] at hs; simp at hs; omega
theorem FairEnd.behind (h : FairEnd Rt ds c N E L puts takes) (hl : OrdL ds ds.length (A ++ (d,n) :: B)) (hp : Pre A c') (hc : c' + 1<=c) : (tookD d = true/\d.a.stamp = c' + 1)\/rk d<=2 * (c' + 1):=by
 obtain ⟨m,e,q1,q2,q3⟩:=h.have (s:=c' + 1) (by have:=hp.1; omega) hc;have hm:=(hl.mem e m).2 ⟨(List.getElem?_eq_some_iff.1 q1).1,q1,(h.took q1 q2).took.2⟩;rcases List.mem_append.1 hm with z | z
 ·have:=hp.2.1 _ z q2
  simp only at this;omega
 ·rcases List.mem_cons.1 z with z | z
  ·simp only [Prod.mk.injEq] at z;left;rw [<- z.1]; exact ⟨q2,q3⟩
  ·right;have hs:=((List.pairwise_cons.1 (List.pairwise_append.1 hl.srt).2.1).1 (e,m) z).1;simp only at hs;unfold rk at hs ⊢;rw [q2] at hs;simp only [if_true] at hs;omega
theorem FairEnd.next (h : FairEnd Rt ds c N E L puts takes) (hl : OrdL ds ds.length (A ++ (d,n) :: B)) (hp : Pre A c') :
  (if tookD d then d.a.stamp = c' + 1 else d.a.stamp = c')/\Pre (A ++ [(d,n)]) (if tookD d then c' + 1 else c')/\Rt (if tookD d then c' + 1 else c') = shNew (Rt c') d.op.kind d.op.key d.op.value/\d.a = { shAns (Rt c') d.op.kind d.op.key d.op.spans with stamp:=d.a.stamp }/\shUpd (Rt c') d.op.kind d.op.key = tookD d:=by
 obtain ⟨n1,n2,n3⟩:=(hl.mem d n).1 (by simp);obtain ⟨p0,p1,p2⟩:=hp;cases ht : tookD d
 ·simp only [Bool.false_eq_true,if_false];have hN : okN Rt c d:=by
   rcases h.fd n d n2 with q | q | q
   ·rw [q.took.1] at ht; cases ht
   ·exact q
   ·exact absurd n3 q.err.1
  obtain ⟨o1,o2,o3,o4,o5⟩:=hN;have hst : d.a.stamp = c':=by
   rcases Int.lt_trichotomy d.a.stamp c' with q | q | q
   ·exfalso;obtain ⟨x,x1,x2,x3⟩:=p2 c' (by omega) (Int.le_refl _);have hs:=((List.pairwise_append.1 hl.srt).2.2 x x1 (d,n) (by simp)).1;simp only at hs;unfold rk at hs;rw [x2,ht] at hs;simp at hs;omega
   ·exact q
   ·exfalso;rcases h.behind hl ⟨p0,p1,p2⟩ (by omega) with z | z
    ·rw [z.1] at ht; cases ht
    ·unfold rk at z;rw [ht] at z;simp at z;omega
  rw [hst] at o3 o5;refine ⟨hst,⟨p0,?_,?_⟩,?_,by rw [hst]; exact o5,o3⟩
  ·intro x hx hxt;rcases List.mem_append.1 hx with q | q
   ·exact p1 x q hxt
   ·rw [List.mem_singleton.1 q] at hxt;simp only at hxt;rw [ht] at hxt; cases hxt
  ·intro s s1 s2;obtain ⟨x,x1,x2⟩:=p2 s s1 s2;exact ⟨x,List.mem_append.2 (.inl x1),x2⟩
  ·unfold shNew;rw [o3]
   rfl
 ·simp only [if_true];obtain ⟨o0,o1,o2,o3,o4,o5⟩:=h.took n2 ht;have hst : d.a.stamp = c' + 1:=by
   rcases Int.lt_trichotomy d.a.stamp (c' + 1) with q | q | q
   ·exfalso;obtain ⟨x,x1,x2,x3⟩:=p2 d.a.stamp o1 (by omega);obtain ⟨y1,y2,_⟩:=(hl.mem x.1 x.2).1 (List.mem_append.2 (.inl x1));have hnm:=h.uniq y2 n2 x2 ht x3;have hs:=((List.pairwise_append.1 hl.srt).2.2 x x1 (d,n) (by simp)).2;simp only at hs;unfold rk at hs;rw [x2,ht,x3] at hs;omega
   ·exact q
   ·exfalso;rcases h.behind hl ⟨p0,p1,p2⟩ (by omega) with z | z
    ·omega
    ·unfold rk at z;rw [ht] at z;simp at z;omega
  have e1 : d.a.stamp - 1 = c':=by omega
  rw [e1] at o3 o4 o5;refine ⟨hst,⟨by omega,?_,?_⟩,by rw [<- hst]; exact o4,o5,o3⟩
  ·intro x hx hxt;rcases List.mem_append.1 hx with q | q
   ·have:=p1 x q hxt; omega
   ·rw [List.mem_singleton.1 q];show d.a.stamp<=_;omega
  ·intro s s1 s2;rcases (show s<=c'\/s = c' + 1 by omega) with q | q
   ·obtain ⟨x,x1,x2⟩:=p2 s s1 q;exact ⟨x,List.mem_append.2 (.inl x1),x2⟩
   ·exact ⟨(d,n),List.mem_append.2 (.inr (List.mem_singleton_self _)),ht,by show d.a.stamp = s; omega⟩
theorem FairEnd.last (h : FairEnd Rt ds c N E L puts takes) (hl : OrdL ds ds.length A) (hp : Pre A c') : c' = c:=by
 obtain ⟨p0,p1,p2⟩:=hp;rcases Int.lt_trichotomy c' c with q | q | q
 ·exfalso;obtain ⟨m,e,q1,q2,q3⟩:=h.have (s:=c' + 1) (by omega) (by omega);have hm:=(hl.mem e m).2 ⟨(List.getElem?_eq_some_iff.1 q1).1,q1,(h.took q1 q2).took.2⟩
  have:=p1 _ hm q2
  simp only at this;omega
 ·exact q
 ·exfalso;have hc:=h.c0;obtain ⟨x,x1,x2,x3⟩:=p2 c' (by omega) (Int.le_refl _);obtain ⟨_,y2,_⟩:=(hl.mem x.1 x.2).1 x1
  have:=(h.took y2 x2).2.2.1
  omega
theorem Pre.none : Pre [] 0:=⟨Int.le_refl _,fun x hx=>(List.not_mem_nil hx).elim,fun s h1 h2=>by omega⟩
theorem OrdJ.fair (h : OrdJ T N E L D) (hst : Still 0 D) : ∃ Rt,FairEnd Rt D.deeds D.P.clock N E L D.puts D.takes:=by
 obtain ⟨C,Rt,Vt,u,hC,hV,hR,hO⟩:=h.ex;refine ⟨Rt,hO.c0,hO.r0,hO.fd,hO.td,fun s=>?_,hO.sm,hO.pd⟩
 have:=hO.sc s
 have hz : count (tkT s) D.P.ts = 0:=by
  unfold count;rw [List.filter_eq_nil_iff.2]
  ·rfl
  ·intro t ht;obtain ⟨j,hj⟩:=List.mem_iff_getElem?.1 ht;rw [tkT_idle (hst j t (Nat.zero_le _) hj)]; decide
 rw [hz] at this;omega
end
end
section
section
variable {C : Int->Prop} {Rt : Int->List (Int × Int)} {Vt : Int->Int->Prop} {i j : Nat} {t t0 : PThread} {P : PSt} {N E L T : Int} {ps : List (Int × Int)} {D D' : PlD} {o : OpV}
theorem invv_step (h : Inv C P) (hV : InvV C Rt Vt P) (hR : InvR Rt Vt P) (ht : P.ts[i]? = some t) (hb : t.busy = true) : ∃ Rt' Vt',InvV (nextC C t) Rt' Vt' (P.step i t).1/\InvR Rt' Vt' (P.step i t).1/\∀ T,T<=P.clock->Rt' T = Rt T:=by
 rcases hV.step h ht hb with ⟨_,q⟩ | ⟨_,_,_,_,q,_⟩
 ·exact ⟨Rt,Vt,q,hR.step hV h ht hb (fun _ _=>⟨rfl,rfl⟩),fun _ _=>rfl⟩
 ·have hold : ∀ T,T<=P.clock->nextR Rt P t T = Rt T/\nextV Vt P t T = Vt T:=by
   intro T hT;unfold nextR nextV;rw [if_neg (by omega),if_neg (by omega)];exact ⟨rfl,rfl⟩
  exact ⟨_,_,q,hR.step hV h ht hb hold,fun T hT=>(hold T hT).1⟩
theorem solo_run {Lz : Nat} : ∀ (n : Nat) (P : PSt) (C : Int->Prop) (Rt : Int->List (Int × Int)) (Vt : Int->Int->Prop) (t : PThread),Inv C P->InvV C Rt Vt P->InvR Rt Vt P->P.ts[0]? = some t->t.busy = true->(t.work.kind = 3\/t.work.kind = 4)->(t.work.next = 4\/t.work.next = 13)->(∀ (j : Nat) u,1<=j->P.ts[j]? = some u->u.busy = false)->P.mem.ns.length = Lz->phi Lz P.mem C 0 t<=n->∃ m : Nat,m < n/\(∀ j,j < m->P.how 0 j = 1)/\P.how 0 m = 3/\((P.iter 0 m).th 0).work.ans = readAns (Rt t.work.time) t.work:=by
 intro n
 induction n with
 | zero =>
  intro P C Rt Vt t h hV hR ht hb hk hn _ _ hph;exfalso;rcases hn with hn | hn
  ·rw [phi_r4 hb hk hn] at hph; omega
  ·rw [phi_r13 hb hk hn] at hph; omega
 | succ n ih =>
  intro P C Rt Vt t h hV hR ht hb hk hn hid hlz hph;have hth:=th_of ht;rcases hn with hn | hn
  ·have hmv : (P.step 0 t).2≠2:=by
    obtain ⟨j,u,q1,q2,q3,_⟩:=h.live ht hb;have hj : j = 0:=by
     by_cases e : 1<=j
     ·rw [hid j u e q1] at q2; cases q2
     ·omega
    subst hj;rw [ht] at q1; injection q1 with q1; subst q1
    exact q3
   obtain ⟨t2,hnr⟩:=h.near hlz ht hb hmv;obtain ⟨k,hs,hkk⟩ : ∃ k : PWork,P.step 0 t = (P.setW 0 k,1)/\k.kind = t.work.kind/\k.key = t.work.key/\k.spans = t.work.spans/\k.time = t.work.time/\(k.next = 4\/k.next = 13):=by
    have hsm:=step_mid (i:=0) (t:=t) P (by omega) (by omega);rw [if_pos hk] at hsm;rw [hsm] at hmv ⊢;unfold PSt.read at hmv ⊢;simp only at hmv ⊢;split
    ·next e=>rw [if_pos e] at hmv; exact absurd rfl hmv
    ·refine ⟨_,rfl,?_⟩;split
     ·unfold PSt.lookUp;split
      ·exact ⟨rfl,rfl,rfl,rfl,.inl hn⟩
      ·exact ⟨rfl,rfl,rfl,rfl,.inr rfl⟩
     ·unfold PSt.scan;simp only;split
      ·exact ⟨rfl,rfl,rfl,rfl,.inr rfl⟩
      ·exact ⟨rfl,rfl,rfl,rfl,.inl hn⟩
   have hi:=(List.getElem?_eq_some_iff.1 ht).1;have hts : (P.step 0 t).1.ts = P.ts.set 0 { t with work:=k }:=by rw [hs]; show (P.setW 0 k).ts = _; rw [setW_to P ht]
   have ht2 : t2 = { t with work:=k }:=by
    have e:=hnr.ts;rw [hts] at e;have : (P.ts.set 0 { t with work:=k })[0]? = (P.ts.set 0 t2)[0]?:=by rw [e]
    simp [hi] at this;exact this.symm
   have hlt:=hnr.lt 0 0 (Nat.le_refl _);rw [ht2] at hlt;obtain ⟨Rt',Vt',g1,g2,g3⟩:=invv_step h hV hR ht hb;have htm:=((h.th 0 t ht).tm hb (by omega)).1;obtain ⟨k1,k2,k3,k4,k5⟩:=hkk;obtain ⟨m,m1,m2,m3,m4⟩:=ih (P.step 0 t).1 (nextC C t) Rt' Vt' { t with work:=k } (h.step ht hb) g1 g2 (by rw [hts]; simp [hi]) hb (by show k.kind = 3\/k.kind = 4; rw [k1]; exact hk) k5 (fun j u hj hu=>by
    rw [hts,List.getElem?_set_ne (by omega)] at hu;exact hid j u hj hu) (by rw [step_len h.kind]; exact hlz) (by omega)
   have hit : ∀ j,P.iter 0 (j + 1) = (P.step 0 t).1.iter 0 j:=by
    intro j
    induction j with
    | zero=>show ((P.iter 0 0).step 0 ((P.iter 0 0).th 0)).1 = _; show (P.step 0 (P.th 0)).1 = _; rw [hth]; rfl
    | succ j ihj =>
     show ((P.iter 0 (j + 1)).step 0 ((P.iter 0 (j + 1)).th 0)).1 = _;rw [ihj]; rfl
   have hho : ∀ j,P.how 0 (j + 1) = (P.step 0 t).1.how 0 j:=by
    intro j;unfold PSt.how;rw [hit]
   refine ⟨m + 1,by omega,?_,by rw [hho]; exact m3,?_⟩
   ·intro j hj;cases j with
    | zero=>show (P.step 0 (P.th 0)).2 = 1; rw [hth,hs]
    | succ j=>rw [hho]; exact m2 j (by omega)
   ·rw [hit,m4];show readAns (Rt' k.time) k = _;rw [k4,g3 _ htm];unfold readAns;rw [k1,k2,k3,k4]
  ·refine ⟨0,by omega,fun j hj=>by omega,?_,?_⟩
   ·show (P.step 0 (P.th 0)).2 = 3;rw [hth];unfold PSt.step;simp only [hn]
   ·show (P.th 0).work.ans = _;rw [hth];exact (hR 0 t ht).an hb hk hn
end
end
section
open Go.ChangeShapes Go.WideShapes Go.ChangeAt Go.RowKit Go.Joins Go.Deep
theorem Tryz.own : ownKnob Tryz.prog.godebug = none:=by kernel_rfl
theorem Tryz.laidOut : laidOutB Tryz.prog = true:=by kernel_rfl
theorem Tryz.cellsConfig : Tryz.prog.cellsOf 23 = 5:=by kernel_rfl
theorem Tryz.cellsAct : Tryz.prog.cellsOf 29 = 7:=by kernel_rfl
theorem Tryz.cellsSpan : Tryz.prog.cellsOf 81 = 2:=by kernel_rfl
theorem Tryz.cellsSpans : Tryz.prog.cellsOf 27 = 1:=by kernel_rfl
theorem Tryz.cellsInt : Tryz.prog.cellsOf 3 = 1:=by kernel_rfl
theorem list5 {α : Type} {l : List α} (h : l.length = 5) : ∃ a b c d e,l = [a,b,c,d,e]:=by
 match l,h with
 | [a,b,c,d,e],_=>exact ⟨a,b,c,d,e,rfl⟩
theorem array5 {α : Type} {l : Array α} (h : l.size = 5) : ∃ a b c d e,l = #[a,b,c,d,e]:=by
 obtain ⟨l⟩:=l;obtain ⟨a,b,c,d,e,rfl⟩:=list5 (l:=l) h;exact ⟨a,b,c,d,e,rfl⟩
section
variable {H : Type} {enc : TypeId × Value->H} {P : Program} {w : World} {base : Nat} {spare : Nat->Bool} {held : Bool}
theorem trod_struct5 {t : TypeId} {f0 f1 f2 f3 f4 : Field} {fuel : Nat} {cs : List Value} {x : DataW H × List MemPlace} (ht : P.underlying t = some (.struct #[f0,f1,f2,f3,f4])) (h : DataW.trod enc P w base spare held fuel t cs = some x) :
  ∃ y0 y1 y2 y3 y4 n,DataW.trod enc P w base spare held n f0.type ((cs.drop f0.offset).take (P.cellsOf f0.type)) = some y0 /\
   DataW.trod enc P w base spare held n f1.type ((cs.drop f1.offset).take (P.cellsOf f1.type)) = some y1/\DataW.trod enc P w base spare held n f2.type ((cs.drop f2.offset).take (P.cellsOf f2.type)) = some y2 /\
   DataW.trod enc P w base spare held n f3.type ((cs.drop f3.offset).take (P.cellsOf f3.type)) = some y3/\DataW.trod enc P w base spare held n f4.type ((cs.drop f4.offset).take (P.cellsOf f4.type)) = some y4:=by
 obtain ⟨xs,n,_,rfl,hl,hlen,hf⟩:=DataW.trod_struct ht h;obtain ⟨y0,y1,y2,y3,y4,rfl⟩:=list5 (l:=xs) hlen;exact ⟨y0,y1,y2,y3,y4,n,by simpa using hf 0 f0 rfl,by simpa using hf 1 f1 rfl,by simpa using hf 2 f2 rfl,by simpa using hf 3 f3 rfl,by simpa using hf 4 f4 rfl⟩
def rawI (c : Int) : Prop:=-9223372036854775808<=c/\c<=9223372036854775807
theorem ints5 {r : Reach} {b0 : Nat} {t ti : TypeId} {f0 f1 f2 f3 f4 : Field} {v : Value} {d : DataW H} {p : List MemPlace} (hs : P.underlying t = some (.struct #[f0,f1,f2,f3,f4])) (hone : oneCellFields P #[f0,f1,f2,f3,f4] = true) (hC : P.cellsOf t = 5)
  (hi : P.underlying ti = some (.int .i64)) (h0 : f0.type = ti) (h1 : f1.type = ti) (h2 : f2.type = ti) (h3 : f3.type = ti) (h4 : f4.type = ti)
  (hv : Value.okWide P w r b0 t v) (h : DataW.Trod enc P w base spare held t v d p) : ∃ k t n e l : Int,v = cfg k t n e l/\rawI t/\rawI n/\rawI e/\rawI l:=by
 obtain ⟨cs,rfl,hsz⟩:=okWide_struct hs hv;obtain ⟨c0,c1,c2,c3,c4,rfl⟩:=array5 (hsz.trans hC);obtain ⟨fuel,hf⟩:=h;obtain ⟨y0,y1,y2,y3,y4,n,g0,g1,g2,g3,g4⟩:=trod_struct5 hs hf;obtain ⟨o0,k0⟩:=hone_of hone 0 f0 rfl;obtain ⟨o1,_⟩:=hone_of hone 1 f1 rfl;obtain ⟨o2,_⟩:=hone_of hone 2 f2 rfl;obtain ⟨o3,_⟩:=hone_of hone 3 f3 rfl;obtain ⟨o4,_⟩:=hone_of hone 4 f4 rfl;rw [h0] at k0;simp only [o0,o1,o2,o3,o4,h0,h1,h2,h3,h4,k0] at g0 g1 g2 g3 g4;obtain ⟨a0,e0,_,_⟩:=DataW.trod_int hi g0;obtain ⟨a1,e1,_,wf1⟩:=DataW.trod_int hi g1;obtain ⟨a2,e2,_,wf2⟩:=DataW.trod_int hi g2;obtain ⟨a3,e3,_,wf3⟩:=DataW.trod_int hi g3;obtain ⟨a4,e4,_,wf4⟩:=DataW.trod_int hi g4;have b1:=Go.bounds_i64 wf1;have b2:=Go.bounds_i64 wf2;have b3:=Go.bounds_i64 wf3;have b4:=Go.bounds_i64 wf4;simp [Value.cells] at e0 e1 e2 e3 e4;subst e0 e1 e2 e3 e4;exact ⟨a0,a1,a2,a3,a4,rfl,b1,b2,b3,b4⟩
end
theorem cfg_open {H : Type} {enc : TypeId × Value->H} {W : World} {r : Reach} {b0 base : Nat} {spare : Nat->Bool} {held : Bool} {v : Value} {d : DataW H} {p : List MemPlace}
  (hv : Value.okWide Tryz.prog W r b0 23 v) (h : DataW.Trod enc Tryz.prog W base spare held 23 v d p) : ∃ k t n e l : Int,v = cfg k t n e l/\rawI t/\rawI n/\rawI e/\rawI l :=
 ints5 Tryz.underlying23 (by kernel_rfl) Tryz.cellsConfig Tryz.underlying3 rfl rfl rfl rfl rfl hv h
theorem bulk_one {H : Type} (d : DataW H) : 1<=Rows.uptoBulk d:=by
 cases d with
 | lit l=>cases l <;> simp [Rows.uptoBulk]
 | nil=>simp [Rows.uptoBulk]
 | ptr d=>simp [Rows.uptoBulk]
 | slice elems spare=>simp [Rows.uptoBulk]
 | agg parts=>simp [Rows.uptoBulk]
 | iface t d=>simp [Rows.uptoBulk]
 | map entries=>simp [Rows.uptoBulk]
 | held h=>simp [Rows.uptoBulk]
theorem bulk_part {H : Type} {d : DataW H} : ∀ {l : List (DataW H)},d ∈ l->Rows.uptoBulk d<=Rows.uptoBulkAll l
 | [],h=>by cases h
 | x :: r,h=>by
  simp only [Rows.uptoBulkAll];rcases List.mem_cons.1 h with rfl | e
  ·omega
  ·have:=bulk_part e; omega
theorem bulk_len {H : Type} : ∀ (l : List (DataW H)),l.length<=Rows.uptoBulkAll l
 | []=>by simp
 | x :: r=>by have h1:=bulk_one x; have h2:=bulk_len r; simp only [Rows.uptoBulkAll,List.length_cons]; omega
theorem acts_open {H : Type} {enc : TypeId × Value->H} {W : World} {r : Reach} {b0 base : Nat} {spare : Nat->Bool} {held : Bool} {v : Value} {d : DataW H} {p : List MemPlace}
  (hv : Value.okWide Tryz.prog W r b0 24 v) (h : DataW.Trod enc Tryz.prog W base spare held 24 v d p) :
  ∃ sa n c,∃ acts : List ActD,v = .slice sa n c/\n<=Rows.uptoBulk d/\acts.length = n/\∀ i a,acts[i]? = some a->ActIn W sa i a/\a.sn<=Rows.uptoBulk d:=by
 obtain ⟨fuel,hf⟩:=h;obtain ⟨sa0,n0,c0,rfl⟩:=okWide_slice Tryz.underlying24 hv;obtain ⟨sa,n,c,acts,e,h1,h2,h3⟩:=script_open (B:=Rows.uptoBulk) Tryz.underlying24 Tryz.underlying29 Tryz.cellsAct rfl rfl rfl rfl rfl rfl rfl rfl rfl rfl rfl rfl rfl rfl Tryz.cellsInt Tryz.underlying3 Tryz.cellsSpans
  Tryz.underlying27 Tryz.underlying81 Tryz.cellsSpan rfl rfl rfl rfl
  (fun elems sp=>by have:=bulk_len elems; simp only [Rows.uptoBulk]; omega) (fun elems sp d hd=>by have:=bulk_part hd; simp only [Rows.uptoBulk]; omega) (fun parts d hd=>by have:=bulk_part hd; simp only [Rows.uptoBulk]; omega) hf
 simp [Value.cells] at e;obtain ⟨rfl,rfl,rfl⟩:=e;exact ⟨_,_,_,acts,rfl,h1,h2,h3⟩
end
section
open Go.ChangeShapes Go.WideShapes Go.ChangeAt Go.RowKit Go.Joins Go.Deep
def LawHolds (fn : Nat) : Prop:=∀ (k t n e l : Int) (W : World) (sa : Option Addr) (c : Nat) (acts : List ActD),rawI t->rawI n->rawI e->rawI l->acts.length<=2 ^ 20->(∀ i a,acts[i]? = some a->ActIn W sa i a/\a.sn<=2 ^ 20) ->
 Calls Tryz.prog fn #[cfg k t n e l,.slice sa acts.length c] W fun r W'=>r = .returned (.bool true)/\Fr (fun _=>False) W W'
end
section
open Go.RowKit
section
variable {W w w1 : World} {own : Own} {pb : Nat} {D : PlD} {f b : Nat} {J Q : PlD->Prop} {T Nn E L : Int}
end
end
section
open Go.RowKit
section
variable {own : Own} {z : Nat} {w w' : World} {pb b : Nat} {D D1 : PlD} {i j : Nat}
theorem isUpdate_calls (kind key value : Int) (sv : Value) (w : World) :
  Calls Tryz.prog 33 #[opVal kind key value sv] w fun r w'=>r = .returned (.bool (kind == 1 || kind == 2))/\Fr (fun _=>False) w w':=by
 unfold opVal;have HF:=(mkH (∀ o,Fr (fun _=>False) w (w.alloc o)) <|fun o=>(Fr.refl _ _).alloc _);by_cases h1 : kind = 1
 ·subst h1
  go_enter Tryz.func33,Tryz.ntmps33
  go_wp2;go_ret;exact ⟨rfl,HF.out _⟩
 ·have h1' : (kind == 1) = false:=by simpa using h1
  by_cases h2 : kind = 2
  ·subst h2;clear h1 h1'
   go_enter Tryz.func33,Tryz.ntmps33
   go_wp2;go_ret;exact ⟨rfl,HF.out _⟩
  ·have h2' : (kind == 2) = false:=by simpa using h2
   have HE : Hid ((kind == 1 || kind == 2) = false):=by show _ = _; simp [h1',h2']
   clear h1 h2
   go_enter Tryz.func33,Tryz.ntmps33
   go_wp2;go_ret;exact ⟨ret_bool HE.out.symm,HF.out _⟩
end
end
section
open Go.RowKit
section
variable {own : Own} {z : Nat} {w w' : World} {pb : Nat} {D D1 : PlD} {i j : Nat}
theorem whole_calls (w : World) : Calls Tryz.prog 28 #[] w fun e w'=>∃ va vc,e = .returned (opVal 4 0 0 (.slice va 1 vc))/\OwnSpans w w' (.slice va 1 vc) [(0,1099511627776)]:=by
 go_enter Tryz.func28,Tryz.ntmps28
 go_wp2_with fail;generalize hw1 : World.alloc (World.alloc w _) _ = w1;have hA : At w1 w.heap.size [.int .i64 4,.int .i64 0,.int .i64 0,.slice (some ⟨w.heap.size + 1,0,none⟩) 1 1] 53:=by subst hw1; exact (At.new w _ _).alloc _
 have hB : At w1 (w.heap.size + 1) [.int .i64 0,.int .i64 1099511627776] 81:=by subst hw1; exact At.newAt (by simp) _ _
 have hF : Fr (fun _=>False) w w1:=by subst hw1; exact ((Fr.refl _ _).alloc _).alloc _
 have f0:=hA.cell;have HO : OwnSpans w w1 (.slice (some ⟨w.heap.size + 1,0,none⟩) 1 1) [(0,1099511627776)]:=by
  refine ⟨⟨rfl,.inr ⟨w.heap.size + 1,1,_,rfl,Nat.zero_le _,hB,Nat.le_refl _,by unfold maxLen; decide,rfl,rfl⟩⟩,?_,hF⟩;intro k hk;simp [Value.ownBlock] at hk;omega
 clear hw1 hA hB hF;refine bodyPost_ret (v:=opVal 4 0 0 (.slice (some ⟨w.heap.size + 1,0,none⟩) 1 1)) (by simp [results,Tryz.results28,go_sem,opVal,f0]) rfl ⟨_,_,rfl,HO⟩
theorem took_calls (kd ky va : Int) (sv : Value) (e : Int) (did : Bool) (av st : Int) (lv : Value) (f : Int) (w : World) (sa la : Option Addr) (sn sc ln lc : Nat) (hs : sv = .slice sa sn sc) (hv : lv = .slice la ln lc) :
  Calls Tryz.prog 39 #[.agg #[.int .i64 kd,.int .i64 ky,.int .i64 va,sv,.int .i64 e,.bool did,.int .i64 av,.int .i64 st,lv,.int .i64 f]] w fun r w'=>r = .returned (.bool ((kd == 1 || kd == 2) && did))/\Fr (fun _=>False) w w':=by
 subst hv hs;have HU:=(mkH (∀ w,Calls Tryz.prog 33 #[opVal kd ky va (.slice sa sn sc)] w _) <|fun w=>isUpdate_calls kd ky va (.slice sa sn sc) w);unfold opVal at HU
 go_enter Tryz.func39,Tryz.ntmps39
 go_wp2_with fail;refine Calls.mono (HU.out _) ?_;rintro r w1 ⟨rfl,hF1⟩;have hA : At w1 w.heap.size [.int .i64 kd,.int .i64 ky,.int .i64 va,.slice sa sn sc,.int .i64 e,.bool did,.int .i64 av,.int .i64 st,.slice la ln lc,.int .i64 f] 75:=hF1.at (At.new w _ _) (fun h=>h);have hac:=hA.cell;have HF:=(mkH (Fr (fun _=>False) w w1) <|((Fr.refl _ _).alloc _).trans hF1);clear hA hF1 HU;obtain ⟨b,hb⟩ : ∃ b,Hid ((kd == 1 || kd == 2) = b):=⟨_,rfl⟩;rw [hb.out];cases b
 ·go_wp2;go_ret;exact ⟨by rw [hb.out]; rfl,HF.out⟩
 ·go_wp2;go_ret;exact ⟨by rw [hb.out]; simp,HF.out⟩
end
end
section
open Go.RowKit
section
variable {D D' : PlD} {i j : Nat} {t : PThread} {T N E L : Int}
theorem proper_whole : properB 4 0 [(0,1099511627776)] = true:=by decide
end
end
section
open Go.RowKit
section
variable {own : Own} {z : Nat} {w w' : World} {pb b : Nat} {D D' : PlD} {i j : Nat} {t : PThread} {T N E L : Int} {ps : List (Int × Int)} {o : OpV}
end
end
section
open Go.RowKit
section
variable {own : Own} {z : Nat} {w w' : World} {pb b : Nat} {D D' : PlD} {i j : Nat} {t : PThread} {T N E L : Int} {ps : List (Int × Int)} {o : OpV}
theorem PlAt.deedCells (h : PlAt own z w pb D) (hd : D.deeds≠[]) : ∃ g c,D.dv = .slice (some ⟨g,0,none⟩) D.deeds.length c/\∀ (k : Nat) d,D.deeds[k]? = some d->(∃ sa sn sc la ln lc,d.op.sv = .slice sa sn sc/\d.av = .slice la ln lc)/\∀ q v,d.cells[q]? = some v->w.cell? ⟨g,k * 10 + q,none⟩ = some v:=by
 have hl : 0 < D.deeds.length:=List.length_pos_iff.2 hd;obtain ⟨g,c,hv,_⟩:=ownsRow_shape h.deeds.row (by omega);have hr:=h.deeds.row;rw [hv] at hr;refine ⟨g,c,hv,?_⟩;intro k d hk;refine ⟨?_,?_⟩
 ·have hdk:=h.dok d (List.mem_of_getElem? hk);obtain ⟨sa,sc,h1⟩:=ownsShape hdk.1.row;obtain ⟨ins,_,h2,_⟩:=hdk.2.1.top;obtain ⟨la,lc,h3⟩:=ownsShape h2.row;exact ⟨sa,_,sc,la,_,lc,h1,h3⟩
 ·intro q v hq;exact ownsRow_cell hr ((tab_get DeedV.cells 10 deed_len D.deeds k q d hk (by have:=(List.getElem?_eq_some_iff.1 hq).1; simpa [deed_len] using this)).trans hq)
end
end
section
open Go.RowKit
section
variable {C : Int->Prop} {Rt : Int->List (Int × Int)} {Vt : Int->Int->Prop} {P : PSt} {i j m : Nat} {t t' : PThread} {N E L T : Int} {D D' : PlD} {o : OpV} {own : Own} {z : Nat} {w w' : World} {pb b : Nat}
theorem step_early (P : PSt) (h1 : 1<=t.work.next) (h3 : t.work.next<=3) : (P.step i t).2 = 1/\∃ t',(P.step i t).1.ts = P.ts.set i t'/\t'.busy = t.busy/\t'.work.kind = t.work.kind/\t'.work.next = t.work.next + 1:=by
 rcases (show t.work.next = 1\/t.work.next = 2\/t.work.next = 3 by omega) with hn | hn | hn
 ·have hs : P.step i t = (P.setT i { t with slot:=1,work:={ t.work with next:=2 } },1):=by unfold PSt.step; simp only [hn]
  exact ⟨by rw [hs],{ t with slot:=1,work:={ t.work with next:=2 } },by rw [hs]; rfl,rfl,rfl,by rw [hn]⟩
 ·have hs : P.step i t = (P.setT i { t with work:={ t.work with time:=P.clock,next:=3 } },1):=by unfold PSt.step; simp only [hn]
  exact ⟨by rw [hs],{ t with work:={ t.work with time:=P.clock,next:=3 } },by rw [hs]; rfl,rfl,rfl,by rw [hn]⟩
 ·have hs : P.step i t = (P.setT i { t with slot:=2,work:=t.work.home },1):=by unfold PSt.step; simp only [hn]
  exact ⟨by rw [hs],{ t with slot:=2,work:=t.work.home },by rw [hs]; rfl,rfl,rfl,by rw [hn]; rfl⟩
theorem iter_succ (ht : P.ts[i]? = some t) : ∀ j,P.iter i (j + 1) = (P.step i t).1.iter i j:=by
 have hth:=th_of ht;intro j
 induction j with
 | zero=>show (P.step i (P.th i)).1 = _; rw [hth]; rfl
 | succ j ihj =>
  show ((P.iter i (j + 1)).step i ((P.iter i (j + 1)).th i)).1 = _;rw [ihj]; rfl
theorem how_succ (ht : P.ts[i]? = some t) (j : Nat) : P.how i (j + 1) = (P.step i t).1.how i j:=by
 unfold PSt.how;rw [iter_succ ht]
theorem late_run {Lz : Nat} (hL : 2<=Lz) : ∀ (k : Nat) (P : PSt) (C : Int->Prop) (Rt : Int->List (Int × Int)) (Vt : Int->Int->Prop) (t : PThread),Inv C P->InvV C Rt Vt P->InvR Rt Vt P->P.ts[0]? = some t->t.busy = true->(t.work.kind = 3\/t.work.kind = 4)->t.work.next + k = 4->1<=t.work.next->(∀ (j : Nat) u,1<=j->P.ts[j]? = some u->u.busy = false)->P.mem.ns.length = Lz->∃ m : Nat,m<=Lz + k/\(∀ j,j < m->P.how 0 j = 1)/\P.how 0 m = 3:=by
 intro k
 induction k with
 | zero =>
  intro P C Rt Vt t h hV hR ht hb hk hn _ hid hlz;have hn4 : t.work.next = 4:=by omega
  have hwp:=wp_le (L:=Lz) (by omega) P.mem C (rx t.work);obtain ⟨m,m1,m2,m3,_⟩:=solo_run (Lz + 1) P C Rt Vt t h hV hR ht hb hk (.inl hn4) hid hlz (by rw [phi_r4 hb hk hn4]; omega);exact ⟨m,by omega,m2,m3⟩
 | succ k ih =>
  intro P C Rt Vt t h hV hR ht hb hk hn h1 hid hlz;have hi:=(List.getElem?_eq_some_iff.1 ht).1;obtain ⟨e1,t',e2,e3,e4,e5⟩:=step_early (i:=0) P h1 (by omega);obtain ⟨Rt',Vt',g1,g2,_⟩:=invv_step h hV hR ht hb;obtain ⟨m,m1,m2,m3⟩:=ih (P.step 0 t).1 (nextC C t) Rt' Vt' t' (h.step ht hb) g1 g2 (by rw [e2]; simp [hi]) (by rw [e3]; exact hb) (by rw [e4]; exact hk) (by omega) (by omega) (fun j u hj hu=>by
   rw [e2,List.getElem?_set_ne (by omega)] at hu;exact hid j u hj hu) (by rw [step_len h.kind]; exact hlz)
  refine ⟨m + 1,by omega,?_,by rw [how_succ ht]; exact m3⟩;intro j hj;cases j with
  | zero=>show (P.step 0 (P.th 0)).2 = 1; rw [th_of ht]; exact e1
  | succ j=>rw [how_succ ht]; exact m2 j (by omega)
theorem OrdJ.same (h : OrdJ T N E L D) (e1 : D'.P = D.P) (e2 : D'.ops = D.ops) (e3 : D'.frm = D.frm) (e4 : D'.deeds = D.deeds) (e5 : D'.puts = D.puts) (e6 : D'.takes = D.takes) (e7 : D'.bs = D.bs) (e8 : D'.k = D.k/\D'.t = D.t/\D'.n = D.n/\D'.e = D.e/\D'.l = D.l) : OrdJ T N E L D':=by
 obtain ⟨⟨C,Rt,Vt,u,hC,hV,hR,hO⟩,h2,h3,h4,h5,h6,h7⟩:=h;refine ⟨⟨C,Rt,Vt,u,by rw [e1]; exact hC,by rw [e1]; exact hV,by rw [e1]; exact hR,?_⟩,by rw [e1]; exact h2,by rw [e1]; exact h3,by rw [e1]; exact h4,h5,by unfold PlD.ok at *; rw [e1,e7]; exact h6,cfg_trans e8 h7⟩;obtain ⟨o1,o2,o3,o4,o5,o6,o7,o8,o9,o10,o11,o12⟩:=hO;exact ⟨by rw [e1]; exact o1,o2,by rw [e1]; exact o3,by rw [e1,e5,e6]; exact o4,by rw [e1,e5,e6]; exact o5,by rw [e1]; exact o6,by rw [e1,e2,e3,e4,e5,e6]; exact o7,by rw [e1,e4,e5,e6]; exact o8,by rw [e4]; exact o9,by rw [e1,e4]; exact o10,by rw [e1]; exact o11,by rw [e4]; exact o12⟩
theorem OrdJ.iter (h : OrdJ T N E L D) (ht : D.P.ts[i]? = some t) (hb : t.busy = true) : ∀ (j : Nat),(∀ q,q < j->D.P.how i q = 1)->∃ D1,OrdJ T N E L D1/\D1.P = D.P.iter i j/\D1.ops = D.ops/\D1.frm = D.frm/\D1.puts = D.puts/\D1.takes = D.takes/\D1.bs = D.bs/\D1.deeds = D.deeds/\(D1.k = D.k/\D1.t = D.t/\D1.n = D.n/\D1.e = D.e/\D1.l = D.l)/\(∃ t1,D1.P.ts[i]? = some t1/\t1.busy = true)/\(∀ q,q≠i->D1.P.ts[q]? = D.P.ts[q]?)
 | 0,_=>⟨D,h,rfl,rfl,rfl,rfl,rfl,rfl,rfl,⟨rfl,rfl,rfl,rfl,rfl⟩,⟨t,ht,hb⟩,fun _ _=>rfl⟩
 | j + 1,hq=>by
  obtain ⟨D1,h1,h2,h3,h4,h5,h6,h7,h8,h9,⟨t1,h10,h11⟩,h12⟩:=OrdJ.iter h ht hb j (fun q hq'=>hq q (by omega));have hhow : (D1.P.step i t1).2 = 1:=by
   have:=hq j (by omega)
   unfold PSt.how at this;rw [<- h2,th_of h10] at this;exact this
  have hst : Stepped D1 i t1 { D1 with P:=(D1.P.step i t1).1,N:=D1.N + 1 }:=by
   refine ⟨rfl,rfl,⟨rfl,rfl,rfl,rfl,rfl⟩,rfl,rfl,⟨rfl,rfl⟩,?_,fun _=>rfl,fun q=>?_⟩
   ·rw [if_neg (by omega)]
   ·omega
  obtain ⟨C,_,_,_,hC,_⟩:=h1.ex;have hi:=(List.getElem?_eq_some_iff.1 h10).1;obtain ⟨t2,s1,_,s3⟩:=step_work hC.kind h10 h11;refine ⟨_,h1.step h10 h11 hst,?_,h3,h4,h5,h6,h7,h8,h9,⟨t2,?_,(s3 (by omega)).1⟩,?_⟩
  ·show (D1.P.step i t1).1 = ((D.P.iter i j).step i ((D.P.iter i j).th i)).1;rw [<- h2,th_of h10]
  ·show (D1.P.step i t1).1.ts[i]? = _;rw [s1]; simp [hi]
  ·intro q hne;show (D1.P.step i t1).1.ts[q]? = _;rw [s1,List.getElem?_set_ne (fun e=>hne e.symm)];exact h12 q hne
theorem OrdJ.soloed (h : OrdJ T N E L D) (ht : D.P.ts[i]? = some t) (hb : t.busy = true) (hmv : ∀ j,j < m->D.P.how i j = 1) (hend : D.P.how i m = 3) (hS : Soloed D i m D') (hid : ∀ (j : Nat) u,j≠i->D.P.ts[j]? = some u->u.busy = false) : OrdJ T N E L D'/\Still 0 D':=by
 obtain ⟨D1,h1,h2,h3,h4,h5,h6,h7,h8,h9,⟨t1,h10,h11⟩,h12⟩:=h.iter ht hb m hmv;have hhow : (D1.P.step i t1).2 = 3:=by
  unfold PSt.how at hend;rw [<- h2,th_of h10] at hend;exact hend
 obtain ⟨av,o,f,g1,g2,g3⟩:=hS.deeds;rw [<- h2,th_of h10] at g3;have hP : D'.P = (D1.P.step i t1).1:=by
  rw [hS.P];show ((D.P.iter i m).step i ((D.P.iter i m).th i)).1 = _;rw [<- h2,th_of h10]
 have hst : Stepped D1 i t1 { D1 with P:=(D1.P.step i t1).1,N:=D1.N + 1,bs:=D1.bs.set i false,deeds:=D'.deeds }:=by
  refine ⟨rfl,rfl,⟨rfl,rfl,rfl,rfl,rfl⟩,rfl,rfl,⟨rfl,rfl⟩,?_,fun q=>absurd hhow q,fun _=>⟨av,o,f,by rw [h3]; exact g1,by rw [h4]; exact g2,by show D'.deeds = _; rw [h8]; exact g3⟩⟩;rw [if_pos hhow]
 have hfin:=h1.step h10 h11 hst;obtain ⟨a1,a2,a3,a4,a5⟩:=hS.cfg;obtain ⟨b1,b2,b3,b4,b5⟩:=h9;refine ⟨hfin.same hP (hS.same.1.trans h3.symm) (hS.same.2.1.trans h4.symm) rfl (hS.same.2.2.1.trans h5.symm) (hS.same.2.2.2.trans h6.symm) (by show D'.bs = D1.bs.set i false; rw [h7]; exact hS.bs) ⟨a1.trans b1.symm,a2.trans b2.symm,a3.trans b3.symm,a4.trans b4.symm,a5.trans b5.symm⟩,?_⟩;intro q u _ hu;obtain ⟨C,_,_,_,hC,_⟩:=h1.ex;have hi:=(List.getElem?_eq_some_iff.1 h10).1;obtain ⟨t2,s1,s2,_⟩:=step_work hC.kind h10 h11;rw [hP,s1] at hu;by_cases e : q = i
 ·subst e;rw [List.getElem?_set_self hi] at hu;injection hu with hu
  rw [<- hu]; exact s2 hhow
 ·rw [List.getElem?_set_ne (fun z=>e z.symm),h12 q e] at hu;exact hid q u e hu
structure OrdB (T N E L : Int) (b : Nat) (D : PlD) : Prop where
 j : OrdJ T N E L D
 ex : ∃ t,D.P.ts[0]? = some t/\t.busy = true/\(t.work.kind = 3\/t.work.kind = 4)/\t.work.next = 1
 idle : ∀ (j : Nat) u,j≠0->D.P.ts[j]? = some u->u.busy = false
 bs : D.bs[0]? = some true
 sz : Sz b D
theorem ord_begin (hP : PlAt own z w pb D) (h : OrdJ T N E L D) (hst : Still 0 D) (hs : Sz b D) (hT : 1<=T) (hb : b<=2 ^ 36) (sa : Option Addr) (sc : Nat) (ho : OpOk own (z + 1) w ⟨4,0,0,[(0,1099511627776)],.slice sa 1 sc⟩) :
  Calls Tryz.prog 29 #[pv pb,.int .i64 ((0 : Nat) : Int),opVal 4 0 0 (.slice sa 1 sc)] w fun r w'=>r = .returned (.bool true)/\PlGoes own z w pb w' (OrdB T N E L (b + 1)):=by
 have hl : 0 < D.P.ts.length:=by have:=hP.thr; have:=h.cfg.2.1; omega
 have ht : D.P.ts[0]? = some D.P.ts[0]:=List.getElem?_eq_getElem hl;generalize D.P.ts[0] = t at ht;have htb : t.busy = false:=hst 0 t (Nat.zero_le _) ht;refine (Pbegins_calls hP h.ok ht 4 0 0 [(0,1099511627776)] sa sc ho (by simp) (by unfold Sz at hs; omega)).mono ?_;rintro r w' ⟨rfl,own',D',h1,h2,h3,hB⟩;refine ⟨rfl,own',D',h1,h2,h3,?_⟩;obtain ⟨y1,y2,y3,y4,y5,y6⟩:=hB.yes htb proper_whole;refine ⟨h.begin ht hB,⟨{ t with busy:=true,work:=newWork 4 0 0 [(0,1099511627776)] },?_,rfl,.inr rfl,rfl⟩,?_,?_,hs.begin hB⟩
 ·rw [y1]; simp [PSt.setT,hl]
 ·intro j u hj hu;rw [y1] at hu;have hu' : (D.P.ts.set 0 { t with busy:=true,work:=newWork 4 0 0 [(0,1099511627776)] })[j]? = some u:=hu;rw [List.getElem?_set_ne (by omega)] at hu';exact hst j u (Nat.zero_le _) hu'
 ·rw [y2,List.getElem?_set_self (by rw [hP.bl]; exact hl)]
theorem ord_solo (hP : PlAt own z w pb D) (h : OrdB T N E L b D) (hb : b<=2 ^ 36) (hN : 0<=N/\N<=64) :
  Calls Tryz.prog 30 #[pv pb,.int .i64 ((0 : Nat) : Int)] w fun r w'=>r = .returned (.bool true)/\PlGoes own z w pb w' (fun D'=>OrdJ T N E L D'/\Still 0 D'/\Sz (b + 100) D'/\D'.deeds≠[]):=by
 obtain ⟨t,ht,htb,hk,hn⟩:=h.ex;obtain ⟨C,Rt,Vt,u,hC,hV,hR,hO⟩:=h.j.ex;have hlen:=h.j.len;obtain ⟨m,m1,m2,m3⟩:=late_run (Lz:=N.toNat + 2) (by omega) 3 D.P C Rt Vt t hC hV hR ht htb hk (by omega) (by omega) (fun j u hj hu=>h.idle j u (by omega) hu) hlen;have hs:=h.sz;unfold Sz at hs;refine (Psolo_calls hP (by rw [h.j.cfg.2.2.1]; exact hN) h.bs ht htb (by omega) (by omega) m (by rw [h.j.cfg.2.2.1]; omega) m2 m3).mono ?_;rintro r w' ⟨rfl,own',D',h1,h2,h3,hS⟩;obtain ⟨q1,q2⟩:=h.j.soloed ht htb m2 m3 hS h.idle;obtain ⟨av,o,f,_,_,g3⟩:=hS.deeds;refine ⟨rfl,own',D',h1,h2,h3,q1,q2,?_,by rw [g3]; simp⟩;have hl : D'.deeds.length = D.deeds.length + 1:=by rw [g3]; simp
 have hNN:=hS.N;unfold Sz;rw [hl,hS.same.2.2.1,hS.same.2.2.2];omega
end
end
end Go.Proofs.YtfccelbmacjifabGreat
