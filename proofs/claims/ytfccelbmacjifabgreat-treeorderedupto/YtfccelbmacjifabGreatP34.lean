import Derived.Test.YtfccelbmacjifabGreatP0
import Derived.Test.YtfccelbmacjifabGreatP33
import Derived.Test.YtfccelbmacjifabGreatP26
import Derived.Test.YtfccelbmacjifabGreatP30
import Derived.Test.YtfccelbmacjifabGreatP31
set_option linter.unusedSimpArgs false
set_option maxRecDepth 100000
set_option maxHeartbeats 4000000
namespace Go.Proofs.YtfccelbmacjifabGreat
section
namespace T
def rk (d : DeedV) : Int:=2 * d.a.stamp + (if tookD d then 0 else 1)
def aheadD (a b : DeedV) : Bool:=if a.a.stamp≠b.a.stamp then decide (a.a.stamp < b.a.stamp) else (tookD a && !tookD b)
structure OrdL (ds : List DeedV) (i : Nat) (l : List (DeedV × Nat)) : Prop where
 mem : ∀ d n,(d,n) ∈ l ↔ n < i/\ds[n]? = some d/\d.a.err = 0
 srt : l.Pairwise (fun x y=>rk x.1<=rk y.1/\(rk x.1 < rk y.1\/x.2 < y.2))
def Pre (A : List (DeedV × Nat)) (c : Int) : Prop:=0<=c/\(∀ x ∈ A,tookD x.1 = true->x.1.a.stamp<=c)/\(∀ s,1<=s->s<=c->∃ x ∈ A,tookD x.1 = true/\x.1.a.stamp = s)
structure FairEnd (R : Int->List (Int × Int)) (ds : List DeedV) (c N E L puts takes : Int) : Prop where
 c0 : 0<=c
 r0 : R 0 = []
 fd : ∀ (n : Nat) d,ds[n]? = some d->FairD R c N E L puts takes d
 td : ∀ (n : Nat) d,ds[n]? = some d->0<=d.frm/\d.frm<=n/\(d.a.err = 0->Tm ds d.a.stamp d.frm (tookD d))
 sc : ∀ s,(count (tkD s) ds : Int) = if 1<=s/\s<=c then 1 else 0
 sm : ∀ T,0<=T->T<=c->(R T).length<=N.toNat + 2
 pd : ∀ (n : Nat) d,ds[n]? = some d->properB d.op.kind d.op.key d.op.spans = true
section
variable {R : Int->List (Int × Int)} {puts takes N E L T s c c' : Int} {ds : List DeedV} {d e : DeedV} {D : PlD} {A B : List (DeedV × Nat)} {i n m : Nat}
theorem ahead_rk (a b : DeedV) : aheadD a b = decide (rk a < rk b):=by
 unfold aheadD rk;by_cases h : a.a.stamp = b.a.stamp
 ·rw [if_neg (fun q=>q h),h];cases tookD a <;> cases tookD b <;> simp <;> omega
 ·rw [if_pos h];apply decide_eq_decide.2;cases tookD a <;> cases tookD b <;> simp <;> omega
theorem OrdL.none (ds : List DeedV) : OrdL ds 0 []:=⟨fun d n=>⟨fun q=>(List.not_mem_nil q).elim,fun q=>by omega⟩,List.Pairwise.nil⟩
theorem OrdL.skip {l : List (DeedV × Nat)} (h : OrdL ds i l) (hd : ds[i]? = some d) (he : d.a.err≠0) : OrdL ds (i + 1) l:=by
 refine ⟨fun x n=>?_,h.srt⟩;rw [h.mem];constructor
 ·rintro ⟨a,b⟩; exact ⟨by omega,b⟩
 ·rintro ⟨a,b,c⟩;refine ⟨?_,b,c⟩;rcases Nat.lt_or_ge n i with q | q
  ·exact q
  ·have : n = i:=by omega
   subst this;rw [hd] at b; injection b with b; subst b
   exact absurd c he
theorem OrdL.put (h : OrdL ds i (A ++ B)) (hd : ds[i]? = some d) (he : d.a.err = 0) (hB : ∀ b ∈ B,aheadD d b.1 = true) (hA : ∀ a,A.getLast? = some a->aheadD d a.1 = false) : OrdL ds (i + 1) (A ++ (d,i) :: B):=by
 refine ⟨fun x n=>?_,?_⟩
 ·have hm:=h.mem x n;simp only [List.mem_append,List.mem_cons,Prod.mk.injEq] at hm ⊢;constructor
  ·rintro (q | ⟨rfl,rfl⟩ | q)
   ·obtain ⟨a,b⟩:=hm.1 (.inl q); exact ⟨by omega,b⟩
   ·exact ⟨by omega,hd,he⟩
   ·obtain ⟨a,b⟩:=hm.1 (.inr q); exact ⟨by omega,b⟩
  ·rintro ⟨a,b,c⟩;rcases Nat.lt_or_ge n i with q | q
   ·rcases hm.2 ⟨q,b,c⟩ with z | z
    ·exact .inl z
    ·exact .inr (.inr z)
   ·have : n = i:=by omega
    subst this;rw [hd] at b; injection b with b; subst b
    exact .inr (.inl ⟨rfl,rfl⟩)
 ·have hs:=h.srt;rw [List.pairwise_append] at hs ⊢;obtain ⟨s1,s2,s3⟩:=hs;have hB' : ∀ b ∈ B,rk d < rk b.1:=fun b hb=>by have:=hB b hb; rw [ahead_rk] at this; exact of_decide_eq_true this
  have hA' : ∀ a ∈ A,rk a.1<=rk d:=by
   intro a ha;have hne : A≠[]:=fun q=>by rw [q] at ha; cases ha
   have hl:=hA (A.getLast hne) (List.getLast?_eq_some_getLast hne);rw [ahead_rk] at hl;have hl:=of_decide_eq_false hl;have e : A = A.dropLast ++ [A.getLast hne]:=(List.dropLast_concat_getLast hne).symm;rw [e] at s1 ha;rcases List.mem_append.1 ha with q | q
   ·have:=(List.pairwise_append.1 s1).2.2 a q _ (List.mem_singleton_self _)
    omega
   ·rw [List.mem_singleton.1 q]; omega
  refine ⟨s1,List.pairwise_cons.2 ⟨fun b hb=>?_,s2⟩,?_⟩
  ·have:=hB' b hb
   exact ⟨by show rk d<=_; omega,.inl this⟩
  ·intro a ha b hb;rcases List.mem_cons.1 hb with rfl | hb
   ·refine ⟨hA' a ha,.inr ?_⟩;exact ((h.mem a.1 a.2).1 (List.mem_append.2 (.inl ha))).1
   ·exact s3 a ha b hb
theorem cnt_two {α : Type} (p : α->Bool) : ∀ {l : List α} {n m : Nat} {a b : α},l[n]? = some a->l[m]? = some b->n≠m->p a = true->p b = true->2<=count p l
 | [],n,_,_,_,h,_,_,_,_=>by simp at h
 | x :: l,0,0,_,_,_,_,h,_,_=>absurd rfl h
 | x :: l,0,m + 1,a,b,h1,h2,_,pa,pb=>by
  simp only [List.getElem?_cons_zero,Option.some.injEq] at h1;subst h1
  have:=cnt_pos p (l:=l) (k:=m) (by simpa using h2) pb
  unfold count at *;simp [pa]; omega
 | x :: l,n + 1,0,a,b,h1,h2,_,pa,pb=>by
  simp only [List.getElem?_cons_zero,Option.some.injEq] at h2;subst h2
  have:=cnt_pos p (l:=l) (k:=n) (by simpa using h1) pa
  unfold count at *;simp [pb]; omega
 | x :: l,n + 1,m + 1,a,b,h1,h2,hn,pa,pb=>by
  have:=cnt_two p (l:=l) (n:=n) (m:=m) (by simpa using h1) (by simpa using h2) (by omega) pa pb
  unfold count at *;rw [List.filter_cons];split
  ·simp; omega
  ·exact this
theorem FairEnd.took (h : FairEnd R ds c N E L puts takes) (hd : ds[n]? = some d) (ht : tookD d = true) : okT R c d:=by
 rcases h.fd n d hd with q | q | q
 ·exact q
 ·rw [q.took] at ht; cases ht
 ·exfalso;unfold tookD at ht;rw [q.1] at ht;simp at ht
theorem FairEnd.uniq (h : FairEnd R ds c N E L puts takes) (hd : ds[n]? = some d) (he : ds[m]? = some e) (t1 : tookD d = true) (t2 : tookD e = true) (hs : d.a.stamp = e.a.stamp) : n = m:=by
 by_cases hne : n = m
 ·exact hne
 ·exfalso
  have:=cnt_two (tkD d.a.stamp) hd he hne (by unfold tkD; simp [t1]) (by unfold tkD; simp [t2,hs])
  have h1:=h.sc d.a.stamp;split at h1 <;> omega
theorem FairEnd.have (h : FairEnd R ds c N E L puts takes) (h1 : 1<=s) (h2 : s<=c) : ∃ (n : Nat) (d : DeedV),ds[n]? = some d/\tookD d = true/\d.a.stamp = s:=by
 have hc:=h.sc s;rw [if_pos ⟨h1,h2⟩] at hc;have : 0 < (ds.filter (tkD s)).length:=by unfold count at hc; omega
 obtain ⟨d,hd⟩:=List.exists_mem_of_length_pos this;obtain ⟨hm,hp⟩:=List.mem_filter.1 hd;obtain ⟨n,hn⟩:=List.mem_iff_getElem?.1 hm;unfold tkD at hp;simp only [Bool.and_eq_true,decide_eq_true_eq] at hp;exact ⟨n,d,hn,hp.1,hp.2⟩
theorem FairEnd.later (h : FairEnd R ds c N E L puts takes) (hl : OrdL ds ds.length (A ++ (d,n) :: B)) (hm : (e,m) ∈ B) : ¬ (m : Int) < d.frm:=by
 intro hlt;obtain ⟨_,m2,_⟩:=(hl.mem e m).1 (by simp [hm]);obtain ⟨_,n2,n3⟩:=(hl.mem d n).1 (by simp);obtain ⟨_,t2,t3⟩:=h.td n d n2;obtain ⟨q1,q2⟩:=t3 n3 m e hlt m2;have hs:=(List.pairwise_cons.1 (List.pairwise_append.1 hl.srt).2.1).1 (e,m) hm;unfold rk at hs;simp only at hs;cases td : tookD d
 ·rw [td] at hs q2;cases te : tookD e
  ·rw [te] at hs;simp at hs;omega
  ·rw [te] at hs;simp at hs;omega
 ·have:=q2 td
  rw [td] at hs;cases te : tookD e
  ·rw [te] at hs; simp at hs; omega
  ·rw [te] at hs; simp at hs; omega
theorem FairEnd.behind (h : FairEnd R ds c N E L puts takes) (hl : OrdL ds ds.length (A ++ (d,n) :: B)) (hp : Pre A c') (hc : c' + 1<=c) : (tookD d = true/\d.a.stamp = c' + 1)\/rk d<=2 * (c' + 1):=by
 obtain ⟨m,e,q1,q2,q3⟩:=h.have (s:=c' + 1) (by have:=hp.1; omega) hc;have hm:=(hl.mem e m).2 ⟨(List.getElem?_eq_some_iff.1 q1).1,q1,(h.took q1 q2).took.2⟩;rcases List.mem_append.1 hm with z | z
 ·have:=hp.2.1 _ z q2
  simp only at this;omega
 ·rcases List.mem_cons.1 z with z | z
  ·simp only [Prod.mk.injEq] at z;left;rw [<- z.1]; exact ⟨q2,q3⟩
  ·right;have hs:=((List.pairwise_cons.1 (List.pairwise_append.1 hl.srt).2.1).1 (e,m) z).1;simp only at hs;unfold rk at hs ⊢;rw [q2] at hs;simp only [if_true] at hs;omega
theorem FairEnd.next (h : FairEnd R ds c N E L puts takes) (hl : OrdL ds ds.length (A ++ (d,n) :: B)) (hp : Pre A c') :
  (if tookD d then d.a.stamp = c' + 1 else d.a.stamp = c')/\Pre (A ++ [(d,n)]) (if tookD d then c' + 1 else c')/\R (if tookD d then c' + 1 else c') = shNew (R c') d.op.kind d.op.key d.op.value/\d.a = { shAns (R c') d.op.kind d.op.key d.op.spans with stamp:=d.a.stamp }/\shUpd (R c') d.op.kind d.op.key = tookD d:=by
 obtain ⟨n1,n2,n3⟩:=(hl.mem d n).1 (by simp);obtain ⟨p0,p1,p2⟩:=hp;cases ht : tookD d
 ·simp only [Bool.false_eq_true,if_false];have hN : okN R c d:=by
   rcases h.fd n d n2 with q | q | q
   ·rw [q.took.1] at ht; cases ht
   ·exact q
   ·exact absurd n3 q.err.1
  obtain ⟨o1,o2,o3,o4,o5⟩:=hN;have hst : d.a.stamp = c':=by
   rcases Int.lt_trichotomy d.a.stamp c' with q | q | q
   ·exfalso;obtain ⟨x,x1,x2,x3⟩:=p2 c' (by omega) (Int.le_refl _);have hs:=((List.pairwise_append.1 hl.srt).2.2 x x1 (d,n) (by simp)).1;simp only at hs;unfold rk at hs;rw [x2,ht] at hs;simp at hs;omega
   ·exact q
   ·exfalso;rcases h.behind hl ⟨p0,p1,p2⟩ (by omega) with z | z
    ·rw [z.1] at ht; cases ht
    ·unfold rk at z;rw [ht] at z;simp at z;omega
  rw [hst] at o3 o5;refine ⟨hst,⟨p0,?_,?_⟩,?_,by rw [hst]; exact o5,o3⟩
  ·intro x hx hxt;rcases List.mem_append.1 hx with q | q
   ·exact p1 x q hxt
   ·rw [List.mem_singleton.1 q] at hxt;simp only at hxt;rw [ht] at hxt; cases hxt
  ·intro s s1 s2;obtain ⟨x,x1,x2⟩:=p2 s s1 s2;exact ⟨x,List.mem_append.2 (.inl x1),x2⟩
  ·unfold shNew;rw [o3]
   rfl
 ·simp only [if_true];obtain ⟨o0,o1,o2,o3,o4,o5⟩:=h.took n2 ht;have hst : d.a.stamp = c' + 1:=by
   rcases Int.lt_trichotomy d.a.stamp (c' + 1) with q | q | q
   ·exfalso;obtain ⟨x,x1,x2,x3⟩:=p2 d.a.stamp o1 (by omega);obtain ⟨y1,y2,_⟩:=(hl.mem x.1 x.2).1 (List.mem_append.2 (.inl x1));have hnm:=h.uniq y2 n2 x2 ht x3;have hs:=((List.pairwise_append.1 hl.srt).2.2 x x1 (d,n) (by simp)).2;simp only at hs;unfold rk at hs;rw [x2,ht,x3] at hs;omega
   ·exact q
   ·exfalso;rcases h.behind hl ⟨p0,p1,p2⟩ (by omega) with z | z
    ·omega
    ·unfold rk at z;rw [ht] at z;simp at z;omega
  have e1 : d.a.stamp - 1 = c':=by omega
  rw [e1] at o3 o4 o5;refine ⟨hst,⟨by omega,?_,?_⟩,by rw [<- hst]; exact o4,o5,o3⟩
  ·intro x hx hxt;rcases List.mem_append.1 hx with q | q
   ·have:=p1 x q hxt; omega
   ·rw [List.mem_singleton.1 q];show d.a.stamp<=_;omega
  ·intro s s1 s2;rcases (show s<=c'\/s = c' + 1 by omega) with q | q
   ·obtain ⟨x,x1,x2⟩:=p2 s s1 q;exact ⟨x,List.mem_append.2 (.inl x1),x2⟩
   ·exact ⟨(d,n),List.mem_append.2 (.inr (List.mem_singleton_self _)),ht,by show d.a.stamp = s; omega⟩
theorem FairEnd.last (h : FairEnd R ds c N E L puts takes) (hl : OrdL ds ds.length A) (hp : Pre A c') : c' = c:=by
 obtain ⟨p0,p1,p2⟩:=hp;rcases Int.lt_trichotomy c' c with q | q | q
 ·exfalso;obtain ⟨m,e,q1,q2,q3⟩:=h.have (s:=c' + 1) (by omega) (by omega);have hm:=(hl.mem e m).2 ⟨(List.getElem?_eq_some_iff.1 q1).1,q1,(h.took q1 q2).took.2⟩
  have:=p1 _ hm q2
  simp only at this;omega
 ·exact q
 ·exfalso;have hc:=h.c0;obtain ⟨x,x1,x2,x3⟩:=p2 c' (by omega) (Int.le_refl _);obtain ⟨_,y2,_⟩:=(hl.mem x.1 x.2).1 x1
  have:=(h.took y2 x2).2.2.1
  omega
theorem Pre.none : Pre [] 0:=⟨Int.le_refl _,fun x hx=>(List.not_mem_nil hx).elim,fun s h1 h2=>by omega⟩
theorem OrdJ.fair (h : OrdJ T N E L D) (hst : Still 0 D) : ∃ R,FairEnd R D.deeds D.P.clock N E L D.puts D.takes:=by
 obtain ⟨g,R,u,hA,hRt,hO⟩:=h.ex;refine ⟨R,hO.c0,hO.r0,hO.fd,hO.td,fun s=>?_,hO.sm,hO.pd⟩
 have:=hO.sc s
 have hz : count (tkT s) D.P.ts = 0:=by
  unfold count;rw [List.filter_eq_nil_iff.2]
  ·rfl
  ·intro t ht;obtain ⟨j,hj⟩:=List.mem_iff_getElem?.1 ht;rw [tkT_idle (hst j t (Nat.zero_le _) hj)]; decide
 rw [hz] at this;omega
end
section
variable {P : PSt} {i j m : Nat} {t t' : PThread} {N E L T : Int} {D D' : PlD} {o : OpV}
theorem th_ofT (h : P.ts[i]? = some t) : P.th i = t:=by unfold PSt.th; rw [h]; rfl
theorem OrdJ.same (h : OrdJ T N E L D) (e1 : D'.P = D.P) (e2 : D'.ops = D.ops) (e3 : D'.frm = D.frm) (e4 : D'.deeds = D.deeds) (e5 : D'.puts = D.puts) (e6 : D'.takes = D.takes) (e7 : D'.bs = D.bs) (e8 : D'.k = D.k/\D'.t = D.t/\D'.n = D.n/\D'.e = D.e/\D'.l = D.l) : OrdJ T N E L D':=by
 obtain ⟨⟨g,R,u,hA,hRt,hO⟩,h2,h3,h4,h5,h6,h7⟩:=h;refine ⟨⟨g,R,u,by rw [e1]; exact hA,by rw [e1]; exact hRt,?_⟩,by rw [e1]; exact h2,by rw [e1]; exact h3,by rw [e1]; exact h4,h5,by unfold PlD.ok at *; rw [e1,e7]; exact h6,cfg_trans e8 h7⟩;obtain ⟨o1,o2,o3,o4,o5,o6,o7,o8,o9,o10,o11,o12⟩:=hO;exact ⟨by rw [e1]; exact o1,o2,by rw [e1]; exact o3,by rw [e1,e5,e6]; exact o4,by rw [e1,e5,e6]; exact o5,by rw [e1]; exact o6,by rw [e1,e2,e3,e4,e5,e6]; exact o7,by rw [e1,e4,e5,e6]; exact o8,by rw [e4]; exact o9,by rw [e1,e4]; exact o10,by rw [e1]; exact o11,by rw [e4]; exact o12⟩
theorem OrdJ.iter (h : OrdJ T N E L D) (ht : D.P.ts[i]? = some t) (hb : t.busy = true) : ∀ (j : Nat),(∀ q,q < j->D.P.how i q = 1)->∃ D1,OrdJ T N E L D1/\D1.P = D.P.iter i j/\D1.ops = D.ops/\D1.frm = D.frm/\D1.puts = D.puts/\D1.takes = D.takes/\D1.bs = D.bs/\D1.deeds = D.deeds/\(D1.k = D.k/\D1.t = D.t/\D1.n = D.n/\D1.e = D.e/\D1.l = D.l)/\(∃ t1,D1.P.ts[i]? = some t1/\t1.busy = true)/\(∀ q,q≠i->D1.P.ts[q]? = D.P.ts[q]?)
 | 0,_=>⟨D,h,rfl,rfl,rfl,rfl,rfl,rfl,rfl,⟨rfl,rfl,rfl,rfl,rfl⟩,⟨t,ht,hb⟩,fun _ _=>rfl⟩
 | j + 1,hq=>by
  obtain ⟨D1,h1,h2,h3,h4,h5,h6,h7,h8,h9,⟨t1,h10,h11⟩,h12⟩:=OrdJ.iter h ht hb j (fun q hq'=>hq q (by omega));have hhow : (D1.P.step i t1).2 = 1:=by
   have:=hq j (by omega)
   unfold PSt.how at this;rw [<- h2,th_ofT h10] at this;exact this
  have hst : Stepped D1 i t1 { D1 with P:=(D1.P.step i t1).1,N:=D1.N + 1 }:=by
   refine ⟨rfl,rfl,⟨rfl,rfl,rfl,rfl,rfl⟩,rfl,rfl,⟨rfl,rfl⟩,?_,fun _=>rfl,fun q=>?_⟩
   ·rw [if_neg (by omega)]
   ·omega
  have hi:=(List.getElem?_eq_some_iff.1 h10).1;obtain ⟨t2,s1,_,s3⟩:=step_work h10 h11;refine ⟨_,h1.step h10 h11 hst,?_,h3,h4,h5,h6,h7,h8,h9,⟨t2,?_,(s3 (by omega)).1⟩,?_⟩
  ·show (D1.P.step i t1).1 = ((D.P.iter i j).step i ((D.P.iter i j).th i)).1;rw [<- h2,th_ofT h10]
  ·show (D1.P.step i t1).1.ts[i]? = _;rw [s1]; simp [hi]
  ·intro q hne;show (D1.P.step i t1).1.ts[q]? = _;rw [s1,List.getElem?_set_ne (fun e=>hne e.symm)];exact h12 q hne
theorem OrdJ.soloed (h : OrdJ T N E L D) (ht : D.P.ts[i]? = some t) (hb : t.busy = true) (hmv : ∀ j,j < m->D.P.how i j = 1) (hend : D.P.how i m = 3) (hS : Soloed D i m D') (hid : ∀ (j : Nat) u,j≠i->D.P.ts[j]? = some u->u.busy = false) : OrdJ T N E L D'/\Still 0 D':=by
 obtain ⟨D1,h1,h2,h3,h4,h5,h6,h7,h8,h9,⟨t1,h10,h11⟩,h12⟩:=h.iter ht hb m hmv;have hhow : (D1.P.step i t1).2 = 3:=by
  unfold PSt.how at hend;rw [<- h2,th_ofT h10] at hend;exact hend
 obtain ⟨av,o,f,g1,g2,g3⟩:=hS.deeds;rw [<- h2,th_ofT h10] at g3;have hP : D'.P = (D1.P.step i t1).1:=by
  rw [hS.P];show ((D.P.iter i m).step i ((D.P.iter i m).th i)).1 = _;rw [<- h2,th_ofT h10]
 have hst : Stepped D1 i t1 { D1 with P:=(D1.P.step i t1).1,N:=D1.N + 1,bs:=D1.bs.set i false,deeds:=D'.deeds }:=by
  refine ⟨rfl,rfl,⟨rfl,rfl,rfl,rfl,rfl⟩,rfl,rfl,⟨rfl,rfl⟩,?_,fun q=>absurd hhow q,fun _=>⟨av,o,f,by rw [h3]; exact g1,by rw [h4]; exact g2,by show D'.deeds = _; rw [h8]; exact g3⟩⟩;rw [if_pos hhow]
 have hfin:=h1.step h10 h11 hst;obtain ⟨a1,a2,a3,a4,a5⟩:=hS.cfg;obtain ⟨b1,b2,b3,b4,b5⟩:=h9;refine ⟨hfin.same hP (hS.same.1.trans h3.symm) (hS.same.2.1.trans h4.symm) rfl (hS.same.2.2.1.trans h5.symm) (hS.same.2.2.2.trans h6.symm) (by show D'.bs = D1.bs.set i false; rw [h7]; exact hS.bs) ⟨a1.trans b1.symm,a2.trans b2.symm,a3.trans b3.symm,a4.trans b4.symm,a5.trans b5.symm⟩,?_⟩;intro q u _ hu;have hi:=(List.getElem?_eq_some_iff.1 h10).1;obtain ⟨t2,s1,s2,_⟩:=step_work h10 h11;rw [hP,s1] at hu;by_cases e : q = i
 ·subst e;rw [List.getElem?_set_self hi] at hu;injection hu with hu
  rw [<- hu]; exact s2 hhow
 ·rw [List.getElem?_set_ne (fun z=>e z.symm),h12 q e] at hu;exact hid q u e hu
structure OrdB (T N E L : Int) (b : Nat) (D : PlD) : Prop where
 j : OrdJ T N E L D
 ex : ∃ t,D.P.ts[0]? = some t/\t.busy = true/\(t.work.kind = 3\/t.work.kind = 4)/\t.work.next = 1
 idle : ∀ (j : Nat) u,j≠0->D.P.ts[j]? = some u->u.busy = false
 bs : D.bs[0]? = some true
 sz : Sz b D
theorem OrdB.run {b : Nat} (h : OrdB T N E L b D) : ∃ t,D.P.ts[0]? = some t/\t.busy = true/\∃ m : Nat,(m : Nat) < N.toNat + 16/\(∀ j,j < m->D.P.how 0 j = 1)/\D.P.how 0 m = 3:=by
 obtain ⟨t,ht,htb,hk,hn⟩:=h.ex;obtain ⟨g,R,u,hA,hRt,hO⟩:=h.j.ex;obtain ⟨m,m1,m2,m3,_⟩:=solo_end (i:=0) (fun _=>True) (fun _ _ _ _ _ _=>trivial) (N.toNat + 16) D.P g t hA (fun j u hj hne=>h.idle j u hne hj) ht htb h.j.len (by rw [phi_r3 htb hk (by omega)]; omega) trivial;exact ⟨t,ht,htb,m,by omega,m2,m3⟩
end
section
variable {R : Int->List (Int × Int)} {puts takes N E L c c' : Int} {ds : List DeedV} {A B : List (DeedV × Nat)}
theorem OrdL.len {ds : List DeedV} {i : Nat} {l : List (DeedV × Nat)} (h : OrdL ds i l) : l.length<=i:=by
 have hn : (l.map (·.2)).Nodup:=by
  rw [List.nodup_iff_pairwise_ne,List.pairwise_map];refine h.srt.imp_of_mem ?_;intro a b ha hb hab e;obtain ⟨_,a2,_⟩:=(h.mem a.1 a.2).1 ha;obtain ⟨_,b2,_⟩:=(h.mem b.1 b.2).1 hb;rw [e,b2] at a2;injection a2 with a2
  rw [a2] at hab;omega
 have:=nodup_leA (l:=l.map (·.2)) (m:=List.range i) hn (fun x hx=>by
  obtain ⟨p,hp,rfl⟩:=List.mem_map.1 hx;exact List.mem_range.2 ((h.mem p.1 p.2).1 hp).1)
 simpa using this
theorem FairEnd.pre_le (h : FairEnd R ds c N E L puts takes) (hl : OrdL ds ds.length (A ++ B)) (hp : Pre A c') : c'<=c:=by
 by_cases h1 : 1<=c'
 ·obtain ⟨x,x1,x2,x3⟩:=hp.2.2 c' h1 (Int.le_refl _);obtain ⟨_,y2,_⟩:=(hl.mem x.1 x.2).1 (List.mem_append.2 (.inl x1))
  have:=(h.took y2 x2).2.2.1
  omega
 ·have:=h.c0; omega
end
end T
end
section
open Go.RowKit
section
variable {own : Own} {z : Nat} {w w' : World} {pb b : Nat} {D D1 : PlD} {i j : Nat}
theorem isUpdate_calls (kind key value : Int) (sv : Value) (w : World) :
  Calls Tryz.prog 33 #[opVal kind key value sv] w fun r w'=>r = .returned (.bool (kind == 1 || kind == 2))/\Fr (fun _=>False) w w':=by
 unfold opVal;have HF:=(mkH (∀ o,Fr (fun _=>False) w (w.alloc o)) <|fun o=>(Fr.refl _ _).alloc _);by_cases h1 : kind = 1
 ·subst h1
  go_enter Tryz.func33,Tryz.ntmps33
  go_wp2;go_ret;exact ⟨rfl,HF.out _⟩
 ·have h1' : (kind == 1) = false:=by simpa using h1
  by_cases h2 : kind = 2
  ·subst h2;clear h1 h1'
   go_enter Tryz.func33,Tryz.ntmps33
   go_wp2;go_ret;exact ⟨rfl,HF.out _⟩
  ·have h2' : (kind == 2) = false:=by simpa using h2
   have HE : Hid ((kind == 1 || kind == 2) = false):=by show _ = _; simp [h1',h2']
   clear h1 h2
   go_enter Tryz.func33,Tryz.ntmps33
   go_wp2;go_ret;exact ⟨ret_bool HE.out.symm,HF.out _⟩
end
end
section
open Go.RowKit
section
variable {own : Own} {z : Nat} {w w' : World} {pb : Nat} {D D1 : PlD} {i j : Nat}
theorem whole_calls (w : World) : Calls Tryz.prog 28 #[] w fun e w'=>∃ va vc,e = .returned (opVal 4 0 0 (.slice va 1 vc))/\OwnSpans w w' (.slice va 1 vc) [(0,1099511627776)]:=by
 go_enter Tryz.func28,Tryz.ntmps28
 go_wp2_with fail;generalize hw1 : World.alloc (World.alloc w _) _ = w1;have hA : At w1 w.heap.size [.int .i64 4,.int .i64 0,.int .i64 0,.slice (some ⟨w.heap.size + 1,0,none⟩) 1 1] 53:=by subst hw1; exact (At.new w _ _).alloc _
 have hB : At w1 (w.heap.size + 1) [.int .i64 0,.int .i64 1099511627776] 81:=by subst hw1; exact At.newAt (by simp) _ _
 have hF : Fr (fun _=>False) w w1:=by subst hw1; exact ((Fr.refl _ _).alloc _).alloc _
 have f0:=hA.cell;have HO : OwnSpans w w1 (.slice (some ⟨w.heap.size + 1,0,none⟩) 1 1) [(0,1099511627776)]:=by
  refine ⟨⟨rfl,.inr ⟨w.heap.size + 1,1,_,rfl,Nat.zero_le _,hB,Nat.le_refl _,by unfold maxLen; decide,rfl,rfl⟩⟩,?_,hF⟩;intro k hk;simp [Value.ownBlock] at hk;omega
 clear hw1 hA hB hF;refine bodyPost_ret (v:=opVal 4 0 0 (.slice (some ⟨w.heap.size + 1,0,none⟩) 1 1)) (by simp [results,Tryz.results28,go_sem,opVal,f0]) rfl ⟨_,_,rfl,HO⟩
theorem took_calls (kd ky va : Int) (sv : Value) (e : Int) (did : Bool) (av st : Int) (lv : Value) (f : Int) (w : World) (sa la : Option Addr) (sn sc ln lc : Nat) (hs : sv = .slice sa sn sc) (hv : lv = .slice la ln lc) :
  Calls Tryz.prog 39 #[.agg #[.int .i64 kd,.int .i64 ky,.int .i64 va,sv,.int .i64 e,.bool did,.int .i64 av,.int .i64 st,lv,.int .i64 f]] w fun r w'=>r = .returned (.bool ((kd == 1 || kd == 2) && did))/\Fr (fun _=>False) w w':=by
 subst hv hs;have HU:=(mkH (∀ w,Calls Tryz.prog 33 #[opVal kd ky va (.slice sa sn sc)] w _) <|fun w=>isUpdate_calls kd ky va (.slice sa sn sc) w);unfold opVal at HU
 go_enter Tryz.func39,Tryz.ntmps39
 go_wp2_with fail;refine Calls.mono (HU.out _) ?_;rintro r w1 ⟨rfl,hF1⟩;have hA : At w1 w.heap.size [.int .i64 kd,.int .i64 ky,.int .i64 va,.slice sa sn sc,.int .i64 e,.bool did,.int .i64 av,.int .i64 st,.slice la ln lc,.int .i64 f] 75:=hF1.at (At.new w _ _) (fun h=>h);have hac:=hA.cell;have HF:=(mkH (Fr (fun _=>False) w w1) <|((Fr.refl _ _).alloc _).trans hF1);clear hA hF1 HU;obtain ⟨b,hb⟩ : ∃ b,Hid ((kd == 1 || kd == 2) = b):=⟨_,rfl⟩;rw [hb.out];cases b
 ·go_wp2;go_ret;exact ⟨by rw [hb.out]; rfl,HF.out⟩
 ·go_wp2;go_ret;exact ⟨by rw [hb.out]; simp,HF.out⟩
end
end
section
namespace T
section
variable {D D' : PlD} {i j : Nat} {t : PThread} {T N E L : Int}
theorem filter_whole {ps : List (Int × Int)} (h : ∀ p ∈ ps,0<=p.1/\p.1<=1099511627776) : ps.filter (inSpan (0,1099511627776)) = ps:=by
 refine List.filter_eq_self.2 ?_;intro p hp;unfold inSpan;rw [isIn_iff]; exact h p hp
theorem want_whole {lim n e c : Int} {ps : List (Int × Int)} (h : ∀ p ∈ ps,0<=p.1/\p.1<=1099511627776) (hl : ps.length<=64) : wantOf 1 lim n e c ps 4 0 [(0,1099511627776)] = { stamp:=c,spans:=[ps] }/\doneOf 1 lim n e c ps 4 0 = false:=by
 have hu : shUpd ps 4 0 = false:=by unfold shUpd; simp
 have hs : spanLists [(0,1099511627776)] ps = [ps]:=by unfold spanLists; rw [List.map_cons,filter_whole h]; rfl
 have ha : shAns ps 4 0 [(0,1099511627776)] = { stamp:=0,spans:=[ps] }:=by
  unfold shAns;rw [if_pos rfl];unfold answerOf;rw [hs,if_neg (by simp [lensOf]; omega)]
 constructor
 ·unfold wantOf;rw [hu,ha]; rfl
 ·unfold doneOf; rw [hu]; rfl
theorem proper_whole : properB 4 0 [(0,1099511627776)] = true:=by decide
end
end T
end
section
open Go.RowKit
open Go.Proofs.YtfccelbmacjifabGreat.T (ClJ QT tk isum isum_app tquiets want_whole proper_whole)
section
variable {own : Own} {z : Nat} {w w' : World} {pb b : Nat} {D D' : PlD} {i j : Nat} {t : PThread} {T N E L : Int} {ps : List (Int × Int)} {o : OpV}
end
end
section
open Go.RowKit
open Go.Proofs.YtfccelbmacjifabGreat.T (ClJ QT tk isum isum_app cl_plays cl_fresh)
section
variable {own : Own} {z : Nat} {w w' : World} {pb b : Nat} {D D' : PlD} {i j : Nat} {t : PThread} {T N E L : Int} {ps : List (Int × Int)} {o : OpV}
theorem PlAt.deedCells (h : PlAt own z w pb D) (hd : D.deeds≠[]) : ∃ g c,D.dv = .slice (some ⟨g,0,none⟩) D.deeds.length c/\∀ (k : Nat) d,D.deeds[k]? = some d->(∃ sa sn sc la ln lc,d.op.sv = .slice sa sn sc/\d.av = .slice la ln lc)/\∀ q v,d.cells[q]? = some v->w.cell? ⟨g,k * 10 + q,none⟩ = some v:=by
 have hl : 0 < D.deeds.length:=List.length_pos_iff.2 hd;obtain ⟨g,c,hv,_⟩:=ownsRow_shape h.deeds.row (by omega);have hr:=h.deeds.row;rw [hv] at hr;refine ⟨g,c,hv,?_⟩;intro k d hk;refine ⟨?_,?_⟩
 ·have hdk:=h.dok d (List.mem_of_getElem? hk);obtain ⟨sa,sc,h1⟩:=ownsShape hdk.1.row;obtain ⟨ins,_,h2,_⟩:=hdk.2.1.top;obtain ⟨la,lc,h3⟩:=ownsShape h2.row;exact ⟨sa,_,sc,la,_,lc,h1,h3⟩
 ·intro q v hq;exact ownsRow_cell hr ((tab_get DeedV.cells 10 deed_len D.deeds k q d hk (by have:=(List.getElem?_eq_some_iff.1 hq).1; simpa [deed_len] using this)).trans hq)
end
end
section
open Go.RowKit
open Go.Proofs.YtfccelbmacjifabGreat.T (OrdJ OrdB proper_whole)
section
variable {P : PSt} {i j m : Nat} {t t' : PThread} {N E L T : Int} {D D' : PlD} {o : OpV} {own : Own} {z : Nat} {w w' : World} {pb b : Nat}
theorem ord_begin (hP : PlAt own z w pb D) (h : OrdJ T N E L D) (hst : Still 0 D) (hs : Sz b D) (hT : 1<=T) (hb : b<=2 ^ 36) (sa : Option Addr) (sc : Nat) (ho : OpOk own (z + 1) w ⟨4,0,0,[(0,1099511627776)],.slice sa 1 sc⟩) :
  Calls Tryz.prog 29 #[pv pb,.int .i64 ((0 : Nat) : Int),opVal 4 0 0 (.slice sa 1 sc)] w fun r w'=>r = .returned (.bool true)/\PlGoes own z w pb w' (OrdB T N E L (b + 1)):=by
 have hl : 0 < D.P.ts.length:=by have:=hP.thr; have:=h.cfg.2.1; omega
 have ht : D.P.ts[0]? = some D.P.ts[0]:=List.getElem?_eq_getElem hl;generalize D.P.ts[0] = t at ht;have htb : t.busy = false:=hst 0 t (Nat.zero_le _) ht;refine (Pbegins_calls hP h.ok ht 4 0 0 [(0,1099511627776)] sa sc ho (by simp) (by unfold Sz at hs; omega)).mono ?_;rintro r w' ⟨rfl,own',D',h1,h2,h3,hB⟩;refine ⟨rfl,own',D',h1,h2,h3,?_⟩;obtain ⟨y1,y2,y3,y4,y5,y6⟩:=hB.yes htb proper_whole;refine ⟨h.begin ht hB,⟨{ t with busy:=true,work:=newWork 4 0 0 [(0,1099511627776)] },?_,rfl,.inr rfl,rfl⟩,?_,?_,hs.begin hB⟩
 ·rw [y1]; simp [PSt.setT,hl]
 ·intro j u hj hu;rw [y1] at hu;have hu' : (D.P.ts.set 0 { t with busy:=true,work:=newWork 4 0 0 [(0,1099511627776)] })[j]? = some u:=hu;rw [List.getElem?_set_ne (by omega)] at hu';exact hst j u (Nat.zero_le _) hu'
 ·rw [y2,List.getElem?_set_self (by rw [hP.bl]; exact hl)]
theorem ord_solo (hP : PlAt own z w pb D) (h : OrdB T N E L b D) (hb : b<=2 ^ 36) (hN : 0<=N/\N<=64) :
  Calls Tryz.prog 30 #[pv pb,.int .i64 ((0 : Nat) : Int)] w fun r w'=>r = .returned (.bool true)/\PlGoes own z w pb w' (fun D'=>OrdJ T N E L D'/\Still 0 D'/\Sz (b + 100) D'/\D'.deeds≠[]):=by
 obtain ⟨t,ht,htb,m,m1,m2,m3⟩:=h.run;have hs:=h.sz;unfold Sz at hs;refine (Psolo_calls hP (by rw [h.j.cfg.2.2.1]; exact hN) h.bs ht htb (by omega) (by omega) m (by rw [h.j.cfg.2.2.1]; omega) m2 m3).mono ?_;rintro r w' ⟨rfl,own',D',h1,h2,h3,hS⟩;obtain ⟨q1,q2⟩:=h.j.soloed ht htb m2 m3 hS h.idle;obtain ⟨av,o,f,_,_,g3⟩:=hS.deeds;refine ⟨rfl,own',D',h1,h2,h3,q1,q2,?_,by rw [g3]; simp⟩;have hl : D'.deeds.length = D.deeds.length + 1:=by rw [g3]; simp
 have hNN:=hS.N;unfold Sz;rw [hl,hS.same.2.2.1,hS.same.2.2.2];omega
end
end
section
open Go.RowKit
def ShAt (w : World) (sb : Nat) (a : Option Addr) (c : Nat) (ps : List (Int × Int)) : Prop:=At w sb [.slice a ps.length c] 49/\PairsAt w a ps
section
variable {w w' : World} {sb : Nat} {a : Option Addr} {c : Nat} {ps : List (Int × Int)}
theorem ShAt.calm (h : ShAt w sb a c ps) (hf : Fr (fun _=>False) w w') : ShAt w' sb a c ps:=⟨hf.at h.1 (fun h=>h),h.2.calm hf⟩
theorem shValue_calls (h : ShAt w sb a c ps) (key : Int) (hsm : ps.length<=2 ^ 20) :
  Calls Tryz.prog 51 #[pv sb,.int .i64 key] w fun r w'=>r = .returned (.tuple #[.int .i64 (shVal ps key).1,.bool (shVal ps key).2])/\w' = w:=by
 have HP:=(mkH (PairsAt w a ps) <|h.2);have hc:=h.1.cell;clear h;unfold pv
 go_enter Tryz.func51,Tryz.ntmps51
 go_wp2
 go_loopw [6] (fun v wr=>∃ j : Nat,j<=ps.length/\v = .int .i64 j/\wr = w/\Hid (∀ p ∈ ps.take j,p.1≠key)) (fun v _=>ps.length - (intOf v).toNat)
 case atStart=>exact ⟨0,by omega,rfl,rfl,fun p hp=>by simp at hp⟩
 case round =>
  obtain ⟨j,hj,rfl,rfl,HN⟩:=hrel;by_cases hlt : j < ps.length
  ·have hx : Hid (ps[j]? = some ps[j]):=List.getElem?_eq_getElem hlt;generalize ps[j] = x at hx;obtain ⟨g,rfl,c0,c1⟩:=HP.out j x hx.out;by_cases hk : x.1 = key
   ·have hk' : (x.1 == key) = true:=by simpa using hk
    have HV : Hid (shVal ps key = (x.2,true)):=shVal_hit HN.out hx.out hk;clear hk;go_wp2;go_ret2;exact ⟨by rw [HV.out]; rfl,rfl⟩
   ·have hk' : (x.1 == key) = false:=by simpa using hk
    have HN2 : Hid (∀ p ∈ ps.take (j + 1),p.1≠key):=by
     intro p hp;rw [List.take_add_one,hx.out] at hp;rcases List.mem_append.1 hp with hp | hp
     ·exact HN.out p hp
     ·simp at hp; subst hp; exact hk
    clear hk;go_wp2
    go_roundw
    case rel=>exact ⟨j + 1,by omega,by go_num,trivial,HN2⟩
    case measure=>simp [intOf]; omega
  ·have HV : Hid (shVal ps key = (0,false)):=shVal_miss (by have:=HN.out; rwa [List.take_of_length_le (by omega)] at this);go_wp2;go_ret2;exact ⟨by rw [HV.out]; rfl,rfl⟩
theorem without_calls (h : ShAt w sb a c ps) (key : Int) (below : Bool) (hsm : ps.length<=2 ^ 20) :
  Calls Tryz.prog 52 #[pv sb,.int .i64 key,.bool below] w fun r w'=>∃ v,r = .returned v/\OwnPairs w w' v (ps.filter (shSide key below)):=by
 obtain ⟨iP,hiP,hzP,hsP,hbP⟩:=info_parts Tryz.infoPr;have HS:=(mkH (ShAt w sb a c ps) <|h);clear h;unfold pv
 go_enter Tryz.func52,Tryz.ntmps52
 go_wp2
 go_loopw [7,8] (fun v i wr=>∃ k : Nat,k<=ps.length/\i = .int .i64 k/\Hid (OwnPairs w wr v ((ps.take k).filter (shSide key below)))) (fun _ i _=>ps.length - (intOf i).toNat)
 case atStart=>exact ⟨0,Nat.zero_le _,rfl,⟨⟨by simp,.inl ⟨rfl,rfl⟩⟩,by intro k hk; simp [Value.ownBlock] at hk,Fr.refl _ _⟩⟩
 case round =>
  obtain ⟨k,hk,rfl,HO⟩:=hrel;have hsr:=HS.out.calm HO.out.fr;have hc:=hsr.1.cell;have HA:=(mkH (PairsAt wr a ps) <|hsr.2);clear hsr;by_cases hlt : k < ps.length
  ·have hx : Hid (ps[k]? = some ps[k]):=List.getElem?_eq_getElem hlt;generalize ps[k] = x at hx;obtain ⟨g,rfl,c0,c1⟩:=HA.out k x hx.out;have HN:=(show Hid _ from filter_take hx.out (shSide key below));clear HA;cases hin : shSide key below x
   ·have HI:=(mkH (shSide key below x = false) <|hin);cases below
    ·have hd : decide (x.1 > key) = false:=by simpa [shSide] using hin
     clear hin;go_wp2
     go_roundw
     case rel=>exact ⟨k + 1,by omega,by go_num,by show OwnPairs _ _ _ _; rw [HN.out,HI.out]; simpa using HO.out⟩
     case measure=>simp [intOf]; omega
    ·have hd : decide (x.1 < key) = false:=by simpa [shSide] using hin
     clear hin;go_wp2
     go_roundw
     case rel=>exact ⟨k + 1,by omega,by go_num,by show OwnPairs _ _ _ _; rw [HN.out,HI.out]; simpa using HO.out⟩
     case measure=>simp [intOf]; omega
   ·have HI:=(mkH (shSide key below x = true) <|hin);have HFL:=(mkH (((ps.take k).filter (shSide key below)).length<=2 ^ 40) <|Nat.le_trans (List.length_filter_le _ _) (by rw [List.length_take]; omega));have HH : Hid (∀ (g' cap : Nat) (w3 : World) (ob : Obj),w3.ownsRow 0 95 2 (.slice (some ⟨g',0,none⟩) (((ps.take k).filter (shSide key below)).length + 1) cap) (((ps.take k).filter (shSide key below)).length + 1) (((ps.take k).filter (shSide key below)).flatMap pairCells ++ [.int .i64 x.1,.int .i64 x.2])->(wr.alloc ob).grownBy w3 u7.ownBlock->(u7.ownBlock = some g'\/wr.heap.size + 1<=g')->OwnPairs w w3 (.slice (some ⟨g',0,none⟩) (((ps.take k).filter (shSide key below)).length + 1) cap) ((ps.take (k + 1)).filter (shSide key below))):=by
     intro g' cap w3 ob hown hgr hge;rw [HN.out,HI.out];refine ⟨?_,?_,Fr.grown (HO.out.fr.alloc _) hgr (fun k hk=>.inr (HO.out.new k hk))⟩
     ·simpa [pairCells] using hown
     ·intro q hq;simp [Value.ownBlock] at hq;subst hq;rcases hge with h | h
      ·exact HO.out.new _ h
      ·have:=HO.out.fr.size; first | omega | (simp at h; omega)
    cases below
    ·have hd : decide (x.1 > key) = true:=by simpa [shSide] using hin
     clear hin;go_wp2_with (at_builtin; refine wpList_push _ rfl _ _ 47 rfl 0 95 iP _ 2 16 Tryz.underlying47 hiP hzP hsP hbP rfl (by decide) _ _ _ rfl (ownsRow_alloc HO.out.row _) wr.heap.size [.int .i64 x.1,.int .i64 x.2] rfl rfl 95 (At.newAt (by simp) _ _) (by simp [Value.oneCell']) (by have:=HFL.out; unfold maxLen; omega) (by have:=HFL.out; omega) (by simp) ?_);intro g' cap w3 hown hgr hge;have HO3:=(mkH (OwnPairs _ _ _ _) <|HH.out g' cap w3 _ hown hgr hge);clear hown hgr hge;go_wp2
     go_roundw
     case rel=>exact ⟨k + 1,by omega,by go_num,HO3⟩
     case measure=>simp [intOf]; omega
    ·have hd : decide (x.1 < key) = true:=by simpa [shSide] using hin
     clear hin;go_wp2_with (at_builtin; refine wpList_push _ rfl _ _ 47 rfl 0 95 iP _ 2 16 Tryz.underlying47 hiP hzP hsP hbP rfl (by decide) _ _ _ rfl (ownsRow_alloc HO.out.row _) wr.heap.size [.int .i64 x.1,.int .i64 x.2] rfl rfl 95 (At.newAt (by simp) _ _) (by simp [Value.oneCell']) (by have:=HFL.out; unfold maxLen; omega) (by have:=HFL.out; omega) (by simp) ?_);intro g' cap w3 hown hgr hge;have HO3:=(mkH (OwnPairs _ _ _ _) <|HH.out g' cap w3 _ hown hgr hge);clear hown hgr hge;go_wp2
     go_roundw
     case rel=>exact ⟨k + 1,by omega,by go_num,HO3⟩
     case measure=>simp [intOf]; omega
  ·have hke : k = ps.length:=by omega
   subst hke;rw [List.take_length] at HO;go_wp2;go_ret;exact ⟨_,rfl,HO.out⟩
theorem cut_calls (h : ShAt w sb a c ps) (sp : Int × Int) (hsm : ps.length<=2 ^ 20) :
  Calls Tryz.prog 53 #[pv sb,.agg #[.int .i64 sp.1,.int .i64 sp.2]] w fun r w'=>∃ v,r = .returned v/\OwnPairs w w' v (ps.filter (inSpan sp)):=by
 obtain ⟨iP,hiP,hzP,hsP,hbP⟩:=info_parts Tryz.infoPr;have HS:=(mkH (ShAt w sb a c ps) <|h);have HB0:=(mkH (At (w.alloc (.cells #[.int .i64 sp.1,.int .i64 sp.2] 81)) w.heap.size [.int .i64 sp.1,.int .i64 sp.2] 81) <|At.new w [.int .i64 sp.1,.int .i64 sp.2] _);have HF0:=(mkH (Fr (fun _=>False) w (w.alloc (.cells #[.int .i64 sp.1,.int .i64 sp.2] 81))) <|(Fr.refl _ _).alloc _);clear h;unfold pv
 go_enter Tryz.func53,Tryz.ntmps53
 go_wp2
 go_loopw [5,6] (fun v i wr=>∃ k : Nat,k<=ps.length/\i = .int .i64 k/\Hid (OwnPairs w wr v ((ps.take k).filter (inSpan sp)))/\Hid (At wr w.heap.size [.int .i64 sp.1,.int .i64 sp.2] 81)/\Hid (v.ownBlock≠some w.heap.size)) (fun _ i _=>ps.length - (intOf i).toNat)
 case atStart =>
  refine ⟨0,Nat.zero_le _,rfl,⟨⟨by simp,.inl ⟨rfl,rfl⟩⟩,by intro k hk; simp [Value.ownBlock] at hk,HF0.out⟩,HB0,?_⟩;show _≠_;simp [Value.ownBlock]
 case round =>
  clear HB0 HF0;obtain ⟨k,hk,rfl,HO,HB,HNB⟩:=hrel;have hbc:=HB.out.cell;have hsr:=HS.out.calm HO.out.fr;have hc:=hsr.1.cell;have HA:=(mkH (PairsAt wr a ps) <|hsr.2);clear hsr;by_cases hlt : k < ps.length
  ·have hx : Hid (ps[k]? = some ps[k]):=List.getElem?_eq_getElem hlt;generalize ps[k] = x at hx;obtain ⟨g,rfl,c0,c1⟩:=HA.out k x hx.out;have HN:=(show Hid _ from filter_take hx.out (inSpan sp));clear HA;have HNo : Hid (inSpan sp x = false->∀ w2,Fr (fun _=>False) wr w2->∃ k' : Nat,k'<=ps.length/\Value.int .i64 ((k : Int) + 1) = .int .i64 k'/\Hid (OwnPairs w w2 u5 ((ps.take k').filter (inSpan sp)))/\Hid (At w2 w.heap.size [.int .i64 sp.1,.int .i64 sp.2] 81)/\Hid (u5.ownBlock≠some w.heap.size)):=by
    intro hin w2 hw2;exact ⟨k + 1,by omega,by go_num,by show OwnPairs _ _ _ _; rw [HN.out,hin]; simpa using HO.out.calm hw2,hw2.at HB.out (fun h=>h),HNB⟩
   by_cases h1 : x.1 ≥ sp.1
   ·have h1' : decide (x.1 ≥ sp.1) = true:=by simpa using h1
    by_cases h2 : x.1<=sp.2
    ·have h2' : decide (x.1<=sp.2) = true:=by simpa using h2
     have HI : Hid (inSpan sp x = true):=by show _ = _; simp [inSpan,isIn]; omega
     clear h1 h2;have HFL:=(mkH (((ps.take k).filter (inSpan sp)).length<=2 ^ 40) <|Nat.le_trans (List.length_filter_le _ _) (by rw [List.length_take]; omega));go_wp2_with fail
     go_quiet (fail)
     have HO2:=(mkH (OwnPairs w (wr.drewN nq) u5 _) <|HO.out.calm ((Fr.refl _ _).drewN _));have HB2:=(mkH (At (wr.drewN nq) w.heap.size _ _) <|HB.out.drewN _);go_wp2_with (at_builtin; refine wpList_push _ rfl _ _ 47 rfl 0 95 iP _ 2 16 Tryz.underlying47 hiP hzP hsP hbP rfl (by decide) _ _ _ rfl (ownsRow_alloc HO2.out.row _) wr.heap.size [.int .i64 x.1,.int .i64 x.2] rfl rfl 95 (At.newAt (by simp) _ _) (by simp [Value.oneCell']) (by have:=HFL.out; unfold maxLen; omega) (by have:=HFL.out; omega) (by simp) ?_);intro g' cap w3 hown hgr hge;have HO3 : Hid (OwnPairs w w3 (.slice (some ⟨g',0,none⟩) (((ps.take k).filter (inSpan sp)).length + 1) cap) ((ps.take (k + 1)).filter (inSpan sp))):=by
      show OwnPairs _ _ _ _;rw [HN.out,HI.out];refine ⟨?_,?_,Fr.grown (HO2.out.fr.alloc _) hgr (fun k hk=>.inr (HO2.out.new k hk))⟩
      ·simpa [pairCells] using hown
      ·intro q hq;simp [Value.ownBlock] at hq;subst hq;rcases hge with h | h
       ·exact HO2.out.new _ h
       ·have:=HO.out.fr.size; first | omega | (simp at h; omega)
     have HB3 : Hid (At w3 w.heap.size [.int .i64 sp.1,.int .i64 sp.2] 81):=(Fr.grown (S:=fun j=>u5.ownBlock = some j) (Fr.refl _ _) hgr (fun j hj=>.inl hj)).at (HB2.out.alloc _) HNB.out;have HNB3 : Hid ((Value.slice (some ⟨g',0,none⟩) (((ps.take k).filter (inSpan sp)).length + 1) cap).ownBlock≠some w.heap.size):=by
      show _≠_;intro e;simp [Value.ownBlock] at e;subst e;rcases hge with h | h
      ·exact HNB.out h
      ·have:=HB.out.lt; first | omega | (simp at h; omega)
     clear hown hgr hge HO2 HB2 HNB;go_wp2
     go_roundw
     case rel=>exact ⟨k + 1,by omega,by go_num,HO3,HB3,HNB3⟩
     case measure=>simp [intOf]; omega
    ·have h2' : decide (x.1<=sp.2) = false:=by simpa using h2
     have HI : Hid (inSpan sp x = false):=by show _ = _; simp [inSpan,isIn]; omega
     clear h1 h2;go_wp2_with fail
     go_quiet (fail)
     go_wp2
     go_roundw
     case rel=>exact HNo.out HI.out _ ((Fr.refl _ _).drewN _)
     case measure=>simp [intOf]; omega
   ·have h1' : decide (x.1 ≥ sp.1) = false:=by simpa using h1
    have HI : Hid (inSpan sp x = false):=by show _ = _; simp [inSpan,isIn]; omega
    clear h1;go_wp2_with fail
    go_quiet (fail)
    go_wp2
    go_roundw
    case rel=>exact HNo.out HI.out _ ((Fr.refl _ _).drewN _)
    case measure=>simp [intOf]; omega
  ·have hke : k = ps.length:=by omega
   have HO' : Hid (OwnPairs w wr u5 (ps.filter (inSpan sp))):=by
    have:=HO.out
    rw [hke,List.take_length] at this;exact this
   clear HO hke;go_wp2;go_ret;exact ⟨u5,rfl,HO'.out⟩
end
end
section
open Go.RowKit
section
variable {w w' : World} {sb : Nat} {a : Option Addr} {c : Nat} {ps : List (Int × Int)}
def zeroAns : List Value:=[.int .i64 0,.bool false,.int .i64 0,.int .i64 0,.slice none 0 0]
theorem copy5 {w : World} {b : Nat} {a0 a1 a2 a3 a4 : Value} {T : TypeId} (h : At w b [a0,a1,a2,a3,a4] T) (v0 v1 v2 v3 v4 : Value) : At (((((w.setCell ⟨b,0,none⟩ v0).setCell ⟨b,1,none⟩ v1).setCell ⟨b,2,none⟩ v2).setCell ⟨b,3,none⟩ v3).setCell ⟨b,4,none⟩ v4) b [v0,v1,v2,v3,v4] T :=
 ((((h.set 0 v0).set 1 v1).set 2 v2).set 3 v3).set 4 v4
theorem frCopy5 {S : Nat->Prop} {w0 w : World} {b : Nat} (hb : w0.heap.size<=b) (h : Fr S w0 w) (v0 v1 v2 v3 v4 : Value) : Fr S w0 (((((w.setCell ⟨b,0,none⟩ v0).setCell ⟨b,1,none⟩ v1).setCell ⟨b,2,none⟩ v2).setCell ⟨b,3,none⟩ v3).setCell ⟨b,4,none⟩ v4) :=
 Fr.setNew hb (Fr.setNew hb (Fr.setNew hb (Fr.setNew hb (Fr.setNew hb h 0 v0) 1 v1) 2 v2) 3 v3) 4 v4
theorem does_start (w : World) (kind key value : Int) (sv : Value) : ∃ w1 : World,w1 = ((w.alloc (.cells #[.int .i64 kind,.int .i64 key,.int .i64 value,sv] 53)).alloc (.cells #[.int .i64 0,.bool false,.int .i64 0,.int .i64 0,.slice none 0 0] 69)).alloc (.cells #[.int .i64 0,.bool false,.int .i64 0,.int .i64 0,.slice none 0 0] 69)/\At w1 w.heap.size [.int .i64 kind,.int .i64 key,.int .i64 value,sv] 53/\At w1 (w.heap.size + 1) zeroAns 69/\At w1 (w.heap.size + 1 + 1) zeroAns 69/\Fr (fun _=>False) w w1/\w1.heap.size = w.heap.size + 3 :=
 ⟨_,rfl,((At.new w _ _).alloc _).alloc _,(At.newAt (by simp) _ _).alloc _,At.newAt (by simp) _ _,(((Fr.refl _ _).alloc _).alloc _).alloc _,by simp⟩
theorem does_look (h : ShAt w sb a c ps) (key value : Int) (sv : Value) (hsm : ps.length<=2 ^ 20) :
  Calls Tryz.prog 34 #[pv sb,opVal 3 key value sv] w fun r w'=>r = .returned (ansV { did:=(shVal ps key).2,value:=(shVal ps key).1 } (.slice none 0 0))/\Fr (fun _=>False) w w':=by
 have HS:=(mkH (ShAt w sb a c ps) <|h);clear h;have HC:=(mkH (∀ w1,ShAt w1 sb a c ps->Calls Tryz.prog 51 #[pv sb,.int .i64 key] w1 _) <|fun w1 h=>shValue_calls h key hsm);generalize shVal ps key = x at HC ⊢;obtain ⟨x1,x2⟩:=x;unfold pv at HC ⊢;unfold opVal
 go_enter Tryz.func34,Tryz.ntmps34
 go_wp2_with fail;obtain ⟨w1,e1,hO,hR,hV,hF,hs⟩:=does_start w 3 key value sv;rw [<- e1];refine (HC.out w1 (HS.out.calm hF)).mono ?_;rintro r w2 ⟨rfl,rfl⟩;clear e1;have ho:=hO.cell;have hr:=hR.cell;have hrz:=hR.frozen;have hv:=hV.cell;have hvz:=hV.frozen;have n1 : w.heap.size + 1≠w.heap.size + 1 + 1:=by omega
 have n2 : w.heap.size + 1 + 1≠w.heap.size + 1:=by omega
 have n3 : w.heap.size≠w.heap.size + 1 + 1:=by omega
 have n4 : w.heap.size + 1 + 1≠w.heap.size:=by omega
 have HF:=(mkH (Fr _ w w2) <|hF);have hf0:=(copy5 ((hR.setOther ⟨w.heap.size + 1 + 1,1,none⟩ n1 (.bool x2)).setOther ⟨w.heap.size + 1 + 1,2,none⟩ n1 (.int .i64 x1)) (.int .i64 0) (.bool x2) (.int .i64 x1) (.int .i64 0) (.slice none 0 0)).cell;unfold zeroAns at hr hv;clear hO hR hV hF;go_wp2;exact bodyPost_ret (v:=ansV { did:=x2,value:=x1 } (.slice none 0 0)) (by simp [results,Tryz.results34,go_sem,ansV,hf0]) rfl ⟨rfl,frCopy5 (by omega) (Fr.setNew (by omega) (Fr.setNew (by omega) HF.out _ _) _ _) _ _ _ _ _⟩
theorem does_not (h : ShAt w sb a c ps) (kind key value : Int) (sv : Value) (hsm : ps.length<=2 ^ 20) (hk : kind = 1\/kind = 2) (hd : (shVal ps key).2 = decide (kind = 1)) :
  Calls Tryz.prog 34 #[pv sb,opVal kind key value sv] w fun r w'=>r = .returned (ansV {} (.slice none 0 0))/\Fr (fun _=>False) w w':=by
 have HS:=(mkH (ShAt w sb a c ps) <|h);clear h;have HC:=(mkH (∀ w1,ShAt w1 sb a c ps->Calls Tryz.prog 51 #[pv sb,.int .i64 key] w1 _) <|fun w1 h=>shValue_calls h key hsm);generalize shVal ps key = x at HC hd ⊢;obtain ⟨x1,x2⟩:=x;simp only at hd;unfold pv at HC ⊢;unfold opVal;obtain ⟨w1,e1,hO,hR,hV,hF,hs⟩:=does_start w kind key value sv;have ho:=hO.cell;have hr:=hR.cell;have hrz:=hR.frozen;have hv:=hV.cell;have hvz:=hV.frozen;have n1 : w.heap.size + 1≠w.heap.size + 1 + 1:=by omega
 have n2 : w.heap.size + 1 + 1≠w.heap.size + 1:=by omega
 have n3 : w.heap.size≠w.heap.size + 1 + 1:=by omega
 have n4 : w.heap.size + 1 + 1≠w.heap.size:=by omega
 have HF:=(mkH (Fr _ w w1) <|hF);have hf0:=(copy5 (hR.setOther ⟨w.heap.size + 1 + 1,1,none⟩ n1 (.bool false)) (.int .i64 0) (.bool false) (.int .i64 0) (.int .i64 0) (.slice none 0 0)).cell;unfold zeroAns at hr hv;have E1:=(mkH (_ = _) <|e1);clear hO hR hV hF e1;rcases hk with rfl | rfl
 ·simp at hd;subst hd
  go_enter Tryz.func34,Tryz.ntmps34
  go_wp2_with fail;rw [<- E1.out];refine (HC.out w1 (HS.out.calm HF.out)).mono ?_;rintro r w2 ⟨rfl,rfl⟩;clear E1;go_wp2;exact bodyPost_ret (v:=ansV {} (.slice none 0 0)) (by simp [results,Tryz.results34,go_sem,ansV,hf0]) rfl ⟨rfl,frCopy5 (by omega) (Fr.setNew (by omega) HF.out _ _) _ _ _ _ _⟩
 ·simp at hd;subst hd
  go_enter Tryz.func34,Tryz.ntmps34
  go_wp2_with fail;rw [<- E1.out];refine (HC.out w1 (HS.out.calm HF.out)).mono ?_;rintro r w2 ⟨rfl,rfl⟩;clear E1;go_wp2;exact bodyPost_ret (v:=ansV {} (.slice none 0 0)) (by simp [results,Tryz.results34,go_sem,ansV,hf0]) rfl ⟨rfl,frCopy5 (by omega) (Fr.setNew (by omega) HF.out _ _) _ _ _ _ _⟩
end
end
end Go.Proofs.YtfccelbmacjifabGreat
