import Derived.Test.YtfccelbmacjifabGreatP0
import Derived.Test.YtfccelbmacjifabGreatP5
set_option linter.unusedSimpArgs false
set_option maxRecDepth 100000
set_option maxHeartbeats 4000000
namespace Go.Proofs.YtfccelbmacjifabGreat
section
section
variable {C C' : Int->Prop} {M M' : PMem} {c c' : Int} {r r' : PSweep} {i j : Nat} {t t' : PThread} {ts : List PThread} {P : PSt} {x : Int} {k : PWork}
def Gone (M : PMem) (ht : Bool) (tm : Int) (l : List Nat) (x : Int) : Prop:=(∃ n ∈ l,((n : Nat) : Int) = x)/\(ht = true->Ra M x < tm)
theorem freesIf_ok (ht : Bool) (tm : Int) : ∀ (l : List Nat) (M : PMem),Wm M->(∀ n ∈ l,M.hasNode (n : Int) = true/\(n : Int)≠0/\(n : Int)≠1) ->
  Wm (M.freesIf ht tm l)/\(M.freesIf ht tm l).ns.length = M.ns.length/\(∀ x,(Gone M ht tm l x->(M.freesIf ht tm l).node x = PNode.zero/\Pd (M.freesIf ht tm l) x = []/\∀ s d,¬ Sd (M.freesIf ht tm l) x s d)/\(¬ Gone M ht tm l x->(M.freesIf ht tm l).node x = M.node x/\Pd (M.freesIf ht tm l) x = Pd M x/\∀ s d,Sd (M.freesIf ht tm l) x s d ↔ Sd M x s d))
 | [],M,hw,_=>⟨hw,rfl,fun x=>⟨fun h=>(by obtain ⟨n,hn,_⟩:=h.1; cases hn),fun _=>⟨rfl,rfl,fun _ _=>Iff.rfl⟩⟩⟩
 | n :: l,M,hw,hl=>by
  obtain ⟨h1,h2⟩:=hl n (by simp);unfold PMem.freesIf;by_cases hc : (!ht || decide ((M.node (n : Int)).retiredAt < tm)) = true
  ·rw [if_pos hc];have hc' : ht = true->Ra M n < tm:=by
    intro e; rw [e] at hc; simpa using hc
   obtain ⟨f1,f2,f3,f4,f5⟩:=free_e hw h1 h2;obtain ⟨i1,i2,i3⟩:=freesIf_ok ht tm l (M.free n) f2 (fun m hm=>by rw [hasN_len f1]; exact hl m (by simp [hm]));refine ⟨i1,by rw [i2,f1],fun x=>?_⟩;obtain ⟨a,b⟩:=i3 x;by_cases hx : x = (n : Int)
   ·have hg : Gone M ht tm (n :: l) x:=⟨⟨n,by simp,hx.symm⟩,by rw [hx]; exact hc'⟩;refine ⟨fun _=>?_,fun h=>absurd hg h⟩;by_cases hG : Gone (M.free n) ht tm l x
    ·exact a hG
    ·obtain ⟨b1,b2,b3⟩:=b hG;rw [b1,b2,f3,f4,if_pos hx,if_pos hx];exact ⟨rfl,rfl,fun s d hs=>((f5 x s d).1 ((b3 s d).1 hs)).1 hx⟩
   ·have hiff : Gone (M.free n) ht tm l x ↔ Gone M ht tm (n :: l) x:=by
     unfold Gone;have : Ra (M.free n) x = Ra M x:=by simp only [Ra]; rw [f3,if_neg hx]
     rw [this];refine and_congr ⟨?_,?_⟩ Iff.rfl
     ·rintro ⟨m,hm,e⟩; exact ⟨m,by simp [hm],e⟩
     ·rintro ⟨m,hm,e⟩;rcases List.mem_cons.1 hm with rfl | hm
      ·exact absurd e.symm hx
      ·exact ⟨m,hm,e⟩
    refine ⟨fun h=>a (hiff.2 h),fun h=>?_⟩;obtain ⟨b1,b2,b3⟩:=b (fun hh=>h (hiff.1 hh));rw [b1,b2,f3,f4,if_neg hx,if_neg hx];exact ⟨rfl,rfl,fun s d=>by rw [b3,f5]; exact ⟨fun h=>h.2,fun h=>⟨hx,h⟩⟩⟩
  ·rw [if_neg hc];obtain ⟨i1,i2,i3⟩:=freesIf_ok ht tm l M hw (fun m hm=>hl m (by simp [hm]));refine ⟨i1,i2,fun x=>?_⟩;have hiff : Gone M ht tm l x ↔ Gone M ht tm (n :: l) x:=by
    constructor
    ·rintro ⟨⟨m,hm,e⟩,h⟩; exact ⟨⟨m,by simp [hm],e⟩,h⟩
    ·rintro ⟨⟨m,hm,e⟩,h⟩;rcases List.mem_cons.1 hm with rfl | hm
     ·exfalso;apply hc;cases hh : ht
      ·rfl
      ·have:=h hh
       rw [<- e] at this;simpa using this
     ·exact ⟨⟨m,hm,e⟩,h⟩
   rw [<- hiff]; exact i3 x
theorem Inv.sweepFree (h : Inv C P) (hm : P.sweep.made = P.ts.length + 2) : Inv C { P with mem:=P.mem.freesIf P.sweep.hasTime P.sweep.time P.sweep.retired,sweep:=PSweep.zero }:=by
 have hre : ∀ x,InSw P.sweep x->Re P.mem x/\De P.mem x/\¬ C x/\x≠0/\x≠1:=by
  intro x hx;have h1:=(h.o.sw x hx).1;obtain ⟨h2,h3,_⟩:=h.n.mr x h1;refine ⟨h1,h2,h3,?_,?_⟩
  ·rintro rfl; exact h3 h.n.a0.1
  ·rintro rfl; simp only [De] at h2; rw [h.n.a1.2.2.2.1] at h2; cases h2
 obtain ⟨g1,g2,g3⟩:=freesIf_ok P.sweep.hasTime P.sweep.time P.sweep.retired P.mem h.wm (by
  intro n hn;obtain ⟨_,h2,_,h4,h5⟩:=hre (n : Int) ⟨n,hn,rfl⟩;exact ⟨hasN_used (h.n.md _ h2).1,h4,h5⟩)
 generalize P.mem.freesIf P.sweep.hasTime P.sweep.time P.sweep.retired = M1 at *;have fr : ∀ x,Gone P.mem P.sweep.hasTime P.sweep.time P.sweep.retired x->Re P.mem x/\De P.mem x/\¬ C x/\x≠0/\x≠1/\InSw P.sweep x:=fun x hx=>by
  obtain ⟨a,b,c,d,e⟩:=hre x hx.1;exact ⟨a,b,c,d,e,hx.1⟩
 generalize hF : Gone P.mem P.sweep.hasTime P.sweep.time P.sweep.retired = F at *;have hFi : ∀ x,InSw P.sweep x->(P.sweep.hasTime = true->Ra P.mem x < P.sweep.time)->F x:=fun x h1 h2=>by rw [<- hF]; exact ⟨h1,h2⟩
 have hFt : ∀ x,F x->(P.sweep.hasTime = true->Ra P.mem x < P.sweep.time):=fun x hx=>by rw [<- hF] at hx; exact hx.2
 have e0 : ∀ x,¬ F x->M1.node x = P.mem.node x:=fun x hx=>((g3 x).2 hx).1
 have ez : ∀ x,F x->M1.node x = PNode.zero:=fun x hx=>((g3 x).1 hx).1
 have nU : ∀ x,Us M1 x->¬ F x/\Us P.mem x:=by
  intro x hx;by_cases hf : F x
  ·simp only [Us] at hx; rw [ez x hf] at hx; exact nomatch hx
  ·exact ⟨hf,by simp only [Us] at hx ⊢; rw [e0 x hf] at hx; exact hx⟩
 have nD : ∀ x,De M1 x->¬ F x/\De P.mem x:=by
  intro x hx;by_cases hf : F x
  ·simp only [De] at hx; rw [ez x hf] at hx; exact nomatch hx
  ·exact ⟨hf,by simp only [De] at hx ⊢; rw [e0 x hf] at hx; exact hx⟩
 have nR : ∀ x,Re M1 x->¬ F x/\Re P.mem x:=by
  intro x hx;by_cases hf : F x
  ·simp only [Re] at hx; rw [ez x hf] at hx; exact nomatch hx
  ·exact ⟨hf,by simp only [Re] at hx ⊢; rw [e0 x hf] at hx; exact hx⟩
 have nC : ∀ x,C x->¬ F x:=fun x hc hf=>(fr x hf).2.2.1 hc
 have n1' : ¬ F 1:=fun hf=>(fr 1 hf).2.2.2.2.1 rfl
 have nS : ∀ x s d,Sd M1 x s d->¬ F x/\Sd P.mem x s d:=by
  intro x s d hs;by_cases hf : F x
  ·exact absurd hs (((g3 x).1 hf).2.2 s d)
  ·exact ⟨hf,((((g3 x).2 hf).2.2) s d).1 hs⟩
 have nSd : ∀ x s d,¬ F x->Sd P.mem x s d->¬ F d:=by
  intro x s d hx hs hf;obtain ⟨q1,q2,q3,q4,q5,q6⟩:=fr d hf;obtain ⟨z1,z2⟩:=h.e.dr hm x s d hs q6 (hFt d hf);exact hx (hFi x z1 (fun e=>by have:=hFt d hf e; omega))
 have nL : ∀ y,De P.mem y->¬ C y->¬ F y->¬ F (Ld P.mem y):=by
  intro y hy hc hf hg;obtain ⟨q1,q2,q3,q4,q5,q6⟩:=fr _ hg;obtain ⟨_,_,z⟩:=h.n.mo y hy hc;rcases z with z | z | ⟨_,_,z3,z4,z5⟩
  ·exact q5 z
  ·exact q3 z
  ·have h1:=z4 q1;exact hf (hFi y (z5 q6) (fun e=>by have:=hFt _ hg e; omega))
 have hsd : ∀ x s d,¬ F x->Sd P.mem x s d->Sd M1 x s d:=fun x s d hx hs=>((((g3 x).2 hx).2.2) s d).2 hs
 have hvd : ∀ x s,¬ F x->Vd P.mem P.ts x s->Vd M1 P.ts x s:=by
  rintro x s hx (⟨d,hv⟩ | hv)
  ·exact .inl ⟨d,hsd x s d hx hv⟩
  ·exact .inr hv
 have hz : ∀ x,¬ InSw PSweep.zero x:=by rintro x ⟨n,hn,_⟩; cases hn
 refine ⟨h.kind,g1,?_,?_,?_,?_⟩
 ·obtain ⟨n0,n1,mc,kr,mi,md,mr,mo⟩:=h.n;refine ⟨?_,?_,?_,?_,?_,?_,?_,?_⟩
  ·rw [e0 0 (nC 0 n0.1)]; exact n0
  ·simp only [Us,Ky]; rw [e0 1 n1']; exact n1
  ·intro x hx;obtain ⟨z1,z2,z3,z4,z5,z6⟩:=mc x hx;have hl : ¬ F (Ld P.mem x):=by rcases z4 with z | z; rw [z]; exact n1'; exact nC _ z
   simp only [Us,Ld,Lt,Ky] at *;rw [e0 x (nC x hx),e0 _ hl];exact ⟨z1,z2,z3,z4,z5,z6⟩
  ·intro x hx h0 h1;obtain ⟨q1,q2⟩:=nU x hx;simp only [Ky]; rw [e0 x q1]; exact kr x q2 h0 h1
  ·intro x y hx hy he;simp only [Ld] at he;rw [e0 x (nC x hx),e0 y (nC y hy)] at he;exact mi x y hx hy he
  ·intro x hx;obtain ⟨q1,q2⟩:=nD x hx;simp only [Us]; rw [e0 x q1]; exact md x q2
  ·intro x hx;obtain ⟨q1,q2⟩:=nR x hx;simp only [De,Ra]; rw [e0 x q1]; exact mr x q2
  ·intro y hy hc;obtain ⟨q1,q2⟩:=nD y hy;obtain ⟨z1,z2,z3⟩:=mo y q2 hc;have hl:=nL y q2 hc q1;simp only [Ld,Ky,De,Re,Ra] at *;rw [e0 y q1,e0 _ hl];refine ⟨z1,z2,?_⟩;rcases z3 with z | z | ⟨y1,y2,y3,y4,_⟩
   ·exact .inl z
   ·exact .inr (.inl z)
   ·exact .inr (.inr ⟨y1,y2,y3,y4,fun hh=>absurd hh (hz _)⟩)
 ·obtain ⟨ms,pd,nw,ol,dr⟩:=h.e;refine ⟨?_,?_,?_,?_,?_⟩
  ·intro x s d hs;obtain ⟨q1,q2⟩:=nS x s d hs;simp only [Us,De,Lt,Ky];rw [e0 x q1,e0 d (nSd x s d q1 q2)];exact ms x s d q2
  ·intro x d hd;by_cases hf : F x
   ·simp only at hd; rw [((g3 x).1 hf).2.1] at hd; cases hd
   ·simp only at hd; rw [((g3 x).2 hf).2.1] at hd; exact pd x d hd
  ·intro x s d hs;obtain ⟨q1,q2⟩:=nS x s d hs;simp only [Ld];rw [e0 x q1];rcases nw x s d q2 with z | ⟨s',z1,z2⟩
   ·exact .inl z
   ·exact .inr ⟨s',z1,hvd x s' q1 z2⟩
  ·intro x s d hs hr;obtain ⟨q1,q2⟩:=nS x s d hs;obtain ⟨r1,r2⟩:=nR d hr;simp only [Re,Ra];rw [e0 x q1,e0 d r1];rcases ol x s d q2 r2 with ⟨s',z1,z2,z3⟩ | ⟨z1,z2,_⟩
   ·exact .inl ⟨s',z1,z2,hvd x s' q1 z3⟩
   ·exact .inr ⟨z1,z2,fun hh=>absurd hh (hz _)⟩
  ·intro hh;have : (0 : Nat) = P.ts.length + 2:=hh;omega
 ·obtain ⟨us,ki,ou,ho,pw,sw,sc,sm,sz⟩:=h.o;refine ⟨?_,?_,?_,?_,pw,?_,?_,?_,?_⟩
  ·intro x hx;obtain ⟨q1,q2⟩:=nU x hx;simp only [De]; rw [e0 x q1]; exact us x q2
  ·intro x hx hC;exact ki x (nD x hx).2 hC
  ·intro x hx hC hr;obtain ⟨q1,q2⟩:=nD x hx;rw [e0 x q1] at hr;exact ou x q2 hC hr
  ·intro x hx;obtain ⟨q1,q2⟩:=nU x hx;simp only [Ho]; rw [e0 x q1]; exact ho x q2
  ·intro x hx; exact absurd hx (hz x)
  ·exact ⟨sc.2,sc.2⟩
  ·show 0<=_; omega
  ·intro _; exact ⟨rfl,rfl⟩
 ·intro i t ht;have hT:=h.th i t ht;have hil : i < P.ts.length:=(List.getElem?_eq_some_iff.1 ht).1;have hno : ∀ {p : Prop},i + 1 < PSweep.zero.made->p:=fun hh=>by have : i + 1 < 0:=hh; omega
  refine hT.swept ?_ ?_ (fun x hx=>e0 x (nU x hx).1) (fun _ _ hh=>hno hh)
  ·intro x hx hs _ _;have hf : ¬ F x:=by
    intro hf;obtain ⟨q1,_,_,_,_,q6⟩:=fr x hf;have h1:=hs.2.1 q1;rcases hs.2.2 (by omega) with ⟨z1,z2⟩ | ⟨_,z2⟩
    ·have:=hFt x hf z1; omega
    ·exact z2 q6
   obtain ⟨b1,b2,b3⟩:=(g3 x).2 hf;refine ⟨⟨b1,b2,fun s d=>(b3 s d).1⟩,?_⟩;unfold Safe;simp only [Us,Re,Ra];rw [b1];exact ⟨hs.1,hs.2.1,fun hh=>hno hh⟩
  ·intro x hx;have hf : ¬ F x:=by
    intro hf;obtain ⟨_,q2,_⟩:=fr x hf;obtain ⟨y1,y2,y3,y4⟩:=hx;obtain ⟨n,f1,_,_,_,_,f6,_⟩:=hT.f8 y1 y2 y3;rw [mem_one f1 y4] at q2;simp only [De] at q2; rw [f6] at q2; cases q2
   obtain ⟨b1,b2,b3⟩:=(g3 x).2 hf;exact ⟨b1,b2,fun s d=>(b3 s d).1⟩
theorem Inv.sweep (h : Inv C P) : Inv C P.doSweep.1:=by
 unfold PSt.doSweep;simp only;split
 ·exact h.sweep0
 ·next hm =>
  split
  ·next hl =>
   split
   ·exact h
   ·next hs=>exact h.sweepLook hl hs
  ·next hl =>
   split
   ·next he =>
    refine h.sweepDrop (by omega) ?_ ?_
    ·split
     ·next hh=>simp at hh; exact ⟨by omega,fun _=>Int.le_refl _⟩
     ·next hh =>
      refine ⟨Int.le_refl _,fun e=>?_⟩;simp [e] at hh; exact hh
    ·split
     ·next hh=>simp at hh; exact .inr ⟨hh.1,rfl⟩
     ·exact .inl rfl
   ·next he =>
    have:=h.o.sm
    exact h.sweepFree (by omega)
end
end
section
def Nk (M M' : PMem) (x : Int) : Prop:=(Ky M' x = Ky M x/\(M'.node x).value = (M.node x).value)/\(De M x->De M' x)
def Nl (M M' : PMem) (x : Int) : Prop:=Nk M M' x/\Ld M' x = Ld M x
section
variable {C C' : Int->Prop} {M M' M2 : PMem} {c c' : Int} {r r' : PSweep} {i j : Nat} {t t' : PThread} {ts : List PThread} {P : PSt} {x : Int} {k : PWork}
theorem Nl.refl (M : PMem) (x : Int) : Nl M M x:=⟨⟨⟨rfl,rfl⟩,id⟩,rfl⟩
theorem Nl.trans (h : Nl M M' x) (g : Nl M' M2 x) : Nl M M2 x:=⟨⟨⟨g.1.1.1.trans h.1.1.1,g.1.1.2.trans h.1.1.2⟩,fun d=>g.1.2 (h.1.2 d)⟩,g.2.trans h.2⟩
theorem nl_node (h : M'.node x = M.node x) : Nl M M' x:=by unfold Nl Nk Ky De Ld; rw [h]; exact ⟨⟨⟨rfl,rfl⟩,id⟩,rfl⟩
theorem nl_ns (h : M'.ns = M.ns) (x : Int) : Nl M M' x:=nl_node (node_ns h x)
theorem nl_modN (M : PMem) (n : Int) (f : PNode->PNode) (hf : ∀ e,((f e).key = e.key/\(f e).value = e.value)/\(e.dead = true->(f e).dead = true)/\(f e).leads = e.leads) (x : Int) : Nl M (M.modN n f) x:=by
 by_cases hn : M.hasNode n = true
 ·have:=node_modN hn f x
  by_cases e : x = n
  ·subst e;rw [if_pos rfl] at this;unfold Nl Nk Ky De Ld;rw [this];obtain ⟨h1,h2,h3⟩:=hf (M.node x);exact ⟨⟨h1,h2⟩,by rw [h3]⟩
  ·rw [if_neg e] at this; exact nl_node this
 ·have : M.modN n f = M:=by unfold PMem.modN; rw [if_neg hn]
  rw [this]; exact Nl.refl _ _
theorem nk_lead (M : PMem) (n : Int) (s : Bool) (x : Int) : Nk M (M.lead n s) x:=by
 unfold PMem.lead;split
 ·generalize (M.ent (M.pending n s)).dst = d;by_cases hn : M.hasNode n = true
  ·have:=node_modN hn (fun x=>{ x with leads:=upd x.leads s d }) x
   by_cases e : x = n
   ·subst e;rw [if_pos rfl] at this;unfold Nk Ky De;rw [this];exact ⟨⟨rfl,rfl⟩,id⟩
   ·rw [if_neg e] at this; exact (nl_node this).1
  ·have : ∀ f,M.modN n f = M:=fun f=>by unfold PMem.modN; rw [if_neg hn]
   rw [this]; exact (Nl.refl _ _).1
 ·exact (Nl.refl _ _).1
theorem nl_unlock (M : PMem) (t x : Int) : Nl M (M.unlock t) x:=by
 unfold Nl Nk Ky De Ld;rw [unlock_node];unfold unlocked;split <;> exact ⟨⟨⟨rfl,rfl⟩,id⟩,rfl⟩
theorem pend_ns (M : PMem) (n : Int) (s : Bool) (to : Int) : (M.pend n s to).ns = M.ns:=by unfold PMem.pend; split <;> rfl
theorem unpend_ns (M : PMem) (n : Int) (s : Bool) : (M.unpend n s).ns = M.ns:=by unfold PMem.unpend; split <;> rfl
theorem stamp_ns (M : PMem) (n : Int) (s : Bool) (st : Int) : (M.stamp n s st).ns = M.ns:=by unfold PMem.stamp; split <;> rfl
theorem stampsNew_ns (st : Int) : ∀ (l : List Int) (M : PMem),(M.stampsNew st l).ns = M.ns
 | [],_=>rfl
 | n :: l,M=>by
  show ((M.stampNew n st).stampsNew st l).ns = _;rw [stampsNew_ns st l];unfold PMem.stampNew;rw [stamp_ns,stamp_ns]
theorem Inv.keeps (h : Inv C P) (ht : P.ts[i]? = some t) (hb : t.busy = true) (x : Int) (hx : x = 1\/Gd P.mem C x) : Nk P.mem (P.step i t).1.mem x/\(t.work.next≠10->Nl P.mem (P.step i t).1.mem x):=by
 suffices hs : (t.work.next = 10->Nk P.mem (P.step i t).1.mem x)/\(t.work.next≠10->Nl P.mem (P.step i t).1.mem x) by
  by_cases hn : t.work.next = 10
  ·exact ⟨hs.1 hn,hs.2⟩
  ·exact ⟨(hs.2 hn).1,hs.2⟩
 have hT:=h.th i t ht;have hnx:=hT.nx hb;have hkd:=hT.kd hb;have hrd:=hT.rd hb;have hux:=h.gdUs hx;rcases (show t.work.next = 1\/t.work.next = 2\/t.work.next = 3\/t.work.next = 13\/(4<=t.work.next/\t.work.next<=12) by omega) with hn | hn | hn | hn | hn
 ·refine ⟨fun e=>by omega,fun _=>?_⟩;unfold PSt.step; simp only [hn]; exact Nl.refl _ _
 ·refine ⟨fun e=>by omega,fun _=>?_⟩;unfold PSt.step; simp only [hn]; exact Nl.refl _ _
 ·refine ⟨fun e=>by omega,fun _=>?_⟩;unfold PSt.step; simp only [hn]; exact Nl.refl _ _
 ·refine ⟨fun e=>by omega,fun _=>?_⟩;unfold PSt.step; simp only [hn]; exact Nl.refl _ _
 ·have hs : P.step i t = if t.work.kind = 3\/t.work.kind = 4 then P.read i t.work else P.update i t.work:=by
   unfold PSt.step;split <;> first | (rename_i hh; omega) | rfl
  rw [hs];by_cases hk : t.work.kind = 3\/t.work.kind = 4
  ·rw [if_pos hk]
   have:=hrd hk
   refine ⟨fun e=>by omega,fun _=>?_⟩;unfold PSt.read;simp only;split <;> exact Nl.refl _ _
  ·rw [if_neg hk];have hk : t.work.kind = 1\/t.work.kind = 2:=by omega
   unfold PSt.update;rcases (show t.work.next = 4\/t.work.next = 5\/t.work.next = 6\/t.work.next = 7\/t.work.next = 8\/t.work.next = 9\/t.work.next = 10\/t.work.next = 11\/t.work.next = 12 by omega) with hn | hn | hn | hn | hn | hn | hn | hn | hn
   ·refine ⟨fun e=>by omega,fun _=>?_⟩;simp only [hn]; exact Nl.refl _ _
   ·refine ⟨fun e=>by omega,fun _=>?_⟩;simp only [hn];rcases h.lock ht hb hn with ⟨_,q,_⟩ | ⟨_,q⟩
    ·rw [q];show Nl P.mem (P.mem.modN (lockNext t.work) fun x=>{ x with holder:=(i : Int) }) x;exact nl_modN _ _ (fun x=>{ x with holder:=(i : Int) }) (fun e=>⟨⟨rfl,rfl⟩,id,rfl⟩) x
    ·rw [q]; exact Nl.refl _ _
   ·refine ⟨fun e=>by omega,fun _=>?_⟩;simp only [hn];unfold PSt.check;split
    ·show Nl P.mem (P.mem.unlock i) x;exact nl_unlock _ _ _
    ·split <;> (show Nl P.mem P.mem x; exact Nl.refl _ _)
   ·refine ⟨fun e=>by omega,fun _=>?_⟩;simp only [hn];unfold PSt.prepare;split
    ·exact Nl.refl _ _
    ·next hroom =>
     rcases hk with hk | hk
     ·have hne : P.needs t.work.kind = (1,2):=by unfold PSt.needs; rw [hk,if_neg (by decide),if_neg (by rw [h.kind]; decide)]
      rw [hne] at hroom;simp only [hk,if_true];obtain ⟨n,M1,q1,q2,_,q4,_⟩:=h.grown ht hb hn (by simp only at hroom; omega) (by simp only at hroom; omega);rw [q2];refine nl_node ?_;show M1.node x = _;rw [q4,if_neg (show ¬ x = n from fun e=>q1 (e ▸ hux))]
     ·simp only [hk,show ¬ ((2 : Int) = 1) by decide,if_false];refine nl_ns ?_ x;show (P.prepareRemove t.work).1.ns = _;unfold PSt.prepareRemove;simp only [if_pos h.kind];exact pend_ns _ _ _ _
   ·refine ⟨fun e=>by omega,fun _=>?_⟩;simp only [hn];unfold PSt.take;split
    ·rcases hk with hk | hk
     ·obtain ⟨n,f1,f2,f3,f4,f5,f6,f7,f8,f9,f10,f11⟩:=hT.f8 hb hk (.inl hn);obtain ⟨t1,t2⟩:=hT.ts hb (by omega) (by omega);obtain ⟨u1,u2,u3,u4⟩:=unpend_e h.wm f10;have hnd:=node_ns u1;obtain ⟨_,_,v3,_,_⟩:=free_e (n:=n) u2 (hasN_used (by rw [hnd]; exact f4)) ⟨f2,f3⟩;refine nl_node ?_;show ((P.mem.unpend t.work.tsrc t.work.tside).frees t.work.made).node x = _;rw [t1,t2,f1];show ((P.mem.unpend t.work.stand false).free n).node x = _;rw [v3,if_neg,hnd];rintro rfl;rcases hx with q | q | q
      ·exact f3 q
      ·exact f5 q
      ·simp only [De] at q; rw [f6] at q; cases q
     ·refine nl_ns ?_ x;show ((P.mem.unpend t.work.tsrc t.work.tside).frees t.work.made).ns = _;rw [(hT.p2 hb hk (by omega) (by omega)).2];exact unpend_ns _ _ _
    ·split
     ·exact Nl.refl _ _
     ·exact nl_ns (stampsNew_ns _ _ _) x
   ·refine ⟨fun e=>by omega,fun _=>?_⟩;simp only [hn];have hto : P.mem.kills (P.takenOut t.work) = P.mem.modN t.work.ahead fun x=>{ x with dead:=true }:=by
     unfold PSt.takenOut;rw [if_neg (by rw [h.kind]; decide)]; rfl
    rw [hto];show Nl P.mem (P.mem.modN t.work.ahead fun x=>{ x with dead:=true }) x;exact nl_modN _ _ (fun x=>{ x with dead:=true }) (fun e=>⟨⟨rfl,rfl⟩,fun _=>rfl,rfl⟩) x
   ·refine ⟨fun _=>?_,fun e=>absurd hn e⟩;simp only [hn];show Nk P.mem (P.mem.lead t.work.tsrc t.work.tside) x;exact nk_lead _ _ _ _
   ·refine ⟨fun e=>by omega,fun _=>?_⟩;simp only [hn];show Nl P.mem (P.mem.stamp t.work.tsrc t.work.tside t.work.ans.stamp) x;exact nl_ns (stamp_ns _ _ _ _) x
   ·refine ⟨fun e=>by omega,fun _=>?_⟩;simp only [hn];unfold PSt.unlock;simp only;split
    ·have hre : (P.mem.unlock i).retires P.clock (P.takenOut t.work) = (P.mem.unlock i).modN t.work.ahead fun x=>{ x with retired:=true,retiredAt:=P.clock }:=by
      unfold PSt.takenOut;rw [if_neg (by rw [h.kind]; decide)]; rfl
     rw [hre];show Nl P.mem ((P.mem.unlock i).modN t.work.ahead fun x=>{ x with retired:=true,retiredAt:=P.clock }) x;exact (nl_unlock _ _ _).trans (nl_modN _ _ (fun x=>{ x with retired:=true,retiredAt:=P.clock }) (fun e=>⟨⟨rfl,rfl⟩,id,rfl⟩) x)
    ·show Nl P.mem (P.mem.unlock i) x;exact nl_unlock _ _ _
end
end
section
section
variable {C C' : Int->Prop} {M M' M2 : PMem} {c c' : Int} {r r' : PSweep} {i j : Nat} {t t' u : PThread} {ts : List PThread} {P : PSt} {x : Int} {k : PWork}
theorem step_mid (P : PSt) (h4 : 4<=t.work.next) (h12 : t.work.next<=12) : P.step i t = if t.work.kind = 3\/t.work.kind = 4 then P.read i t.work else P.update i t.work:=by
 unfold PSt.step;split <;> first | (rename_i hh; omega) | rfl
theorem Inv.moves (h : Inv C P) (ht : P.ts[i]? = some t) (hb : t.busy = true) (hn : ¬ (t.work.next = 5/\(t.work.kind = 1\/t.work.kind = 2))) (hr : ¬ (t.work.next = 4/\(t.work.kind = 3\/t.work.kind = 4))) : (P.step i t).2≠2:=by
 have hT:=h.th i t ht;have hnx:=hT.nx hb;have hkd:=hT.kd hb;have hrd:=hT.rd hb;rcases (show t.work.next = 1\/t.work.next = 2\/t.work.next = 3\/t.work.next = 13\/(4<=t.work.next/\t.work.next<=12) by omega) with hq | hq | hq | hq | hq
 ·unfold PSt.step; simp only [hq]; decide
 ·unfold PSt.step; simp only [hq]; decide
 ·unfold PSt.step; simp only [hq]; decide
 ·unfold PSt.step; simp only [hq]; decide
 ·rw [step_mid P hq.1 hq.2];by_cases hk : t.work.kind = 3\/t.work.kind = 4
  ·have:=hrd hk; omega
  ·rw [if_neg hk];unfold PSt.update;rcases (show t.work.next = 4\/t.work.next = 6\/t.work.next = 7\/t.work.next = 8\/t.work.next = 9\/t.work.next = 10\/t.work.next = 11\/t.work.next = 12 by omega) with e | e | e | e | e | e | e | e <;> simp only [e] <;> decide
theorem Inv.waits (h : Inv C P) (ht : P.ts[i]? = some t) (hb : t.busy = true) (hw : (P.step i t).2 = 2) : (P.step i t).1 = P/\((t.work.next = 5/\(t.work.kind = 1\/t.work.kind = 2)/\Ho P.mem (lockNext t.work)≠-1)\/∃ x d,d ∈ Pd P.mem x):=by
 by_cases hn : t.work.next = 5/\(t.work.kind = 1\/t.work.kind = 2)
 ·have hs : P.step i t = P.lock i t.work:=by
   rw [step_mid P (by omega) (by omega),if_neg (by omega)];unfold PSt.update;simp only [hn.1]
  rw [hs] at hw ⊢;rcases h.lock ht hb hn.1 with ⟨_,q,_⟩ | ⟨q1,q2⟩
  ·rw [q] at hw; exact absurd (show (1 : Int) = 2 from hw) (by decide)
  ·rw [q2]; exact ⟨rfl,.inl ⟨hn.1,hn.2,q1⟩⟩
 ·by_cases hr : t.work.next = 4/\(t.work.kind = 3\/t.work.kind = 4)
  ·have hs : P.step i t = P.read i t.work:=by rw [step_mid P (by omega) (by omega),if_pos hr.2]
   obtain ⟨x,h1,_⟩:=h.linkIs ht hb hr.1 hr.2;rw [hs] at hw ⊢;unfold PSt.read at hw ⊢;rw [h1] at hw ⊢;simp only at hw ⊢;by_cases hp : P.mem.hasPending x false = true
   ·rw [if_pos hp];refine ⟨rfl,.inr ⟨x,?_⟩⟩
    have:=hasPd_iff.1 hp
    cases hd : Pd P.mem x with
    | nil=>exact absurd hd this
    | cons d l=>exact ⟨d,by simp⟩
   ·rw [if_neg hp] at hw; exact absurd (show (1 : Int) = 2 from hw) (by decide)
  ·exact absurd hw (h.moves ht hb hn hr)
theorem Inv.kyle (h : Inv C P) (hx : x = 1\/Gd P.mem C x) (h0 : x≠0) : 0<=Ky P.mem x/\Ky P.mem x<=1099511627777:=by
 rcases hx with rfl | hx
 ·have:=h.n.a1.2.2.2.2.2; omega
 ·have:=h.gd01 hx h0; omega
theorem Inv.holder (h : Inv C P) (ht : P.ts[i]? = some t) (hb : t.busy = true) (hn : t.work.next = 5) (hh : Ho P.mem (lockNext t.work)≠-1) :
  ∃ j u,P.ts[j]? = some u/\u.busy = true/\(u.work.kind = 1\/u.work.kind = 2)/\((P.step j u).2≠2\/(u.work.next = 5/\Ho P.mem (lockNext u.work)≠-1/\lockNext u.work≠0/\(lockNext t.work≠0->Ky P.mem (lockNext t.work) < Ky P.mem (lockNext u.work)))):=by
 obtain ⟨_,_,l3,_,_,_,_⟩:=h.lockIs ht hb hn;obtain ⟨j,hj,hjo⟩:=(h.o.ho _ l3).resolve_left hh;have hju : P.ts[j]? = some P.ts[j]:=List.getElem?_eq_getElem hj;generalize P.ts[j] = u at hju;have hU:=h.th j u hju;obtain ⟨ub,um⟩:=(hU.hd _ l3).1 hjo;obtain ⟨_,_,ul,_⟩:=hU.heldUs ub um;obtain ⟨u1,u2,u3⟩:=hU.mid ub ul;refine ⟨j,u,hju,ub,u3,?_⟩;by_cases hmv : (P.step j u).2 = 2
 ·right;obtain ⟨_,w⟩:=h.waits hju ub hmv;have hu5 : u.work.next = 5:=by
   by_cases e : u.work.next = 5
   ·exact e
   ·exact absurd hmv (h.moves hju ub (fun q=>e q.1) (fun q=>by omega))
  have hw5 : Ho P.mem (lockNext u.work)≠-1:=by
   have hs : P.step j u = P.lock j u.work:=by
    rw [step_mid P (by omega) (by omega),if_neg (by omega)];unfold PSt.update;simp only [hu5]
   rw [hs] at hmv;rcases h.lock hju ub hu5 with ⟨_,q,_⟩ | ⟨q1,q2⟩
   ·rw [q] at hmv; exact absurd (show (1 : Int) = 2 from hmv) (by decide)
   ·exact q1
  have hl1 : u.work.locks = 1:=by
   have:=hU.l5 ub hu5
   have:=(wl_pos P.mem u.work).2
   omega
  have hln : lockNext u.work = u.work.ahead:=by unfold lockNext; rw [if_neg (by omega)]
  rw [hl1] at um;have hst : lockNext t.work = u.work.stand:=by simpa using um
  obtain ⟨_,_,x3⟩:=hU.xs ub (by omega) (by omega) u2;obtain ⟨_,_,c3,c4⟩:=hU.cs ub (by omega) u2;refine ⟨hu5,hw5,by rw [hln]; exact c3,?_⟩;intro h0;rw [hln,hst];rw [hst] at h0
  have:=x3.resolve_left h0
  omega
 ·exact .inl hmv
theorem Inv.chase (h : Inv C P) : ∀ (m i : Nat) (t : PThread),P.ts[i]? = some t->t.busy = true->t.work.next = 5->Ho P.mem (lockNext t.work)≠-1->lockNext t.work≠0->(1099511627777 - Ky P.mem (lockNext t.work)).toNat<=m->∃ j u,P.ts[j]? = some u/\u.busy = true/\(P.step j u).2≠2/\(u.work.kind = 1\/u.work.kind = 2)
 | 0,i,t,ht,hb,hn,hh,h0,hm=>by
  obtain ⟨j,u,hj,ub,uk,q | ⟨q1,q2,q3,q4⟩⟩:=h.holder ht hb hn hh
  ·exact ⟨j,u,hj,ub,q,uk⟩
  ·exfalso;have h1:=h.kyle (h.lockIs ht hb hn).2.2.2.1 h0;have h2:=h.kyle (h.lockIs hj ub q1).2.2.2.1 q3
   have:=q4 h0
   omega
 | m + 1,i,t,ht,hb,hn,hh,h0,hm=>by
  obtain ⟨j,u,hj,ub,uk,q | ⟨q1,q2,q3,q4⟩⟩:=h.holder ht hb hn hh
  ·exact ⟨j,u,hj,ub,q,uk⟩
  ·have h1:=h.kyle (h.lockIs ht hb hn).2.2.2.1 h0;have h2:=h.kyle (h.lockIs hj ub q1).2.2.2.1 q3
   have:=q4 h0
   exact Inv.chase h m j u hj ub q1 q2 q3 (by omega)
theorem Inv.live (h : Inv C P) (ht : P.ts[i]? = some t) (hb : t.busy = true) : ∃ j u,P.ts[j]? = some u/\u.busy = true/\(P.step j u).2≠2/\(j = i\/u.work.kind = 1\/u.work.kind = 2):=by
 by_cases hw : (P.step i t).2 = 2
 ·obtain ⟨_,⟨h5,_,hh⟩ | ⟨x,d,hd⟩⟩:=h.waits ht hb hw
  ·by_cases h0 : lockNext t.work = 0
   ·obtain ⟨j,u,hj,ub,uk,q | ⟨q1,q2,q3,_⟩⟩:=h.holder ht hb h5 hh
    ·exact ⟨j,u,hj,ub,q,.inr uk⟩
    ·obtain ⟨j,u,z1,z2,z3,z4⟩:=h.chase _ j u hj ub q1 q2 q3 (Nat.le_refl _);exact ⟨j,u,z1,z2,z3,.inr z4⟩
   ·obtain ⟨j,u,z1,z2,z3,z4⟩:=h.chase _ i t ht hb h5 hh h0 (Nat.le_refl _);exact ⟨j,u,z1,z2,z3,.inr z4⟩
  ·obtain ⟨j,u,hj,hu⟩:=h.e.pd x d hd;refine ⟨j,u,hj,?_,?_,.inr ?_⟩
   ·rcases hu with q | q
    ·exact q.1
    ·exact q.1
   ·rcases hu with ⟨q1,q2,q3,q4,_⟩ | ⟨q1,q2,q3,_⟩
    ·exact h.moves hj q1 (fun e=>by omega) (fun e=>by omega)
    ·exact h.moves hj q1 (fun e=>by omega) (fun e=>by omega)
   ·rcases hu with q | q
    ·exact q.2.1
    ·exact .inl q.2.1
 ·exact ⟨i,t,ht,hb,hw,.inl rfl⟩
end
end
section
structure AN where
 key : Int
 val : Int
 dead : Bool
 lead : Int
 hold : Int
structure ASt where
 nd : Int->AN
 cnt : Int
 clock : Int
 th : Nat->Option PWork
def ASt.put (a : ASt) (i : Nat) (k : PWork) : ASt:={ a with th:=fun j=>if j = i then some k else a.th j }
def ASt.mod (a : ASt) (x : Int) (f : AN->AN) : ASt:={ a with nd:=fun y=>if y = x then f (a.nd y) else a.nd y }
def ASt.unlock (a : ASt) (i : Nat) : ASt:={ a with nd:=fun y=>if (a.nd y).hold = i then { a.nd y with hold:=-1 } else a.nd y }
def awl (a : ASt) (k : PWork) : Nat:=if k.kind = 2/\(a.nd k.ahead).key = k.key then 2 else 1
def astep (a : ASt) (i : Nat) (k : PWork) : ASt × Int :=
 match k.next with
 | 1=>(a.put i { k with next:=2 },1)
 | 2=>(a.put i { k with next:=3 },1)
 | 3=>(a.put i { k with stand:=0,next:=4 },1)
 | 4=>(a.put i (if (a.nd (a.nd k.stand).lead).key < k.key then { k with stand:=(a.nd k.stand).lead } else { k with ahead:=(a.nd k.stand).lead,next:=5 }),1)
 | 5=>if (a.nd (lockNext k)).hold = -1 then ((a.mod (lockNext k) fun x=>{ x with hold:=i }).put i { k with locks:=k.locks + 1,next:=if awl a k<=k.locks + 1 then 6 else 5 },1) else (a,2)
 | 6=>if (a.nd k.stand).dead = false/\(a.nd k.stand).lead = k.ahead/\(a.nd k.ahead).dead = false then
   (if decide ((a.nd k.ahead).key = k.key) = (k.kind == 1) then (a.put i { k with ans:={ stamp:=a.clock },next:=12 },1) else (a.put i { k with next:=7 },1))
   else ((a.unlock i).put i { k with locks:=0,stand:=0,next:=4 },1)
 | 7=>if k.kind = 1 then (({ a.mod a.cnt (fun _=>⟨k.key,k.value,false,k.ahead,-1⟩) with cnt:=a.cnt + 1 } : ASt).put i { k with made:=[a.cnt],next:=8 },1) else (a.put i { k with next:=8 },1)
 | 8=>(({ a with clock:=a.clock + 1 } : ASt).put i (if k.kind = 2 then { k with ans:={ did:=true,stamp:=a.clock + 1,value:=(a.nd k.ahead).val },next:=9 } else { k with ans:={ did:=true,stamp:=a.clock + 1 },next:=10 }),1)
 | 9=>((a.mod k.ahead fun x=>{ x with dead:=true }).put i { k with next:=10 },1)
 | 10=>((a.mod k.stand fun x=>{ x with lead:=if k.kind = 1 then k.made.headD 0 else (a.nd k.ahead).lead }).put i { k with next:=11 },1)
 | 11=>(a.put i { k with next:=12 },1)
 | 12=>((a.unlock i).put i { k with locks:=0,next:=13 },1)
 | 13=>({ a with th:=fun j=>if j = i then none else a.th j },3)
 | _=>(a,1)
structure RW (b : Int->Int) (k ak : PWork) : Prop where
 kind : ak.kind = k.kind
 key : ak.key = k.key
 value : ak.value = k.value
 next : ak.next = k.next
 locks : ak.locks = k.locks
 ans : ak.ans = k.ans
 stand : 4<=k.next->k.next<=12->ak.stand = b k.stand
 ahead : 5<=k.next->k.next<=12->ak.ahead = b k.ahead
 made : k.kind = 1->(k.next = 8\/k.next = 10)->∃ n,k.made = [n]/\ak.made = [b n]
def Upd (t : PThread) : Prop:=t.busy = true/\(t.work.kind = 1\/t.work.kind = 2)
def Seen (b : Int->Int) (n : AN) (M : PMem) (x : Int) : Prop:=n.key = Ky M x/\n.val = (M.node x).value/\n.dead = (M.node x).dead/\n.hold = Ho M x/\(x≠1->n.lead = b (Ld M x))
structure Abs (b : Int->Int) (a : ASt) (P : PSt) : Prop where
 ck : a.clock = P.clock
 b0 : b 0 = 0
 b1 : b 1 = 1
 lt : ∀ x,Us P.mem x->b x < a.cnt
 inj : ∀ x y,Us P.mem x->Us P.mem y->b x = b y->x = y
 nd : ∀ x,Us P.mem x->Seen b (a.nd (b x)) P.mem x
 up : ∀ (i : Nat) t,P.ts[i]? = some t->Upd t->∃ ak,a.th i = some ak/\RW b t.work ak
 no : ∀ (i : Nat) t,P.ts[i]? = some t->¬ Upd t->a.th i = none
section
variable {C : Int->Prop} {b : Int->Int} {a a' : ASt} {P : PSt} {i : Nat} {t t' : PThread} {M' : PMem} {c' : Int} {ak ak' : PWork}
theorem Abs.put (h : Abs b a P) (ht : P.ts[i]? = some t) (hc : a'.clock = c') (hcn : a'.cnt = a.cnt) (hth : a'.th = fun j=>if j = i then some ak' else a.th j) (hu : ∀ x,Us M' x ↔ Us P.mem x) (hn : ∀ x,Us P.mem x->Seen b (a'.nd (b x)) M' x) (hk : Upd t') (hw : RW b t'.work ak') : Abs b a' { P with mem:=M',clock:=c',ts:=P.ts.set i t' }:=by
 have hi:=(List.getElem?_eq_some_iff.1 ht).1;refine ⟨hc,h.b0,h.b1,fun x hx=>by rw [hcn]; exact h.lt x ((hu x).1 hx),fun x y hx hy=>h.inj x y ((hu x).1 hx) ((hu y).1 hy),fun x hx=>hn x ((hu x).1 hx),?_,?_⟩
 ·intro j u hj hup;have hj' : (P.ts.set i t')[j]? = some u:=hj;rw [List.getElem?_set] at hj';rw [hth];by_cases e : i = j
  ·subst e;simp [hi] at hj'; subst hj';exact ⟨ak',by simp,hw⟩
  ·rw [if_neg e] at hj';simp only [if_neg (fun q : j = i=>e q.symm)];exact h.up j u hj' hup
 ·intro j u hj hup;have hj' : (P.ts.set i t')[j]? = some u:=hj;rw [List.getElem?_set] at hj';rw [hth];by_cases e : i = j
  ·subst e;simp [hi] at hj'; subst hj';exact absurd hk hup
  ·rw [if_neg e] at hj';simp only [if_neg (fun q : j = i=>e q.symm)];exact h.no j u hj' hup
theorem Abs.still (h : Abs b a P) (ht : P.ts[i]? = some t) (hn : ∀ x,M'.node x = P.mem.node x) (hk : Upd t') (hw : RW b t'.work ak') : Abs b (a.put i ak') { P with mem:=M',ts:=P.ts.set i t' }:=by
 have:=h.put (a':=a.put i ak') (M':=M') (c':=P.clock) ht h.ck rfl rfl (fun x=>by simp only [Us]; rw [hn]) (fun x hx=>by
  have:=h.nd x hx
  unfold Seen at *;simp only [Ky,Ho,Ld] at *;rw [hn]; exact this) hk hw
 exact this
theorem Abs.same (h : Abs b a P) (ht : P.ts[i]? = some t) (hk : Upd t') (hw : RW b t'.work ak') : Abs b (a.put i ak') { P with ts:=P.ts.set i t' }:=h.still (M':=P.mem) ht (fun _=>rfl) hk hw
theorem Abs.unlocks (h : Abs b a P) (ht : P.ts[i]? = some t) (hn : ∀ x,Us P.mem x->(M'.node x).used = true/\(M'.node x).key = (P.mem.node x).key/\(M'.node x).value = (P.mem.node x).value/\(M'.node x).dead = (P.mem.node x).dead/\(M'.node x).leads = (P.mem.node x).leads/\Ho M' x = if Ho P.mem x = i then -1 else Ho P.mem x) (hnu : ∀ x,Us M' x->Us P.mem x) (hk : Upd t') (hw : RW b t'.work ak') : Abs b ((a.unlock i).put i ak') { P with mem:=M',ts:=P.ts.set i t' }:=by
 refine h.put (a':=(a.unlock i).put i ak') (M':=M') (c':=P.clock) ht h.ck rfl rfl (fun x=>⟨hnu x,fun q=>(hn x q).1⟩) (fun x hx=>?_) hk hw;obtain ⟨s1,s2,s3,s4,s5⟩:=h.nd x hx;obtain ⟨_,n2,n3,n4,n5,n6⟩:=hn x hx;show Seen b (if (a.nd (b x)).hold = i then { a.nd (b x) with hold:=-1 } else a.nd (b x)) M' x;unfold Seen;simp only [Ky,Ld] at *;rw [n6,n2,n3,n4,n5];rw [s4];by_cases e : Ho P.mem x = i
 ·rw [if_pos e,if_pos e]; exact ⟨s1,s2,s3,rfl,s5⟩
 ·rw [if_neg e,if_neg e]; exact ⟨s1,s2,s3,s4,s5⟩
theorem Abs.mods (h : Abs b a P) (ht : P.ts[i]? = some t) {y : Int} (hy : Us P.mem y) {f : AN->AN} (hn : ∀ x,x≠y->M'.node x = P.mem.node x) (hs : (M'.node y).used = true) (hf : Seen b (f (a.nd (b y))) M' y) (hk : Upd t') (hw : RW b t'.work ak') : Abs b ((a.mod (b y) f).put i ak') { P with mem:=M',ts:=P.ts.set i t' }:=by
 have hus : ∀ x,Us M' x ↔ Us P.mem x:=by
  intro x;by_cases e : x = y
  ·subst e; exact ⟨fun _=>hy,fun _=>hs⟩
  ·simp only [Us]; rw [hn x e]
 refine h.put (a':=(a.mod (b y) f).put i ak') (M':=M') (c':=P.clock) ht h.ck rfl rfl hus (fun x hx=>?_) hk hw;show Seen b (if b x = b y then f (a.nd (b x)) else a.nd (b x)) M' x;by_cases e : x = y
 ·subst e; rw [if_pos rfl]; exact hf
 ·rw [if_neg (fun q=>e (h.inj x y hx hy q))]
  have:=h.nd x hx
  unfold Seen at *;simp only [Ky,Ho,Ld] at *;rw [hn x e]; exact this
end
end
section
section
variable {C : Int->Prop} {b : Int->Int} {a a' : ASt} {P : PSt} {i : Nat} {t t' : PThread} {M' : PMem} {c' : Int} {ak ak' : PWork}
def Stp (b' : Int->Int) (a : ASt) (ak : PWork) (P : PSt) (i : Nat) (t : PThread) : Prop:=(P.step i t).2 = (astep a i ak).2/\Abs b' (astep a i ak).1 (P.step i t).1
theorem Stp.of {b' : Int->Int} {P' : PSt} {a1 : ASt} {n : Int} (hs : P.step i t = (P',n)) (ha : astep a i ak = (a1,n)) (h : Abs b' a1 P') : Stp b' a ak P i t:=by
 unfold Stp;rw [hs,ha]; exact ⟨rfl,h⟩
theorem Abs.s123 (h : Abs b a P) (ht : P.ts[i]? = some t) (hu : Upd t) (hw : RW b t.work ak) (hn : 1<=t.work.next) (hn3 : t.work.next<=3) : Stp b a ak P i t:=by
 have hnx:=hw.next
 rcases (show t.work.next = 1\/t.work.next = 2\/t.work.next = 3 by omega) with e | e | e
 ·rw [e] at hnx;refine Stp.of (P':=P.setT i { t with slot:=1,work:={ t.work with next:=2 } }) (a1:=a.put i { ak with next:=2 }) (n:=1) (by unfold PSt.step; simp only [e]) (by unfold astep; simp only [hnx]) ?_;refine h.same ht ⟨hu.1,hu.2⟩ ⟨hw.kind,hw.key,hw.value,rfl,hw.locks,hw.ans,fun q=>absurd (show 4<=2 from q) (by decide),fun q=>absurd (show 5<=2 from q) (by decide),fun _ q=>?_⟩;exact absurd (show 2 = 8\/2 = 10 from q) (by decide)
 ·rw [e] at hnx;refine Stp.of (P':=P.setT i { t with work:={ t.work with time:=P.clock,next:=3 } }) (a1:=a.put i { ak with next:=3 }) (n:=1) (by unfold PSt.step; simp only [e]) (by unfold astep; simp only [hnx]) ?_;refine h.same ht ⟨hu.1,hu.2⟩ ⟨hw.kind,hw.key,hw.value,rfl,hw.locks,hw.ans,fun q=>absurd (show 4<=3 from q) (by decide),fun q=>absurd (show 5<=3 from q) (by decide),fun _ q=>?_⟩;exact absurd (show 3 = 8\/3 = 10 from q) (by decide)
 ·rw [e] at hnx;refine Stp.of (P':=P.setT i { t with slot:=2,work:=t.work.home }) (a1:=a.put i { ak with stand:=0,next:=4 }) (n:=1) (by unfold PSt.step; simp only [e]) (by unfold astep; simp only [hnx]) ?_;refine h.same ht ⟨hu.1,hu.2⟩ ⟨hw.kind,hw.key,hw.value,rfl,hw.locks,hw.ans,fun _ _=>h.b0.symm,fun q=>absurd (show 5<=4 from q) (by decide),fun _ q=>?_⟩;exact absurd (show 4 = 8\/4 = 10 from q) (by decide)
theorem Abs.seenUs (h : Abs b a P) {x y : Int} (hx : Us P.mem x) (e : y = b x) : Seen b (a.nd y) P.mem x:=by rw [e]; exact h.nd x hx
theorem step_upd (hu : Upd t) (h4 : 4<=t.work.next) (h12 : t.work.next<=12) : P.step i t = P.update i t.work:=by
 rw [step_mid P h4 h12,if_neg (by have:=hu.2; omega)]
theorem Abs.s4 (h : Abs b a P) (hI : Inv C P) (ht : P.ts[i]? = some t) (hu : Upd t) (hw : RW b t.work ak) (hn : t.work.next = 4) : Stp b a ak P i t:=by
 have hnx:=hw.next
 rw [hn] at hnx;have hT:=hI.th i t ht;have hk:=hu.2;obtain ⟨g1,g2,g3⟩:=hT.xs hu.1 (by omega) (by omega) (by omega);have hst:=hw.stand (by omega) (by omega);obtain ⟨s1,s2,s3,s4,s5⟩:=h.seenUs g2.1 hst;have hlead:=s5 (hI.gdLinks g1).2;have hus:=hI.gdUs (hI.next g1).1;obtain ⟨y1,_⟩:=h.seenUs hus hlead;have hlf:=(hI.side g1 t.work.key).2.2;refine Stp.of (P':=P.setW i (P.walk t.work)) (n:=1) (by rw [step_upd hu (by omega) (by omega)]; unfold PSt.update; simp only [hn]) (by unfold astep; simp only [hnx]; rfl) ?_;rw [setW_to P ht];unfold PSt.walk;rw [hlf];have hpass : P.isPassed (Ld P.mem t.work.stand) t.work.key = decide (Ky P.mem (Ld P.mem t.work.stand) < t.work.key):=by
  unfold PSt.isPassed;rw [if_neg (by rw [hI.kind]; decide)]
 rw [hpass,y1,hw.key];by_cases hp : Ky P.mem (Ld P.mem t.work.stand) < t.work.key
 ·rw [if_pos hp,decide_eq_true hp,if_pos rfl];refine h.same ht ⟨hu.1,hu.2⟩ ⟨hw.kind,rfl,hw.value,hn.symm,hw.locks,hw.ans,fun _ _=>hlead,fun q=>?_,fun _ q=>?_⟩
  ·have : 5<=t.work.next:=q; omega
  ·have : t.work.next = 8\/t.work.next = 10:=q; omega
 ·rw [if_neg hp,decide_eq_false hp,if_neg (by decide)];refine h.same ht ⟨hu.1,hu.2⟩ ⟨hw.kind,rfl,hw.value,rfl,hw.locks,hw.ans,fun _ _=>hst,fun _ _=>hlead,fun _ q=>?_⟩;exact absurd (show 5 = 8\/5 = 10 from q) (by decide)
theorem Abs.s5 (h : Abs b a P) (hI : Inv C P) (ht : P.ts[i]? = some t) (hu : Upd t) (hw : RW b t.work ak) (hn : t.work.next = 5) : Stp b a ak P i t:=by
 have hnx:=hw.next
 rw [hn] at hnx;have hT:=hI.th i t ht;have hk:=hu.2;have hst:=hw.stand (by omega) (by omega);have hah:=hw.ahead (by omega) (by omega);obtain ⟨l1,l2,l3,l4,l5,l6,l7⟩:=hI.lockIs ht hu.1 hn;have hln : lockNext ak = b (lockNext t.work):=by
  unfold lockNext;rw [hw.locks];split
  ·exact hst
  ·exact hah
 obtain ⟨s1,s2,s3,s4,s5⟩:=h.seenUs l3 hln;obtain ⟨c1,c2,c3,c4⟩:=hT.cs hu.1 (by omega) (by omega);obtain ⟨y1,_⟩:=h.seenUs c2.1 hah;have hwl : awl a ak = wl P.mem t.work:=by unfold awl wl; rw [hw.kind,hw.key,y1]
 have hup : P.step i t = P.lock i t.work:=by rw [step_upd hu (by omega) (by omega)]; unfold PSt.update; simp only [hn]
 rcases hI.lock ht hu.1 hn with ⟨q1,q2,_⟩ | ⟨q1,q2⟩
 ·refine Stp.of (hup.trans q2) (by unfold astep; simp only [hnx]; rw [s4,if_pos q1]) ?_;rw [setMW_to P ht,hln];have g:=node_modN (hasN_used l3) (fun x=>{ x with holder:=(i : Int) });refine h.mods ht l3 (fun x hx=>by rw [g,if_neg hx]) (by rw [g,if_pos rfl]; exact l3) ?_ ⟨hu.1,hu.2⟩ ?_
  ·unfold Seen;simp only [Ky,Ho,Ld];rw [g,if_pos rfl];obtain ⟨z1,z2,z3,z4,z5⟩:=h.nd _ l3;exact ⟨z1,z2,z3,rfl,z5⟩
  ·refine ⟨hw.kind,hw.key,hw.value,by show (if _ then _ else _) = (if _ then _ else _); rw [hwl,hw.locks],by show _ + 1 = _ + 1; rw [hw.locks],hw.ans,fun _ _=>hst,fun _ _=>hah,fun _ q=>?_⟩;have hq : (if wl P.mem t.work<=t.work.locks + 1 then 6 else 5) = 8\/(if wl P.mem t.work<=t.work.locks + 1 then 6 else 5) = 10:=q;split at hq <;> omega
 ·refine Stp.of (hup.trans q2) (by unfold astep; simp only [hnx]; rw [s4,if_neg q1]) h
theorem Abs.s6 (h : Abs b a P) (hI : Inv C P) (ht : P.ts[i]? = some t) (hu : Upd t) (hw : RW b t.work ak) (hn : t.work.next = 6) : Stp b a ak P i t:=by
 have hnx:=hw.next
 rw [hn] at hnx;have hT:=hI.th i t ht;have hk:=hu.2;have hst:=hw.stand (by omega) (by omega);have hah:=hw.ahead (by omega) (by omega);obtain ⟨g1,g2,g3⟩:=hT.xs hu.1 (by omega) (by omega) (by omega);obtain ⟨c1,c2,c3,c4⟩:=hT.cs hu.1 (by omega) (by omega);obtain ⟨s1,s2,s3,s4,s5⟩:=h.seenUs g2.1 hst;obtain ⟨y1,y2,y3,y4,y5⟩:=h.seenUs c2.1 hah;have hlead:=s5 (hI.gdLinks g1).2;have hout:=hI.outd ht hu.1 (by omega) (by omega) (by omega);have hus:=hI.gdUs (hI.next g1).1;have hcond : ((a.nd ak.stand).dead = false/\(a.nd ak.stand).lead = ak.ahead/\(a.nd ak.ahead).dead = false) ↔ ((P.mem.node t.work.stand).dead = false/\Ld P.mem t.work.stand = t.work.ahead/\(P.mem.node t.work.ahead).dead = false):=by
  rw [s3,hlead,y3,hah];constructor
  ·rintro ⟨p,q,r⟩; exact ⟨p,h.inj _ _ hus c2.1 q,r⟩
  ·rintro ⟨p,q,r⟩; exact ⟨p,by rw [q],r⟩
 have hup : P.step i t = (P.check i t.work,1):=by rw [step_upd hu (by omega) (by omega)]; unfold PSt.update; simp only [hn]
 unfold PSt.check at hup;by_cases hc : (P.mem.node t.work.stand).dead = false/\Ld P.mem t.work.stand = t.work.ahead/\(P.mem.node t.work.ahead).dead = false
 ·have ho : P.outdated t.work = false:=by
   cases q : P.outdated t.work
   ·rfl
   ·exact absurd hc (hout.1 q)
  rw [ho,if_neg (by decide),Inv.meets] at hup;have hm : (decide ((a.nd ak.ahead).key = ak.key) = (ak.kind == 1)) ↔ (decide (Ky P.mem t.work.ahead = t.work.key) = (t.work.kind == 1)):=by rw [y1,hw.key,hw.kind]
  by_cases hd : decide (Ky P.mem t.work.ahead = t.work.key) = (t.work.kind == 1)
  ·rw [if_pos (by rw [hd]; simp)] at hup;refine Stp.of hup (by unfold astep; simp only [hnx]; rw [if_pos (hcond.2 hc),if_pos (hm.2 hd)]) ?_;rw [setW_to P ht];refine h.same ht ⟨hu.1,hu.2⟩ ⟨hw.kind,hw.key,hw.value,rfl,hw.locks,by show ({ stamp:=a.clock } : BAns) = { stamp:=P.clock }; rw [h.ck],fun _ _=>hst,fun _ _=>hah,fun _ q=>?_⟩;exact absurd (show 12 = 8\/12 = 10 from q) (by decide)
  ·rw [if_neg (by simpa using hd)] at hup;refine Stp.of hup (by unfold astep; simp only [hnx]; rw [if_pos (hcond.2 hc),if_neg (fun q=>hd (hm.1 q))]) ?_;rw [setW_to P ht];refine h.same ht ⟨hu.1,hu.2⟩ ⟨hw.kind,hw.key,hw.value,rfl,hw.locks,hw.ans,fun _ _=>hst,fun _ _=>hah,fun _ q=>?_⟩;exact absurd (show 7 = 8\/7 = 10 from q) (by decide)
 ·have ho : P.outdated t.work = true:=hout.2 hc;rw [ho,if_pos rfl] at hup;refine Stp.of hup (by unfold astep; simp only [hnx]; rw [if_neg (fun q=>hc (hcond.1 q))]) ?_;rw [setMW_to P ht];have huh:=(unlock_hold P.mem i).to;refine h.unlocks ht (fun x hx=>?_) (fun x hx=>?_) ⟨hu.1,hu.2⟩ ⟨hw.kind,hw.key,hw.value,rfl,rfl,hw.ans,fun _ _=>h.b0.symm,fun q=>absurd (show 5<=4 from q) (by decide),fun _ q=>?_⟩
  ·have hx' : (P.mem.node x).used = true:=hx;refine ⟨by rw [(huh x).1]; exact hx',(huh x).2.2.2.2.1,?_,(huh x).2.1,(huh x).2.2.2.2.2.1,unlock_ho P.mem i x hx⟩;obtain ⟨g,hg⟩:=unlock_hold P.mem i x;rw [hg]
  ·simp only [Us] at hx ⊢; rw [(huh x).1] at hx; exact hx
  ·exact absurd (show 4 = 8\/4 = 10 from q) (by decide)
end
end
end Go.Proofs.YtfccelbmacjifabGreat
