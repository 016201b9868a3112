import Derived.Test.YtfccelbmacjifaaGreatP0
import Derived.Test.YtfccelbmacjifaaGreatP5
set_option linter.unusedSimpArgs false
set_option maxRecDepth 100000
set_option maxHeartbeats 4000000
namespace Go.Proofs.YtfccelbmacjifaaGreat
section
section
variable {C C' : Int->Prop} {M M' : PMem} {c c' : Int} {r r' : PSweep} {i j : Nat} {t t' : PThread} {ts : List PThread} {P : PSt} {x : Int} {k : PWork}
def Gone (M : PMem) (ht : Bool) (tm : Int) (l : List Nat) (x : Int) : Prop:=(∃ n ∈ l,((n : Nat) : Int) = x)/\(ht = true->Ra M x < tm)
theorem freesIf_ok (ht : Bool) (tm : Int) : ∀ (l : List Nat) (M : PMem),Wm M->(∀ n ∈ l,M.hasNode (n : Int) = true/\(n : Int)≠0/\(n : Int)≠1) ->
  Wm (M.freesIf ht tm l)/\(M.freesIf ht tm l).ns.length = M.ns.length/\(∀ x,(Gone M ht tm l x->(M.freesIf ht tm l).node x = PNode.zero/\Pd (M.freesIf ht tm l) x = []/\∀ s d,¬ Sd (M.freesIf ht tm l) x s d)/\(¬ Gone M ht tm l x->(M.freesIf ht tm l).node x = M.node x/\Pd (M.freesIf ht tm l) x = Pd M x/\∀ s d,Sd (M.freesIf ht tm l) x s d ↔ Sd M x s d))
 | [],M,hw,_=>⟨hw,rfl,fun x=>⟨fun h=>(by obtain ⟨n,hn,_⟩:=h.1; cases hn),fun _=>⟨rfl,rfl,fun _ _=>Iff.rfl⟩⟩⟩
 | n :: l,M,hw,hl=>by
  obtain ⟨h1,h2⟩:=hl n (by simp);unfold PMem.freesIf;by_cases hc : (!ht || decide ((M.node (n : Int)).retiredAt < tm)) = true
  ·rw [if_pos hc];have hc' : ht = true->Ra M n < tm:=by
    intro e; rw [e] at hc; simpa using hc
   obtain ⟨f1,f2,f3,f4,f5⟩:=free_e hw h1 h2;obtain ⟨i1,i2,i3⟩:=freesIf_ok ht tm l (M.free n) f2 (fun m hm=>by rw [hasN_len f1]; exact hl m (by simp [hm]));refine ⟨i1,by rw [i2,f1],fun x=>?_⟩;obtain ⟨a,b⟩:=i3 x;by_cases hx : x = (n : Int)
   ·have hg : Gone M ht tm (n :: l) x:=⟨⟨n,by simp,hx.symm⟩,by rw [hx]; exact hc'⟩;refine ⟨fun _=>?_,fun h=>absurd hg h⟩;by_cases hG : Gone (M.free n) ht tm l x
    ·exact a hG
    ·obtain ⟨b1,b2,b3⟩:=b hG;rw [b1,b2,f3,f4,if_pos hx,if_pos hx];exact ⟨rfl,rfl,fun s d hs=>((f5 x s d).1 ((b3 s d).1 hs)).1 hx⟩
   ·have hiff : Gone (M.free n) ht tm l x ↔ Gone M ht tm (n :: l) x:=by
     unfold Gone;have : Ra (M.free n) x = Ra M x:=by simp only [Ra]; rw [f3,if_neg hx]
     rw [this];refine and_congr ⟨?_,?_⟩ Iff.rfl
     ·rintro ⟨m,hm,e⟩; exact ⟨m,by simp [hm],e⟩
     ·rintro ⟨m,hm,e⟩;rcases List.mem_cons.1 hm with rfl | hm
      ·exact absurd e.symm hx
      ·exact ⟨m,hm,e⟩
    refine ⟨fun h=>a (hiff.2 h),fun h=>?_⟩;obtain ⟨b1,b2,b3⟩:=b (fun hh=>h (hiff.1 hh));rw [b1,b2,f3,f4,if_neg hx,if_neg hx];exact ⟨rfl,rfl,fun s d=>by rw [b3,f5]; exact ⟨fun h=>h.2,fun h=>⟨hx,h⟩⟩⟩
  ·rw [if_neg hc];obtain ⟨i1,i2,i3⟩:=freesIf_ok ht tm l M hw (fun m hm=>hl m (by simp [hm]));refine ⟨i1,i2,fun x=>?_⟩;have hiff : Gone M ht tm l x ↔ Gone M ht tm (n :: l) x:=by
    constructor
    ·rintro ⟨⟨m,hm,e⟩,h⟩; exact ⟨⟨m,by simp [hm],e⟩,h⟩
    ·rintro ⟨⟨m,hm,e⟩,h⟩;rcases List.mem_cons.1 hm with rfl | hm
     ·exfalso;apply hc;cases hh : ht
      ·rfl
      ·have:=h hh
       rw [<- e] at this;simpa using this
     ·exact ⟨⟨m,hm,e⟩,h⟩
   rw [<- hiff]; exact i3 x
theorem Inv.sweepFree (h : Inv C P) (hm : P.sweep.made = P.ts.length + 2) : Inv C { P with mem:=P.mem.freesIf P.sweep.hasTime P.sweep.time P.sweep.retired,sweep:=PSweep.zero }:=by
 have hre : ∀ x,InSw P.sweep x->Re P.mem x/\De P.mem x/\¬ C x/\x≠0/\x≠1:=by
  intro x hx;have h1:=(h.o.sw x hx).1;obtain ⟨h2,h3,_⟩:=h.n.mr x h1;refine ⟨h1,h2,h3,?_,?_⟩
  ·rintro rfl; exact h3 h.n.a0.1
  ·rintro rfl; simp only [De] at h2; rw [h.n.a1.2.2.2.1] at h2; cases h2
 obtain ⟨g1,g2,g3⟩:=freesIf_ok P.sweep.hasTime P.sweep.time P.sweep.retired P.mem h.wm (by
  intro n hn;obtain ⟨_,h2,_,h4,h5⟩:=hre (n : Int) ⟨n,hn,rfl⟩;exact ⟨hasN_used (h.n.md _ h2).1,h4,h5⟩)
 generalize P.mem.freesIf P.sweep.hasTime P.sweep.time P.sweep.retired = M1 at *;have fr : ∀ x,Gone P.mem P.sweep.hasTime P.sweep.time P.sweep.retired x->Re P.mem x/\De P.mem x/\¬ C x/\x≠0/\x≠1/\InSw P.sweep x:=fun x hx=>by
  obtain ⟨a,b,c,d,e⟩:=hre x hx.1;exact ⟨a,b,c,d,e,hx.1⟩
 generalize hF : Gone P.mem P.sweep.hasTime P.sweep.time P.sweep.retired = F at *;have hFi : ∀ x,InSw P.sweep x->(P.sweep.hasTime = true->Ra P.mem x < P.sweep.time)->F x:=fun x h1 h2=>by rw [<- hF]; exact ⟨h1,h2⟩
 have hFt : ∀ x,F x->(P.sweep.hasTime = true->Ra P.mem x < P.sweep.time):=fun x hx=>by rw [<- hF] at hx; exact hx.2
 have e0 : ∀ x,¬ F x->M1.node x = P.mem.node x:=fun x hx=>((g3 x).2 hx).1
 have ez : ∀ x,F x->M1.node x = PNode.zero:=fun x hx=>((g3 x).1 hx).1
 have nU : ∀ x,Us M1 x->¬ F x/\Us P.mem x:=by
  intro x hx;by_cases hf : F x
  ·simp only [Us] at hx; rw [ez x hf] at hx; exact nomatch hx
  ·exact ⟨hf,by simp only [Us] at hx ⊢; rw [e0 x hf] at hx; exact hx⟩
 have nD : ∀ x,De M1 x->¬ F x/\De P.mem x:=by
  intro x hx;by_cases hf : F x
  ·simp only [De] at hx; rw [ez x hf] at hx; exact nomatch hx
  ·exact ⟨hf,by simp only [De] at hx ⊢; rw [e0 x hf] at hx; exact hx⟩
 have nR : ∀ x,Re M1 x->¬ F x/\Re P.mem x:=by
  intro x hx;by_cases hf : F x
  ·simp only [Re] at hx; rw [ez x hf] at hx; exact nomatch hx
  ·exact ⟨hf,by simp only [Re] at hx ⊢; rw [e0 x hf] at hx; exact hx⟩
 have nC : ∀ x,C x->¬ F x:=fun x hc hf=>(fr x hf).2.2.1 hc
 have n1' : ¬ F 1:=fun hf=>(fr 1 hf).2.2.2.2.1 rfl
 have nS : ∀ x s d,Sd M1 x s d->¬ F x/\Sd P.mem x s d:=by
  intro x s d hs;by_cases hf : F x
  ·exact absurd hs (((g3 x).1 hf).2.2 s d)
  ·exact ⟨hf,((((g3 x).2 hf).2.2) s d).1 hs⟩
 have nSd : ∀ x s d,¬ F x->Sd P.mem x s d->¬ F d:=by
  intro x s d hx hs hf;obtain ⟨q1,q2,q3,q4,q5,q6⟩:=fr d hf;obtain ⟨z1,z2⟩:=h.e.dr hm x s d hs q6 (hFt d hf);exact hx (hFi x z1 (fun e=>by have:=hFt d hf e; omega))
 have nL : ∀ y,De P.mem y->¬ C y->¬ F y->¬ F (Ld P.mem y):=by
  intro y hy hc hf hg;obtain ⟨q1,q2,q3,q4,q5,q6⟩:=fr _ hg;obtain ⟨_,_,z⟩:=h.n.mo y hy hc;rcases z with z | z | ⟨_,_,z3,z4,z5⟩
  ·exact q5 z
  ·exact q3 z
  ·have h1:=z4 q1;exact hf (hFi y (z5 q6) (fun e=>by have:=hFt _ hg e; omega))
 have hsd : ∀ x s d,¬ F x->Sd P.mem x s d->Sd M1 x s d:=fun x s d hx hs=>((((g3 x).2 hx).2.2) s d).2 hs
 have hvd : ∀ x s,¬ F x->Vd P.mem P.ts x s->Vd M1 P.ts x s:=by
  rintro x s hx (⟨d,hv⟩ | hv)
  ·exact .inl ⟨d,hsd x s d hx hv⟩
  ·exact .inr hv
 have hz : ∀ x,¬ InSw PSweep.zero x:=by rintro x ⟨n,hn,_⟩; cases hn
 refine ⟨h.kind,g1,?_,?_,?_,?_⟩
 ·obtain ⟨n0,n1,mc,kr,mi,md,mr,mo⟩:=h.n;refine ⟨?_,?_,?_,?_,?_,?_,?_,?_⟩
  ·rw [e0 0 (nC 0 n0.1)]; exact n0
  ·simp only [Us,Ky]; rw [e0 1 n1']; exact n1
  ·intro x hx;obtain ⟨z1,z2,z3,z4,z5,z6⟩:=mc x hx;have hl : ¬ F (Ld P.mem x):=by rcases z4 with z | z; rw [z]; exact n1'; exact nC _ z
   simp only [Us,Ld,Lt,Ky] at *;rw [e0 x (nC x hx),e0 _ hl];exact ⟨z1,z2,z3,z4,z5,z6⟩
  ·intro x hx h0 h1;obtain ⟨q1,q2⟩:=nU x hx;simp only [Ky]; rw [e0 x q1]; exact kr x q2 h0 h1
  ·intro x y hx hy he;simp only [Ld] at he;rw [e0 x (nC x hx),e0 y (nC y hy)] at he;exact mi x y hx hy he
  ·intro x hx;obtain ⟨q1,q2⟩:=nD x hx;simp only [Us]; rw [e0 x q1]; exact md x q2
  ·intro x hx;obtain ⟨q1,q2⟩:=nR x hx;simp only [De,Ra]; rw [e0 x q1]; exact mr x q2
  ·intro y hy hc;obtain ⟨q1,q2⟩:=nD y hy;obtain ⟨z1,z2,z3⟩:=mo y q2 hc;have hl:=nL y q2 hc q1;simp only [Ld,Ky,De,Re,Ra] at *;rw [e0 y q1,e0 _ hl];refine ⟨z1,z2,?_⟩;rcases z3 with z | z | ⟨y1,y2,y3,y4,_⟩
   ·exact .inl z
   ·exact .inr (.inl z)
   ·exact .inr (.inr ⟨y1,y2,y3,y4,fun hh=>absurd hh (hz _)⟩)
 ·obtain ⟨ms,pd,nw,ol,dr⟩:=h.e;refine ⟨?_,?_,?_,?_,?_⟩
  ·intro x s d hs;obtain ⟨q1,q2⟩:=nS x s d hs;simp only [Us,De,Lt,Ky];rw [e0 x q1,e0 d (nSd x s d q1 q2)];exact ms x s d q2
  ·intro x d hd;by_cases hf : F x
   ·simp only at hd; rw [((g3 x).1 hf).2.1] at hd; cases hd
   ·simp only at hd; rw [((g3 x).2 hf).2.1] at hd; exact pd x d hd
  ·intro x s d hs;obtain ⟨q1,q2⟩:=nS x s d hs;simp only [Ld];rw [e0 x q1];rcases nw x s d q2 with z | ⟨s',z1,z2⟩
   ·exact .inl z
   ·exact .inr ⟨s',z1,hvd x s' q1 z2⟩
  ·intro x s d hs hr;obtain ⟨q1,q2⟩:=nS x s d hs;obtain ⟨r1,r2⟩:=nR d hr;simp only [Re,Ra];rw [e0 x q1,e0 d r1];rcases ol x s d q2 r2 with ⟨s',z1,z2,z3⟩ | ⟨z1,z2,_⟩
   ·exact .inl ⟨s',z1,z2,hvd x s' q1 z3⟩
   ·exact .inr ⟨z1,z2,fun hh=>absurd hh (hz _)⟩
  ·intro hh;have : (0 : Nat) = P.ts.length + 2:=hh;omega
 ·obtain ⟨us,ki,ou,ho,pw,sw,sc,sm,sz⟩:=h.o;refine ⟨?_,?_,?_,?_,pw,?_,?_,?_,?_⟩
  ·intro x hx;obtain ⟨q1,q2⟩:=nU x hx;simp only [De]; rw [e0 x q1]; exact us x q2
  ·intro x hx hC;exact ki x (nD x hx).2 hC
  ·intro x hx hC hr;obtain ⟨q1,q2⟩:=nD x hx;rw [e0 x q1] at hr;exact ou x q2 hC hr
  ·intro x hx;obtain ⟨q1,q2⟩:=nU x hx;simp only [Ho]; rw [e0 x q1]; exact ho x q2
  ·intro x hx; exact absurd hx (hz x)
  ·exact ⟨sc.2,sc.2⟩
  ·show 0<=_; omega
  ·intro _; exact ⟨rfl,rfl⟩
 ·intro i t ht;have hT:=h.th i t ht;have hil : i < P.ts.length:=(List.getElem?_eq_some_iff.1 ht).1;have hno : ∀ {p : Prop},i + 1 < PSweep.zero.made->p:=fun hh=>by have : i + 1 < 0:=hh; omega
  refine hT.swept ?_ ?_ (fun x hx=>e0 x (nU x hx).1) (fun _ _ hh=>hno hh)
  ·intro x hx hs _ _;have hf : ¬ F x:=by
    intro hf;obtain ⟨q1,_,_,_,_,q6⟩:=fr x hf;have h1:=hs.2.1 q1;rcases hs.2.2 (by omega) with ⟨z1,z2⟩ | ⟨_,z2⟩
    ·have:=hFt x hf z1; omega
    ·exact z2 q6
   obtain ⟨b1,b2,b3⟩:=(g3 x).2 hf;refine ⟨⟨b1,b2,fun s d=>(b3 s d).1⟩,?_⟩;unfold Safe;simp only [Us,Re,Ra];rw [b1];exact ⟨hs.1,hs.2.1,fun hh=>hno hh⟩
  ·intro x hx;have hf : ¬ F x:=by
    intro hf;obtain ⟨_,q2,_⟩:=fr x hf;obtain ⟨y1,y2,y3,y4⟩:=hx;obtain ⟨n,f1,_,_,_,_,f6,_⟩:=hT.f8 y1 y2 y3;rw [mem_one f1 y4] at q2;simp only [De] at q2; rw [f6] at q2; cases q2
   obtain ⟨b1,b2,b3⟩:=(g3 x).2 hf;exact ⟨b1,b2,fun s d=>(b3 s d).1⟩
theorem Inv.sweep (h : Inv C P) : Inv C P.doSweep.1:=by
 unfold PSt.doSweep;simp only;split
 ·exact h.sweep0
 ·next hm =>
  split
  ·next hl =>
   split
   ·exact h
   ·next hs=>exact h.sweepLook hl hs
  ·next hl =>
   split
   ·next he =>
    refine h.sweepDrop (by omega) ?_ ?_
    ·split
     ·next hh=>simp at hh; exact ⟨by omega,fun _=>Int.le_refl _⟩
     ·next hh =>
      refine ⟨Int.le_refl _,fun e=>?_⟩;simp [e] at hh; exact hh
    ·split
     ·next hh=>simp at hh; exact .inr ⟨hh.1,rfl⟩
     ·exact .inl rfl
   ·next he =>
    have:=h.o.sm
    exact h.sweepFree (by omega)
end
end
section
def Nk (M M' : PMem) (x : Int) : Prop:=(Ky M' x = Ky M x/\(M'.node x).value = (M.node x).value)/\(De M x->De M' x)
def Nl (M M' : PMem) (x : Int) : Prop:=Nk M M' x/\Ld M' x = Ld M x
section
variable {C C' : Int->Prop} {M M' M2 : PMem} {c c' : Int} {r r' : PSweep} {i j : Nat} {t t' : PThread} {ts : List PThread} {P : PSt} {x : Int} {k : PWork}
theorem Nl.refl (M : PMem) (x : Int) : Nl M M x:=⟨⟨⟨rfl,rfl⟩,id⟩,rfl⟩
theorem Nl.trans (h : Nl M M' x) (g : Nl M' M2 x) : Nl M M2 x:=⟨⟨⟨g.1.1.1.trans h.1.1.1,g.1.1.2.trans h.1.1.2⟩,fun d=>g.1.2 (h.1.2 d)⟩,g.2.trans h.2⟩
theorem nl_node (h : M'.node x = M.node x) : Nl M M' x:=by unfold Nl Nk Ky De Ld; rw [h]; exact ⟨⟨⟨rfl,rfl⟩,id⟩,rfl⟩
theorem nl_ns (h : M'.ns = M.ns) (x : Int) : Nl M M' x:=nl_node (node_ns h x)
theorem nl_modN (M : PMem) (n : Int) (f : PNode->PNode) (hf : ∀ e,((f e).key = e.key/\(f e).value = e.value)/\(e.dead = true->(f e).dead = true)/\(f e).leads = e.leads) (x : Int) : Nl M (M.modN n f) x:=by
 by_cases hn : M.hasNode n = true
 ·have:=node_modN hn f x
  by_cases e : x = n
  ·subst e;rw [if_pos rfl] at this;unfold Nl Nk Ky De Ld;rw [this];obtain ⟨h1,h2,h3⟩:=hf (M.node x);exact ⟨⟨h1,h2⟩,by rw [h3]⟩
  ·rw [if_neg e] at this; exact nl_node this
 ·have : M.modN n f = M:=by unfold PMem.modN; rw [if_neg hn]
  rw [this]; exact Nl.refl _ _
theorem nk_lead (M : PMem) (n : Int) (s : Bool) (x : Int) : Nk M (M.lead n s) x:=by
 unfold PMem.lead;split
 ·generalize (M.ent (M.pending n s)).dst = d;by_cases hn : M.hasNode n = true
  ·have:=node_modN hn (fun x=>{ x with leads:=upd x.leads s d }) x
   by_cases e : x = n
   ·subst e;rw [if_pos rfl] at this;unfold Nk Ky De;rw [this];exact ⟨⟨rfl,rfl⟩,id⟩
   ·rw [if_neg e] at this; exact (nl_node this).1
  ·have : ∀ f,M.modN n f = M:=fun f=>by unfold PMem.modN; rw [if_neg hn]
   rw [this]; exact (Nl.refl _ _).1
 ·exact (Nl.refl _ _).1
theorem nl_unlock (M : PMem) (t x : Int) : Nl M (M.unlock t) x:=by
 unfold Nl Nk Ky De Ld;rw [unlock_node];unfold unlocked;split <;> exact ⟨⟨⟨rfl,rfl⟩,id⟩,rfl⟩
theorem pend_ns (M : PMem) (n : Int) (s : Bool) (to : Int) : (M.pend n s to).ns = M.ns:=by unfold PMem.pend; split <;> rfl
theorem unpend_ns (M : PMem) (n : Int) (s : Bool) : (M.unpend n s).ns = M.ns:=by unfold PMem.unpend; split <;> rfl
theorem stamp_ns (M : PMem) (n : Int) (s : Bool) (st : Int) : (M.stamp n s st).ns = M.ns:=by unfold PMem.stamp; split <;> rfl
theorem stampsNew_ns (st : Int) : ∀ (l : List Int) (M : PMem),(M.stampsNew st l).ns = M.ns
 | [],_=>rfl
 | n :: l,M=>by
  show ((M.stampNew n st).stampsNew st l).ns = _;rw [stampsNew_ns st l];unfold PMem.stampNew;rw [stamp_ns,stamp_ns]
theorem Inv.keeps (h : Inv C P) (ht : P.ts[i]? = some t) (hb : t.busy = true) (x : Int) (hx : x = 1\/Gd P.mem C x) : Nk P.mem (P.step i t).1.mem x/\(t.work.next≠10->Nl P.mem (P.step i t).1.mem x):=by
 suffices hs : (t.work.next = 10->Nk P.mem (P.step i t).1.mem x)/\(t.work.next≠10->Nl P.mem (P.step i t).1.mem x) by
  by_cases hn : t.work.next = 10
  ·exact ⟨hs.1 hn,hs.2⟩
  ·exact ⟨(hs.2 hn).1,hs.2⟩
 have hT:=h.th i t ht;have hnx:=hT.nx hb;have hkd:=hT.kd hb;have hrd:=hT.rd hb;have hux:=h.gdUs hx;rcases (show t.work.next = 1\/t.work.next = 2\/t.work.next = 3\/t.work.next = 13\/(4<=t.work.next/\t.work.next<=12) by omega) with hn | hn | hn | hn | hn
 ·refine ⟨fun e=>by omega,fun _=>?_⟩;unfold PSt.step; simp only [hn]; exact Nl.refl _ _
 ·refine ⟨fun e=>by omega,fun _=>?_⟩;unfold PSt.step; simp only [hn]; exact Nl.refl _ _
 ·refine ⟨fun e=>by omega,fun _=>?_⟩;unfold PSt.step; simp only [hn]; exact Nl.refl _ _
 ·refine ⟨fun e=>by omega,fun _=>?_⟩;unfold PSt.step; simp only [hn]; exact Nl.refl _ _
 ·have hs : P.step i t = if t.work.kind = 3\/t.work.kind = 4 then P.read i t.work else P.update i t.work:=by
   unfold PSt.step;split <;> first | (rename_i hh; omega) | rfl
  rw [hs];by_cases hk : t.work.kind = 3\/t.work.kind = 4
  ·rw [if_pos hk]
   have:=hrd hk
   refine ⟨fun e=>by omega,fun _=>?_⟩;unfold PSt.read;simp only;split <;> exact Nl.refl _ _
  ·rw [if_neg hk];have hk : t.work.kind = 1\/t.work.kind = 2:=by omega
   unfold PSt.update;rcases (show t.work.next = 4\/t.work.next = 5\/t.work.next = 6\/t.work.next = 7\/t.work.next = 8\/t.work.next = 9\/t.work.next = 10\/t.work.next = 11\/t.work.next = 12 by omega) with hn | hn | hn | hn | hn | hn | hn | hn | hn
   ·refine ⟨fun e=>by omega,fun _=>?_⟩;simp only [hn]; exact Nl.refl _ _
   ·refine ⟨fun e=>by omega,fun _=>?_⟩;simp only [hn];rcases h.lock ht hb hn with ⟨_,q,_⟩ | ⟨_,q⟩
    ·rw [q];show Nl P.mem (P.mem.modN (lockNext t.work) fun x=>{ x with holder:=(i : Int) }) x;exact nl_modN _ _ (fun x=>{ x with holder:=(i : Int) }) (fun e=>⟨⟨rfl,rfl⟩,id,rfl⟩) x
    ·rw [q]; exact Nl.refl _ _
   ·refine ⟨fun e=>by omega,fun _=>?_⟩;simp only [hn];unfold PSt.check;split
    ·show Nl P.mem (P.mem.unlock i) x;exact nl_unlock _ _ _
    ·split <;> (show Nl P.mem P.mem x; exact Nl.refl _ _)
   ·refine ⟨fun e=>by omega,fun _=>?_⟩;simp only [hn];unfold PSt.prepare;split
    ·exact Nl.refl _ _
    ·next hroom =>
     rcases hk with hk | hk
     ·have hne : P.needs t.work.kind = (1,2):=by unfold PSt.needs; rw [hk,if_neg (by decide),if_neg (by rw [h.kind]; decide)]
      rw [hne] at hroom;simp only [hk,if_true];obtain ⟨n,M1,q1,q2,_,q4,_⟩:=h.grown ht hb hn (by simp only at hroom; omega) (by simp only at hroom; omega);rw [q2];refine nl_node ?_;show M1.node x = _;rw [q4,if_neg (show ¬ x = n from fun e=>q1 (e ▸ hux))]
     ·simp only [hk,show ¬ ((2 : Int) = 1) by decide,if_false];refine nl_ns ?_ x;show (P.prepareRemove t.work).1.ns = _;unfold PSt.prepareRemove;simp only [if_pos h.kind];exact pend_ns _ _ _ _
   ·refine ⟨fun e=>by omega,fun _=>?_⟩;simp only [hn];unfold PSt.take;split
    ·rcases hk with hk | hk
     ·obtain ⟨n,f1,f2,f3,f4,f5,f6,f7,f8,f9,f10,f11⟩:=hT.f8 hb hk (.inl hn);obtain ⟨t1,t2⟩:=hT.ts hb (by omega) (by omega);obtain ⟨u1,u2,u3,u4⟩:=unpend_e h.wm f10;have hnd:=node_ns u1;obtain ⟨_,_,v3,_,_⟩:=free_e (n:=n) u2 (hasN_used (by rw [hnd]; exact f4)) ⟨f2,f3⟩;refine nl_node ?_;show ((P.mem.unpend t.work.tsrc t.work.tside).frees t.work.made).node x = _;rw [t1,t2,f1];show ((P.mem.unpend t.work.stand false).free n).node x = _;rw [v3,if_neg,hnd];rintro rfl;rcases hx with q | q | q
      ·exact f3 q
      ·exact f5 q
      ·simp only [De] at q; rw [f6] at q; cases q
     ·refine nl_ns ?_ x;show ((P.mem.unpend t.work.tsrc t.work.tside).frees t.work.made).ns = _;rw [(hT.p2 hb hk (by omega) (by omega)).2];exact unpend_ns _ _ _
    ·split
     ·exact Nl.refl _ _
     ·exact nl_ns (stampsNew_ns _ _ _) x
   ·refine ⟨fun e=>by omega,fun _=>?_⟩;simp only [hn];have hto : P.mem.kills (P.takenOut t.work) = P.mem.modN t.work.ahead fun x=>{ x with dead:=true }:=by
     unfold PSt.takenOut;rw [if_neg (by rw [h.kind]; decide)]; rfl
    rw [hto];show Nl P.mem (P.mem.modN t.work.ahead fun x=>{ x with dead:=true }) x;exact nl_modN _ _ (fun x=>{ x with dead:=true }) (fun e=>⟨⟨rfl,rfl⟩,fun _=>rfl,rfl⟩) x
   ·refine ⟨fun _=>?_,fun e=>absurd hn e⟩;simp only [hn];show Nk P.mem (P.mem.lead t.work.tsrc t.work.tside) x;exact nk_lead _ _ _ _
   ·refine ⟨fun e=>by omega,fun _=>?_⟩;simp only [hn];show Nl P.mem (P.mem.stamp t.work.tsrc t.work.tside t.work.ans.stamp) x;exact nl_ns (stamp_ns _ _ _ _) x
   ·refine ⟨fun e=>by omega,fun _=>?_⟩;simp only [hn];unfold PSt.unlock;simp only;split
    ·have hre : (P.mem.unlock i).retires P.clock (P.takenOut t.work) = (P.mem.unlock i).modN t.work.ahead fun x=>{ x with retired:=true,retiredAt:=P.clock }:=by
      unfold PSt.takenOut;rw [if_neg (by rw [h.kind]; decide)]; rfl
     rw [hre];show Nl P.mem ((P.mem.unlock i).modN t.work.ahead fun x=>{ x with retired:=true,retiredAt:=P.clock }) x;exact (nl_unlock _ _ _).trans (nl_modN _ _ (fun x=>{ x with retired:=true,retiredAt:=P.clock }) (fun e=>⟨⟨rfl,rfl⟩,id,rfl⟩) x)
    ·show Nl P.mem (P.mem.unlock i) x;exact nl_unlock _ _ _
end
end
section
section
variable {C C' : Int->Prop} {M M' M2 : PMem} {c c' : Int} {r r' : PSweep} {i j : Nat} {t t' u : PThread} {ts : List PThread} {P : PSt} {x : Int} {k : PWork}
theorem step_mid (P : PSt) (h4 : 4<=t.work.next) (h12 : t.work.next<=12) : P.step i t = if t.work.kind = 3\/t.work.kind = 4 then P.read i t.work else P.update i t.work:=by
 unfold PSt.step;split <;> first | (rename_i hh; omega) | rfl
theorem Inv.moves (h : Inv C P) (ht : P.ts[i]? = some t) (hb : t.busy = true) (hn : ¬ (t.work.next = 5/\(t.work.kind = 1\/t.work.kind = 2))) (hr : ¬ (t.work.next = 4/\(t.work.kind = 3\/t.work.kind = 4))) : (P.step i t).2≠2:=by
 have hT:=h.th i t ht;have hnx:=hT.nx hb;have hkd:=hT.kd hb;have hrd:=hT.rd hb;rcases (show t.work.next = 1\/t.work.next = 2\/t.work.next = 3\/t.work.next = 13\/(4<=t.work.next/\t.work.next<=12) by omega) with hq | hq | hq | hq | hq
 ·unfold PSt.step; simp only [hq]; decide
 ·unfold PSt.step; simp only [hq]; decide
 ·unfold PSt.step; simp only [hq]; decide
 ·unfold PSt.step; simp only [hq]; decide
 ·rw [step_mid P hq.1 hq.2];by_cases hk : t.work.kind = 3\/t.work.kind = 4
  ·have:=hrd hk; omega
  ·rw [if_neg hk];unfold PSt.update;rcases (show t.work.next = 4\/t.work.next = 6\/t.work.next = 7\/t.work.next = 8\/t.work.next = 9\/t.work.next = 10\/t.work.next = 11\/t.work.next = 12 by omega) with e | e | e | e | e | e | e | e <;> simp only [e] <;> decide
theorem Inv.waits (h : Inv C P) (ht : P.ts[i]? = some t) (hb : t.busy = true) (hw : (P.step i t).2 = 2) : (P.step i t).1 = P/\((t.work.next = 5/\(t.work.kind = 1\/t.work.kind = 2)/\Ho P.mem (lockNext t.work)≠-1)\/∃ x d,d ∈ Pd P.mem x):=by
 by_cases hn : t.work.next = 5/\(t.work.kind = 1\/t.work.kind = 2)
 ·have hs : P.step i t = P.lock i t.work:=by
   rw [step_mid P (by omega) (by omega),if_neg (by omega)];unfold PSt.update;simp only [hn.1]
  rw [hs] at hw ⊢;rcases h.lock ht hb hn.1 with ⟨_,q,_⟩ | ⟨q1,q2⟩
  ·rw [q] at hw; exact absurd (show (1 : Int) = 2 from hw) (by decide)
  ·rw [q2]; exact ⟨rfl,.inl ⟨hn.1,hn.2,q1⟩⟩
 ·by_cases hr : t.work.next = 4/\(t.work.kind = 3\/t.work.kind = 4)
  ·have hs : P.step i t = P.read i t.work:=by rw [step_mid P (by omega) (by omega),if_pos hr.2]
   obtain ⟨x,h1,_⟩:=h.linkIs ht hb hr.1 hr.2;rw [hs] at hw ⊢;unfold PSt.read at hw ⊢;rw [h1] at hw ⊢;simp only at hw ⊢;by_cases hp : P.mem.hasPending x false = true
   ·rw [if_pos hp];refine ⟨rfl,.inr ⟨x,?_⟩⟩
    have:=hasPd_iff.1 hp
    cases hd : Pd P.mem x with
    | nil=>exact absurd hd this
    | cons d l=>exact ⟨d,by simp⟩
   ·rw [if_neg hp] at hw; exact absurd (show (1 : Int) = 2 from hw) (by decide)
  ·exact absurd hw (h.moves ht hb hn hr)
theorem Inv.kyle (h : Inv C P) (hx : x = 1\/Gd P.mem C x) (h0 : x≠0) : 0<=Ky P.mem x/\Ky P.mem x<=1099511627777:=by
 rcases hx with rfl | hx
 ·have:=h.n.a1.2.2.2.2.2; omega
 ·have:=h.gd01 hx h0; omega
theorem Inv.holder (h : Inv C P) (ht : P.ts[i]? = some t) (hb : t.busy = true) (hn : t.work.next = 5) (hh : Ho P.mem (lockNext t.work)≠-1) :
  ∃ j u,P.ts[j]? = some u/\u.busy = true/\(u.work.kind = 1\/u.work.kind = 2)/\((P.step j u).2≠2\/(u.work.next = 5/\Ho P.mem (lockNext u.work)≠-1/\lockNext u.work≠0/\(lockNext t.work≠0->Ky P.mem (lockNext t.work) < Ky P.mem (lockNext u.work)))):=by
 obtain ⟨_,_,l3,_,_,_,_⟩:=h.lockIs ht hb hn;obtain ⟨j,hj,hjo⟩:=(h.o.ho _ l3).resolve_left hh;have hju : P.ts[j]? = some P.ts[j]:=List.getElem?_eq_getElem hj;generalize P.ts[j] = u at hju;have hU:=h.th j u hju;obtain ⟨ub,um⟩:=(hU.hd _ l3).1 hjo;obtain ⟨_,_,ul,_⟩:=hU.heldUs ub um;obtain ⟨u1,u2,u3⟩:=hU.mid ub ul;refine ⟨j,u,hju,ub,u3,?_⟩;by_cases hmv : (P.step j u).2 = 2
 ·right;obtain ⟨_,w⟩:=h.waits hju ub hmv;have hu5 : u.work.next = 5:=by
   by_cases e : u.work.next = 5
   ·exact e
   ·exact absurd hmv (h.moves hju ub (fun q=>e q.1) (fun q=>by omega))
  have hw5 : Ho P.mem (lockNext u.work)≠-1:=by
   have hs : P.step j u = P.lock j u.work:=by
    rw [step_mid P (by omega) (by omega),if_neg (by omega)];unfold PSt.update;simp only [hu5]
   rw [hs] at hmv;rcases h.lock hju ub hu5 with ⟨_,q,_⟩ | ⟨q1,q2⟩
   ·rw [q] at hmv; exact absurd (show (1 : Int) = 2 from hmv) (by decide)
   ·exact q1
  have hl1 : u.work.locks = 1:=by
   have:=hU.l5 ub hu5
   have:=(wl_pos P.mem u.work).2
   omega
  have hln : lockNext u.work = u.work.ahead:=by unfold lockNext; rw [if_neg (by omega)]
  rw [hl1] at um;have hst : lockNext t.work = u.work.stand:=by simpa using um
  obtain ⟨_,_,x3⟩:=hU.xs ub (by omega) (by omega) u2;obtain ⟨_,_,c3,c4⟩:=hU.cs ub (by omega) u2;refine ⟨hu5,hw5,by rw [hln]; exact c3,?_⟩;intro h0;rw [hln,hst];rw [hst] at h0
  have:=x3.resolve_left h0
  omega
 ·exact .inl hmv
theorem Inv.chase (h : Inv C P) : ∀ (m i : Nat) (t : PThread),P.ts[i]? = some t->t.busy = true->t.work.next = 5->Ho P.mem (lockNext t.work)≠-1->lockNext t.work≠0->(1099511627777 - Ky P.mem (lockNext t.work)).toNat<=m->∃ j u,P.ts[j]? = some u/\u.busy = true/\(P.step j u).2≠2/\(u.work.kind = 1\/u.work.kind = 2)
 | 0,i,t,ht,hb,hn,hh,h0,hm=>by
  obtain ⟨j,u,hj,ub,uk,q | ⟨q1,q2,q3,q4⟩⟩:=h.holder ht hb hn hh
  ·exact ⟨j,u,hj,ub,q,uk⟩
  ·exfalso;have h1:=h.kyle (h.lockIs ht hb hn).2.2.2.1 h0;have h2:=h.kyle (h.lockIs hj ub q1).2.2.2.1 q3
   have:=q4 h0
   omega
 | m + 1,i,t,ht,hb,hn,hh,h0,hm=>by
  obtain ⟨j,u,hj,ub,uk,q | ⟨q1,q2,q3,q4⟩⟩:=h.holder ht hb hn hh
  ·exact ⟨j,u,hj,ub,q,uk⟩
  ·have h1:=h.kyle (h.lockIs ht hb hn).2.2.2.1 h0;have h2:=h.kyle (h.lockIs hj ub q1).2.2.2.1 q3
   have:=q4 h0
   exact Inv.chase h m j u hj ub q1 q2 q3 (by omega)
theorem Inv.live (h : Inv C P) (ht : P.ts[i]? = some t) (hb : t.busy = true) : ∃ j u,P.ts[j]? = some u/\u.busy = true/\(P.step j u).2≠2/\(j = i\/u.work.kind = 1\/u.work.kind = 2):=by
 by_cases hw : (P.step i t).2 = 2
 ·obtain ⟨_,⟨h5,_,hh⟩ | ⟨x,d,hd⟩⟩:=h.waits ht hb hw
  ·by_cases h0 : lockNext t.work = 0
   ·obtain ⟨j,u,hj,ub,uk,q | ⟨q1,q2,q3,_⟩⟩:=h.holder ht hb h5 hh
    ·exact ⟨j,u,hj,ub,q,.inr uk⟩
    ·obtain ⟨j,u,z1,z2,z3,z4⟩:=h.chase _ j u hj ub q1 q2 q3 (Nat.le_refl _);exact ⟨j,u,z1,z2,z3,.inr z4⟩
   ·obtain ⟨j,u,z1,z2,z3,z4⟩:=h.chase _ i t ht hb h5 hh h0 (Nat.le_refl _);exact ⟨j,u,z1,z2,z3,.inr z4⟩
  ·obtain ⟨j,u,hj,hu⟩:=h.e.pd x d hd;refine ⟨j,u,hj,?_,?_,.inr ?_⟩
   ·rcases hu with q | q
    ·exact q.1
    ·exact q.1
   ·rcases hu with ⟨q1,q2,q3,q4,_⟩ | ⟨q1,q2,q3,_⟩
    ·exact h.moves hj q1 (fun e=>by omega) (fun e=>by omega)
    ·exact h.moves hj q1 (fun e=>by omega) (fun e=>by omega)
   ·rcases hu with q | q
    ·exact q.2.1
    ·exact .inl q.2.1
 ·exact ⟨i,t,ht,hb,hw,.inl rfl⟩
end
end
section
def Passed (M : PMem) (C : Int->Prop) (x p : Int) : Prop:=p = 0\/(x≠0/\Gd M C p/\Ky M p<=Ky M x)
open Classical in
noncomputable def wp (L : Nat) (M : PMem) (C : Int->Prop) (x : Int) : Nat:=((List.range L).filter (fun p=>decide (¬ Passed M C x ((p : Nat) : Int)))).length
open Classical in
noncomputable def stale (M : PMem) (C : Int->Prop) (k : PWork) : Nat:=if C k.stand/\(k.next = 4\/Ld M k.stand = k.ahead) then 0 else 1
def unl (t : PThread) : Bool:=t.busy && (decide (t.work.kind = 1\/t.work.kind = 2) && decide (t.work.next<=10))
def rx (k : PWork) : Int:=if k.kind = 3 then k.stand else match k.links with
 | p :: _=>p.1
 | []=>0
noncomputable def phi (L : Nat) (M : PMem) (C : Int->Prop) (u : Nat) (t : PThread) : Nat :=
 if t.busy = false then 0
 else if t.work.kind = 3\/t.work.kind = 4 then (if t.work.next = 13 then 1 else if t.work.next = 4 then 2 + wp L M C (rx t.work) else L + 7 - t.work.next)
 else if 7<=t.work.next then 14 - t.work.next
 else (if t.work.next = 6 then 9 else if t.work.next = 5 then 11 - t.work.locks else if t.work.next = 4 then 11 + wp L M C t.work.stand else L + 15 - t.work.next) + (u + (if 4<=t.work.next then stale M C t.work else 0)) * (L + 2)
noncomputable def Phi (L : Nat) (C : Int->Prop) (P : PSt) : Nat:=(P.ts.map (phi L P.mem C (count unl P.ts))).sum
theorem filt_le {α : Type} (p q : α->Bool) : ∀ (l : List α),(∀ a ∈ l,q a = true->p a = true)->(l.filter q).length<=(l.filter p).length
 | [],_=>by simp
 | a :: l,h=>by
  have ih:=filt_le p q l (fun b hb=>h b (by simp [hb]));have ha:=h a (by simp);rw [List.filter_cons,List.filter_cons];by_cases hq : q a = true
  ·rw [if_pos hq,if_pos (ha hq)]; simpa using ih
  ·rw [if_neg hq];split
   ·simp; omega
   ·exact ih
theorem filt_lt {α : Type} (p q : α->Bool) : ∀ (l : List α),(∀ a ∈ l,q a = true->p a = true)->(∃ a ∈ l,p a = true/\q a = false)->(l.filter q).length < (l.filter p).length
 | [],_,h=>by obtain ⟨a,ha,_⟩:=h; cases ha
 | a :: l,h,hx=>by
  have hle:=filt_le p q l (fun b hb=>h b (by simp [hb]));have ha:=h a (by simp);rw [List.filter_cons,List.filter_cons];obtain ⟨b,hb,h1,h2⟩:=hx;rcases List.mem_cons.1 hb with rfl | hb
  ·rw [if_pos h1,if_neg (by rw [h2]; decide)]; simp; omega
  ·have ih:=filt_lt p q l (fun c hc=>h c (by simp [hc])) ⟨b,hb,h1,h2⟩;by_cases hq : q a = true
   ·rw [if_pos hq,if_pos (ha hq)]; simpa using ih
   ·rw [if_neg hq];split
    ·simp; omega
    ·exact ih
section
variable {C C' : Int->Prop} {M M' M2 : PMem} {c c' : Int} {r r' : PSweep} {i j : Nat} {t t' u : PThread} {ts : List PThread} {P : PSt} {x d : Int} {k : PWork} {L : Nat}
open Classical in
theorem wp_mono (h : ∀ p,Passed M C x p->Passed M' C' x p) : wp L M' C' x<=wp L M C x:=by
 refine filt_le _ _ _ ?_;intro a _ hq;simp only [decide_eq_true_eq] at hq ⊢;exact fun hp=>hq (h _ hp)
open Classical in
theorem wp_le (hL : 1<=L) (M : PMem) (C : Int->Prop) (x : Int) : wp L M C x + 1<=L:=by
 have h:=filt_lt (fun _ : Nat=>true) (fun p=>decide (¬ Passed M C x ((p : Nat) : Int))) (List.range L) (fun _ _ _=>rfl) ⟨0,by simp; omega,rfl,by simp; exact .inl rfl⟩;rw [List.filter_eq_self.2 (fun _ _=>rfl),List.length_range] at h;exact h
open Classical in
theorem Inv.wp_pos (h : Inv C P) (hL : 2<=L) (x : Int) : 1<=wp L P.mem C x:=by
 unfold wp;apply List.length_pos_of_mem (a:=1);rw [List.mem_filter];refine ⟨by simp; omega,?_⟩;simp only [decide_eq_true_eq];rintro (q | ⟨_,q,_⟩)
 ·have : ((1 : Nat) : Int) = 0:=q; omega
 ·exact (h.gdLinks q).2 rfl
open Classical in
theorem Inv.wp_lt (h : Inv C P) (hL : P.mem.ns.length = L) (hd : Gd P.mem C d) (h0 : d≠0) (hlt : Lt P.mem x d) : wp L P.mem C d < wp L P.mem C x:=by
 have hu:=h.gdUs (.inr hd);obtain ⟨k,e,rfl,hk,_⟩:=node_at (hasN_used hu);have hkl:=(List.getElem?_eq_some_iff.1 hk).1;refine filt_lt _ _ _ ?_ ⟨k,by simp; omega,?_,?_⟩
 ·intro p _ hq;simp only [decide_eq_true_eq] at hq ⊢;rintro (q | ⟨q1,q2,q3⟩)
  ·exact hq (.inl q)
  ·refine hq (.inr ⟨h0,q2,?_⟩)
   have:=hlt.resolve_left q1
   omega
 ·simp only [decide_eq_true_eq];rintro (q | ⟨q1,q2,q3⟩)
  ·exact h0 q
  ·have:=hlt.resolve_left q1
   omega
 ·simp only [decide_eq_false_iff_not,Classical.not_not];exact .inr ⟨h0,hd,Int.le_refl _⟩
theorem stale_le (M : PMem) (C : Int->Prop) (k : PWork) : stale M C k<=1:=by unfold stale; split <;> omega
theorem stale_zero (h : C k.stand/\(k.next = 4\/Ld M k.stand = k.ahead)) : stale M C k = 0:=by unfold stale; rw [if_pos h]
theorem sum_set (f g : PThread->Nat) : ∀ (ts : List PThread) (i : Nat) (t t' : PThread),ts[i]? = some t->(∀ j u,j≠i->ts[j]? = some u->g u<=f u)->g t' < f t->((ts.set i t').map g).sum < (ts.map f).sum
 | [],i,t,t',h,_,_=>by simp at h
 | a :: l,0,t,t',h,ho,hi=>by
  simp at h; subst h;have hl : (l.map g).sum<=(l.map f).sum:=by
   have : ∀ (m : List PThread),(∀ u ∈ m,g u<=f u)->(m.map g).sum<=(m.map f).sum:=by
    intro m
    induction m with
    | nil=>simp
    | cons b m ih =>
     intro hm;have h1:=hm b (by simp);have h2:=ih (fun u hu=>hm u (by simp [hu]));simp only [List.map_cons,List.sum_cons]; omega
   apply this;intro u hu;obtain ⟨j,hj⟩:=List.mem_iff_getElem?.1 hu;exact ho (j + 1) u (by omega) (by simpa using hj)
  simp only [List.set_cons_zero,List.map_cons,List.sum_cons]; omega
 | a :: l,i + 1,t,t',h,ho,hi=>by
  have ih:=sum_set f g l i t t' (by simpa using h) (fun j u hj hu=>ho (j + 1) u (by omega) (by simpa using hu)) hi;have h0:=ho 0 a (by omega) rfl;simp only [List.set_cons_succ,List.map_cons,List.sum_cons]; omega
theorem count_set_le (p : PThread->Bool) : ∀ {ts : List PThread} {i : Nat} {t t' : PThread},ts[i]? = some t->(p t' = true->p t = true)->count p (ts.set i t')<=count p ts
 | [],i,t,t',h=>by simp at h
 | a :: l,0,t,t',h=>by
  intro hp;simp at h; subst h;unfold count;rw [List.set_cons_zero,List.filter_cons,List.filter_cons];by_cases hq : p t' = true
  ·rw [if_pos hq,if_pos (hp hq)]; simp
  ·rw [if_neg hq]; split <;> simp
 | a :: l,i + 1,t,t',h=>by
  intro hp;have ih:=count_set_le p (ts:=l) (i:=i) (t:=t) (t':=t') (by simpa using h) hp;unfold count at *;rw [List.set_cons_succ,List.filter_cons,List.filter_cons];split <;> simp <;> omega
theorem Th.phi_le (h : Inv C P) (hj : P.ts[j]? = some u) {n n' : Nat}
  (hk : ∀ x,x = 1\/Gd P.mem C x->Nk P.mem M' x/\(Gd P.mem C x->Gd M' C' x))
  (hs : n' + 1<=n\/(n'<=n/\C' = C/\∀ x,Gd P.mem C x->Ld M' x = Ld P.mem x)) : phi L M' C' n' u<=phi L P.mem C n u:=by
 have hU:=h.th j u hj;have hwp : ∀ x,Gd P.mem C x->wp L M' C' x<=wp L P.mem C x:=by
  intro x hx;refine wp_mono ?_;rintro p (q | ⟨q1,q2,q3⟩)
  ·exact .inl q
  ·obtain ⟨⟨z1,_⟩,z2⟩:=hk p (.inr q2);obtain ⟨⟨y1,_⟩,_⟩:=hk x (.inr hx);exact .inr ⟨q1,z2 q2,by rw [z1.1,y1.1]; exact q3⟩
 unfold phi;by_cases hb : u.busy = false
 ·rw [if_pos hb,if_pos hb]; exact Nat.le_refl _
 ·rw [if_neg hb,if_neg hb];have b : u.busy = true:=by simpa using hb
  by_cases hr : u.work.kind = 3\/u.work.kind = 4
  ·rw [if_pos hr,if_pos hr];by_cases h13 : u.work.next = 13
   ·rw [if_pos h13,if_pos h13]; exact Nat.le_refl _
   ·rw [if_neg h13,if_neg h13];by_cases h4 : u.work.next = 4
    ·rw [if_pos h4,if_pos h4];have hg : Gd P.mem C (rx u.work):=by
      unfold rx;rcases hr with hr | hr
      ·rw [if_pos hr]; exact (hU.xs b (by omega) (by omega) (by omega)).1
      ·rw [if_neg (by omega)];obtain ⟨x,e,g,_⟩:=hU.xl b hr h4;rw [e]; exact g
     have:=hwp _ hg
     omega
    ·rw [if_neg h4,if_neg h4]; exact Nat.le_refl _
  ·rw [if_neg hr,if_neg hr];by_cases h7 : 7<=u.work.next
   ·rw [if_pos h7,if_pos h7]; exact Nat.le_refl _
   ·rw [if_neg h7,if_neg h7];have hkd:=hU.kd b;have hg : 4<=u.work.next->Gd P.mem C u.work.stand:=fun h4=>(hU.xs b (by omega) h4 (by omega)).1
    have h1 : (if u.work.next = 6 then 9 else if u.work.next = 5 then 11 - u.work.locks else if u.work.next = 4 then 11 + wp L M' C' u.work.stand else L + 15 - u.work.next)<=(if u.work.next = 6 then 9 else if u.work.next = 5 then 11 - u.work.locks else if u.work.next = 4 then 11 + wp L P.mem C u.work.stand else L + 15 - u.work.next):=by
     by_cases h6 : u.work.next = 6
     ·rw [if_pos h6,if_pos h6]; exact Nat.le_refl _
     ·rw [if_neg h6,if_neg h6];by_cases h5 : u.work.next = 5
      ·rw [if_pos h5,if_pos h5]; exact Nat.le_refl _
      ·rw [if_neg h5,if_neg h5];by_cases h4 : u.work.next = 4
       ·rw [if_pos h4,if_pos h4]
        have:=hwp _ (hg (by omega)); omega
       ·rw [if_neg h4,if_neg h4]; exact Nat.le_refl _
    have h2 : n' + (if 4<=u.work.next then stale M' C' u.work else 0)<=n + (if 4<=u.work.next then stale P.mem C u.work else 0):=by
     by_cases h4 : 4<=u.work.next
     ·rw [if_pos h4,if_pos h4];rcases hs with hs | ⟨hs1,hs2,hs3⟩
      ·have:=stale_le M' C' u.work; omega
      ·subst hs2;have hst : stale M' C' u.work<=stale P.mem C' u.work:=by
        unfold stale;rw [hs3 _ (hg h4)];exact Nat.le_refl _
       omega
     ·rw [if_neg h4,if_neg h4];omega
    have h3:=Nat.mul_le_mul_right (L + 2) h2;omega
end
end
end Go.Proofs.YtfccelbmacjifaaGreat
