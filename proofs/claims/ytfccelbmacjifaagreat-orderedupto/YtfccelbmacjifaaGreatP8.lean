import Derived.Test.YtfccelbmacjifaaGreatP0
import Derived.Test.YtfccelbmacjifaaGreatP7
set_option linter.unusedSimpArgs false
set_option maxRecDepth 100000
set_option maxHeartbeats 4000000
namespace Go.Proofs.YtfccelbmacjifaaGreat
section
def Nr (c : Int) (M M' : PMem) (x : Int) : Prop:=Ky M' x = Ky M x/\(M'.node x).value = (M.node x).value/\(Us M x->Us M' x)/\(Re M' x->(Re M x/\Ra M' x = Ra M x)\/(Ra M' x = c/\De M x))
section
variable {C C' : Int->Prop} {M M' M2 : PMem} {c : Int} {i j : Nat} {t : PThread} {P : PSt} {x : Int}
theorem Nr.refl (c : Int) (M : PMem) (x : Int) : Nr c M M x:=⟨rfl,rfl,id,fun h=>.inl ⟨h,rfl⟩⟩
theorem nr_node (h : M'.node x = M.node x) : Nr c M M' x:=by
 unfold Nr Ky Us Re Ra;rw [h]; exact ⟨rfl,rfl,id,fun h=>.inl ⟨h,rfl⟩⟩
theorem nr_ns (h : M'.ns = M.ns) (x : Int) : Nr c M M' x:=nr_node (node_ns h x)
theorem nr_modN (M : PMem) (n : Int) (f : PNode->PNode) (hf : ∀ e,(f e).key = e.key/\(f e).value = e.value/\(f e).used = e.used/\(f e).retired = e.retired/\(f e).retiredAt = e.retiredAt) (x : Int) : Nr c M (M.modN n f) x:=by
 by_cases hn : M.hasNode n = true
 ·have:=node_modN hn f x
  by_cases e : x = n
  ·subst e;rw [if_pos rfl] at this;unfold Nr Ky Us Re Ra;rw [this];obtain ⟨h1,h2,h3,h4,h5⟩:=hf (M.node x);rw [h1,h2,h3,h4,h5];exact ⟨rfl,rfl,id,fun h=>.inl ⟨h,rfl⟩⟩
  ·rw [if_neg e] at this; exact nr_node this
 ·have : M.modN n f = M:=by unfold PMem.modN; rw [if_neg hn]
  rw [this]; exact Nr.refl _ _ _
theorem nr_unlock (M : PMem) (t x : Int) : Nr c M (M.unlock t) x:=by
 unfold Nr Ky Us Re Ra;rw [unlock_node];unfold unlocked;split <;> exact ⟨rfl,rfl,id,fun h=>.inl ⟨h,rfl⟩⟩
theorem nr_lead (M : PMem) (n : Int) (s : Bool) (x : Int) : Nr c M (M.lead n s) x:=by
 unfold PMem.lead;split
 ·generalize (M.ent (M.pending n s)).dst = d;exact nr_modN _ _ (fun x=>{ x with leads:=upd x.leads s d }) (fun e=>⟨rfl,rfl,rfl,rfl,rfl⟩) x
 ·exact Nr.refl _ _ _
theorem Inv.keepsR (h : Inv C P) (ht : P.ts[i]? = some t) (hb : t.busy = true) (x : Int) (hux : Us P.mem x) (h8 : ¬ Fresh8 x t) : Nr P.clock P.mem (P.step i t).1.mem x:=by
 have hT:=h.th i t ht;have hnx:=hT.nx hb;have hkd:=hT.kd hb;have hrd:=hT.rd hb;rcases (show t.work.next = 1\/t.work.next = 2\/t.work.next = 3\/t.work.next = 13\/(4<=t.work.next/\t.work.next<=12) by omega) with hn | hn | hn | hn | hn
 ·unfold PSt.step; simp only [hn]; exact Nr.refl _ _ _
 ·unfold PSt.step; simp only [hn]; exact Nr.refl _ _ _
 ·unfold PSt.step; simp only [hn]; exact Nr.refl _ _ _
 ·unfold PSt.step; simp only [hn]; exact Nr.refl _ _ _
 ·rw [step_mid P hn.1 hn.2];by_cases hk : t.work.kind = 3\/t.work.kind = 4
  ·rw [if_pos hk];unfold PSt.read;simp only;split <;> exact Nr.refl _ _ _
  ·rw [if_neg hk];have hk : t.work.kind = 1\/t.work.kind = 2:=by omega
   unfold PSt.update;rcases (show t.work.next = 4\/t.work.next = 5\/t.work.next = 6\/t.work.next = 7\/t.work.next = 8\/t.work.next = 9\/t.work.next = 10\/t.work.next = 11\/t.work.next = 12 by omega) with hn | hn | hn | hn | hn | hn | hn | hn | hn
   ·simp only [hn]; exact Nr.refl _ _ _
   ·simp only [hn];rcases h.lock ht hb hn with ⟨_,q,_⟩ | ⟨_,q⟩
    ·rw [q];show Nr P.clock P.mem (P.mem.modN (lockNext t.work) fun x=>{ x with holder:=(i : Int) }) x;exact nr_modN _ _ (fun x=>{ x with holder:=(i : Int) }) (fun e=>⟨rfl,rfl,rfl,rfl,rfl⟩) x
    ·rw [q]; exact Nr.refl _ _ _
   ·simp only [hn];unfold PSt.check;split
    ·show Nr P.clock P.mem (P.mem.unlock i) x;exact nr_unlock _ _ _
    ·split <;> (show Nr P.clock P.mem P.mem x; exact Nr.refl _ _ _)
   ·simp only [hn];unfold PSt.prepare;split
    ·exact Nr.refl _ _ _
    ·next hroom =>
     rcases hk with hk | hk
     ·have hne : P.needs t.work.kind = (1,2):=by unfold PSt.needs; rw [hk,if_neg (by decide),if_neg (by rw [h.kind]; decide)]
      rw [hne] at hroom;simp only [hk,if_true];obtain ⟨n,M1,q1,q2,_,q4,_⟩:=h.grown ht hb hn (by simp only at hroom; omega) (by simp only at hroom; omega);rw [q2];refine nr_node ?_;show M1.node x = _;rw [q4,if_neg (show ¬ x = n from fun e=>q1 (e ▸ hux))]
     ·simp only [hk,show ¬ ((2 : Int) = 1) by decide,if_false];refine nr_ns ?_ x;show (P.prepareRemove t.work).1.ns = _;unfold PSt.prepareRemove;simp only [if_pos h.kind];exact pend_ns _ _ _ _
   ·simp only [hn];unfold PSt.take;split
    ·rcases hk with hk | hk
     ·obtain ⟨n,f1,f2,f3,f4,f5,f6,f7,f8,f9,f10,f11⟩:=hT.f8 hb hk (.inl hn);obtain ⟨t1,t2⟩:=hT.ts hb (by omega) (by omega);obtain ⟨u1,u2,u3,u4⟩:=unpend_e h.wm f10;have hnd:=node_ns u1;obtain ⟨_,_,v3,_,_⟩:=free_e (n:=n) u2 (hasN_used (by rw [hnd]; exact f4)) ⟨f2,f3⟩;refine nr_node ?_;show ((P.mem.unpend t.work.tsrc t.work.tside).frees t.work.made).node x = _;rw [t1,t2,f1];show ((P.mem.unpend t.work.stand false).free n).node x = _;rw [v3,if_neg,hnd];rintro rfl;exact h8 ⟨hb,hk,hn,by rw [f1]; simp⟩
     ·refine nr_ns ?_ x;show ((P.mem.unpend t.work.tsrc t.work.tside).frees t.work.made).ns = _;rw [(hT.p2 hb hk (by omega) (by omega)).2];exact unpend_ns _ _ _
    ·split
     ·exact Nr.refl _ _ _
     ·exact nr_ns (stampsNew_ns _ _ _) x
   ·simp only [hn];have hto : P.mem.kills (P.takenOut t.work) = P.mem.modN t.work.ahead fun x=>{ x with dead:=true }:=by
     unfold PSt.takenOut;rw [if_neg (by rw [h.kind]; decide)]; rfl
    rw [hto];show Nr P.clock P.mem (P.mem.modN t.work.ahead fun x=>{ x with dead:=true }) x;exact nr_modN _ _ (fun x=>{ x with dead:=true }) (fun e=>⟨rfl,rfl,rfl,rfl,rfl⟩) x
   ·simp only [hn];show Nr P.clock P.mem (P.mem.lead t.work.tsrc t.work.tside) x;exact nr_lead _ _ _ _
   ·simp only [hn];show Nr P.clock P.mem (P.mem.stamp t.work.tsrc t.work.tside t.work.ans.stamp) x;exact nr_ns (stamp_ns _ _ _ _) x
   ·simp only [hn];unfold PSt.unlock;simp only;split
    ·next hd =>
     have hre : (P.mem.unlock i).retires P.clock (P.takenOut t.work) = (P.mem.unlock i).modN t.work.ahead fun x=>{ x with retired:=true,retiredAt:=P.clock }:=by
      unfold PSt.takenOut;rw [if_neg (by rw [h.kind]; decide)]; rfl
     rw [hre];show Nr P.clock P.mem ((P.mem.unlock i).modN t.work.ahead fun x=>{ x with retired:=true,retiredAt:=P.clock }) x;obtain ⟨o1,o2,o3,o4,o5,o6⟩:=hT.ot ⟨hb,hd.1,.inr ⟨hn,hd.2⟩,rfl⟩;have hua : Us (P.mem.unlock i) t.work.ahead:=by simp only [Us]; rw [((unlock_hold P.mem i).to _).1]; exact (h.n.md _ o3).1
     have g2:=node_modN (hasN_used hua) (fun x=>{ x with retired:=true,retiredAt:=P.clock }) x;by_cases e : x = t.work.ahead
     ·subst e;rw [if_pos rfl] at g2;obtain ⟨z1,z2,z3,_⟩:=nr_unlock (c:=P.clock) P.mem i t.work.ahead;unfold Nr Ky Us Re Ra;rw [g2];exact ⟨z1,z2,z3,fun _=>.inr ⟨rfl,o3⟩⟩
     ·rw [if_neg e] at g2;obtain ⟨z1,z2,z3,z4⟩:=nr_unlock (c:=P.clock) P.mem i x;unfold Nr Ky Us Re Ra at *;rw [g2];exact ⟨z1,z2,z3,z4⟩
    ·show Nr P.clock P.mem (P.mem.unlock i) x;exact nr_unlock _ _ _
def VE (M : PMem) (ts : List PThread) (x s d : Int) : Prop:=Sd M x s d\/(Ex ts (Vs x s)/\Pd M x = [d])
structure Ver (M : PMem) (ts : List PThread) (R : List (Int × Int)) (V : Int->Prop) (T : Int) : Prop where
 a : ∀ p,p ∈ R ↔ ∃ x,V x/\p = (Ky M x,(M.node x).value)
 b : ∀ x y,V x->V y->Ky M x = Ky M y->x = y
 d : ∀ x,V x->Us M x/\x≠0/\x≠1/\(Re M x->T < Ra M x)
 g : ∀ x,(x = 0\/V x)->∃ s y,VE M ts x s y/\s<=T/\(∀ s' d',VE M ts x s' d'->s'<=T->s' < s\/(s' = s/\d' = y))/\(y = 1\/V y)/\Lt M x y/\(∀ p ∈ R,(x = 0\/Ky M x < p.1)->y≠1/\Ky M y<=p.1)
 srt : R.Pairwise (fun p q=>p.1 < q.1)
variable {ts ts' : List PThread} {R : List (Int × Int)} {V : Int->Prop} {T : Int}
theorem Ver.mono (h : Ver M ts R V T) (hk : ∀ x,x = 0\/x = 1\/V x->Ky M' x = Ky M x) (hv : ∀ x,V x->(M'.node x).value = (M.node x).value/\Us M' x/\(Re M' x->T < Ra M' x))
  (hto : ∀ x s d,(x = 0\/V x)->VE M ts x s d->s<=T->(∀ s' d',VE M ts x s' d'->s'<=T->s'<=s)->VE M' ts' x s d) (hfr : ∀ x s d,(x = 0\/V x)->VE M' ts' x s d->s<=T->VE M ts x s d) : Ver M' ts' R V T:=by
 obtain ⟨a,b,d,g,srt⟩:=h;have kv : ∀ x,V x->Ky M' x = Ky M x:=fun x hx=>hk x (.inr (.inr hx))
 refine ⟨?_,?_,?_,?_,srt⟩
 ·intro p;rw [a];constructor
  ·rintro ⟨x,hx,e⟩; exact ⟨x,hx,by rw [kv x hx,(hv x hx).1]; exact e⟩
  ·rintro ⟨x,hx,e⟩; exact ⟨x,hx,by rw [kv x hx,(hv x hx).1] at e; exact e⟩
 ·intro x y hx hy e;rw [kv x hx,kv y hy] at e;exact b x y hx hy e
 ·intro x hx;obtain ⟨_,q2,q3,_⟩:=d x hx;exact ⟨(hv x hx).2.1,q2,q3,(hv x hx).2.2⟩
 ·intro x hx;obtain ⟨s,y,q1,q2,q3,q4,q5,q6⟩:=g x hx;have hkx : Ky M' x = Ky M x:=by rcases hx with e | e; exact hk x (.inl e); exact kv x e
  have hky : Ky M' y = Ky M y:=by rcases q4 with e | e; exact hk y (.inr (.inl e)); exact kv y e
  refine ⟨s,y,hto x s y hx q1 q2 (fun s' d' h1 h2=>by rcases q3 s' d' h1 h2 with z | z <;> omega),q2,fun s' d' h1 h2=>q3 s' d' (hfr x s' d' hx h1 h2) h2,q4,?_,?_⟩
  ·unfold Lt; rw [hkx,hky]; exact q5
  ·intro p hp h0;rw [hkx] at h0;rw [hky]; exact q6 p hp h0
end
end
section
section
variable {C C' : Int->Prop} {M M' : PMem} {i j : Nat} {t t' : PThread} {ts : List PThread} {P : PSt} {x s d : Int}
theorem vs_iff (ht : ts[i]? = some t) (h : ∀ x s,Vs x s t' ↔ Vs x s t) (x s : Int) : Ex (ts.set i t') (Vs x s) ↔ Ex ts (Vs x s):=by
 have hi:=(List.getElem?_eq_some_iff.1 ht).1;constructor
 ·rintro ⟨j,u,hj,hu⟩;rw [List.getElem?_set] at hj;by_cases e : i = j
  ·subst e; simp [hi] at hj; subst hj; exact ⟨i,t,ht,(h x s).1 hu⟩
  ·rw [if_neg e] at hj; exact ⟨j,u,hj,hu⟩
 ·intro hx; exact hx.set ht (h x s).2
theorem ve_same (ht : ts[i]? = some t) (he : M'.es = M.es) (h : ∀ x s,Vs x s t' ↔ Vs x s t) (x s d : Int) : VE M' (ts.set i t') x s d ↔ VE M ts x s d:=by
 unfold VE;rw [sd_es he,vs_iff ht h,pd_es he]
structure VeStep (P P' : PSt) : Prop where
 to : ∀ x s d,VE P.mem P.ts x s d->VE P'.mem P'.ts x s d
 fr : ∀ x s d,VE P'.mem P'.ts x s d->VE P.mem P.ts x s d\/s = P.clock + 1
theorem VeStep.same {P P' : PSt} (h : ∀ x s d,VE P'.mem P'.ts x s d ↔ VE P.mem P.ts x s d) : VeStep P P':=⟨fun x s d=>(h x s d).2,fun x s d hv=>.inl ((h x s d).1 hv)⟩
theorem no_vs (h : t.busy = true->t.work.next<=8\/12<=t.work.next\/(t.work.kind≠1/\t.work.kind≠2)) (x s : Int) : ¬ Vs x s t:=by
 rintro ⟨b,k,h1,h2,_⟩;rcases h b with q | q | q <;> omega
theorem VeStep.set {P : PSt} {Q : PSt} {k : PWork} (ht : P.ts[i]? = some t) (hQ : Q.ts = P.ts) (he : Q.mem.es = P.mem.es) (h : ∀ x s,Vs x s { t with work:=k } ↔ Vs x s t) : VeStep P (Q.setW i k):=by
 refine VeStep.same ?_;intro x s d;rw [setW_to Q (t:=t) (by rw [hQ]; exact ht) k];show VE Q.mem (Q.ts.set i { t with work:=k }) x s d ↔ _;rw [hQ];exact ve_same ht he h x s d
theorem Inv.veStep (h : Inv C P) (ht : P.ts[i]? = some t) (hb : t.busy = true) : VeStep P (P.step i t).1:=by
 have hT:=h.th i t ht;have hnx:=hT.nx hb;have hkd:=hT.kd hb;have hrd:=hT.rd hb;have none : ∀ (t' : PThread),(t'.busy = true->t'.work.next<=8\/12<=t'.work.next\/(t'.work.kind≠1/\t'.work.kind≠2))->(t.work.next<=8\/12<=t.work.next\/(t.work.kind≠1/\t.work.kind≠2))->∀ x s,Vs x s t' ↔ Vs x s t :=
  fun t' h1 h2 x s=>⟨fun q=>absurd q (no_vs h1 x s),fun q=>absurd q (no_vs (fun _=>h2) x s)⟩
 have setT : ∀ t' : PThread,(∀ x s,Vs x s t' ↔ Vs x s t)->VeStep P (P.setT i t'):=by
  intro t' hh;refine VeStep.same ?_;intro x s d;exact ve_same ht rfl hh x s d
 rcases (show t.work.next = 1\/t.work.next = 2\/t.work.next = 3\/t.work.next = 13\/(4<=t.work.next/\t.work.next<=12) by omega) with hn | hn | hn | hn | hn
 ·unfold PSt.step; simp only [hn];exact setT _ (none _ (fun _=>.inl (by show 2<=8; omega)) (.inl (by omega)))
 ·unfold PSt.step; simp only [hn];exact setT _ (none _ (fun _=>.inl (by show 3<=8; omega)) (.inl (by omega)))
 ·unfold PSt.step; simp only [hn];exact setT _ (none _ (fun _=>.inl (by show 4<=8; omega)) (.inl (by omega)))
 ·unfold PSt.step; simp only [hn];exact setT _ (none _ (fun b=>nomatch b) (.inr (.inl (by omega))))
 ·rw [step_mid P hn.1 hn.2];by_cases hk : t.work.kind = 3\/t.work.kind = 4
  ·rw [if_pos hk];unfold PSt.read;simp only;split
   ·exact VeStep.same (fun _ _ _=>Iff.rfl)
   ·refine VeStep.set ht rfl rfl (none _ (fun _=>.inr (.inr ?_)) (.inr (.inr (by omega))));have hk' : (if t.work.kind = 3 then P.lookUp t.work (P.mem.ledTo (P.linkNext t.work).1 (P.linkNext t.work).2 t.work.time) else P.scan t.work (P.mem.ledTo (P.linkNext t.work).1 (P.linkNext t.work).2 t.work.time)).kind = t.work.kind:=by
     split
     ·unfold PSt.lookUp; split <;> rfl
     ·unfold PSt.scan; simp only; split <;> rfl
    show (if t.work.kind = 3 then _ else _ : PWork).kind≠1/\(if t.work.kind = 3 then _ else _ : PWork).kind≠2;rw [hk']; omega
  ·rw [if_neg hk];have hk : t.work.kind = 1\/t.work.kind = 2:=by omega
   unfold PSt.update;rcases (show t.work.next = 4\/t.work.next = 5\/t.work.next = 6\/t.work.next = 7\/t.work.next = 8\/t.work.next = 9\/t.work.next = 10\/t.work.next = 11\/t.work.next = 12 by omega) with hn | hn | hn | hn | hn | hn | hn | hn | hn
   ·simp only [hn];refine VeStep.set ht rfl rfl (none _ (fun _=>.inl ?_) (.inl (by omega)));show (P.walk t.work).next<=8
    unfold PSt.walk; split
    ·show t.work.next<=8; omega
    ·show 5<=8; omega
   ·simp only [hn];rcases h.lock ht hb hn with ⟨_,q,_⟩ | ⟨_,q⟩
    ·rw [q];refine VeStep.set (Q:=P.setM _) ht rfl (modN_ents _ _ _) (none _ (fun _=>.inl ?_) (.inl (by omega)));simp only; split <;> omega
    ·rw [q]; exact VeStep.same (fun _ _ _=>Iff.rfl)
   ·simp only [hn];unfold PSt.check;split
    ·exact VeStep.set (Q:=P.setM (P.mem.unlock i)) ht rfl rfl (none _ (fun _=>.inl (by show 4<=8; omega)) (.inl (by omega)))
    ·split
     ·exact VeStep.set ht rfl rfl (none _ (fun _=>.inr (.inl (by show 12<=12; omega))) (.inl (by omega)))
     ·exact VeStep.set ht rfl rfl (none _ (fun _=>.inl (by show 7<=8; omega)) (.inl (by omega)))
   ·-- prepare: what is pending is not stamped so far
    simp only [hn];obtain ⟨_,m1,m2,m3,m4,m5,m6⟩:=h.mine ht hb (by omega) (by omega);unfold PSt.prepare;split
    ·exact VeStep.set ht rfl rfl (none _ (fun _=>.inr (.inl (by show 12<=12; omega))) (.inl (by omega)))
    ·next hroom =>
     have key : ∀ (M1 : PMem) (k : PWork) (n : Int),¬ (Us P.mem n/\n≠t.work.stand)->k.next = 8->(∀ x s d,Sd M1 x s d ↔ Sd P.mem x s d)->(∀ x,x≠t.work.stand->x≠n->Pd M1 x = Pd P.mem x)->VeStep P ((P.setM M1).setW i k):=by
      intro M1 k n hnu hk8 hs hp;refine VeStep.same ?_;intro x s d;rw [setMW_to P ht];show VE M1 (P.ts.set i { t with work:=k }) x s d ↔ _;unfold VE;rw [hs,vs_iff ht (none { t with work:=k } (fun _=>.inl (by show k.next<=8; omega)) (.inl (by omega)))];refine or_congr Iff.rfl (and_congr_right fun hv=>?_);obtain ⟨j,u,hj,v1,v2,v3,v4,v5,_⟩:=hv;have hst:=(h.th j u hj).hStand v1 (by omega) (by omega);have hx1 : x≠t.work.stand:=by
       rintro e;rw [v5,e,m3] at hst;have : i = j:=by have:=hst.2; omega
       subst this;rw [ht] at hj; injection hj with hj; subst hj
       omega
      rw [hp x hx1];rintro rfl;rw [v5] at hst;exact hnu ⟨hst.1,hx1⟩
     rcases hk with hk | hk
     ·have hne : P.needs t.work.kind = (1,2):=by unfold PSt.needs; rw [hk,if_neg (by decide),if_neg (by rw [h.kind]; decide)]
      rw [hne] at hroom;simp only [hk,if_true];obtain ⟨n,M1,q1,q2,_,_,q5,q6⟩:=h.grown ht hb hn (by simp only at hroom; omega) (by simp only at hroom; omega);rw [q2];refine key M1 _ n (fun q=>q1 q.1) rfl q6 ?_;intro x h1 h2;rw [q5,if_neg h1,if_neg h2]
     ·have hne : P.needs t.work.kind = (0,1):=by unfold PSt.needs; rw [hk,if_pos rfl]
      rw [hne] at hroom;simp only [hk,show ¬ ((2 : Int) = 1) by decide,if_false];have hs1:=(h.side (.inl m1) t.work.key).1;have hr : 0 < P.mem.room.2:=by simp only at hroom; omega
      obtain ⟨e,he,hu⟩:=count_some (l:=P.mem.es) (p:=fun x=>!x.used) (by unfold PMem.room at hr; simpa using hr);obtain ⟨_,_,_,_,g4,g5⟩:=pend_e (to:=P.leadsFrom t.work.ahead t.work.key) h.wm ⟨e,he,by simpa using hu⟩ m5 (h.noPend ht hb hn);unfold PSt.prepareRemove;simp only [if_pos h.kind];rw [hs1];refine key _ _ t.work.stand (fun q=>q.2 rfl) rfl g5 ?_;intro x h1 _;rw [g4,if_neg h1]
   ·-- take
    simp only [hn];obtain ⟨_,m1,m2,m3,m4,m5,m6⟩:=h.mine ht hb (by omega) (by omega);obtain ⟨t1,t2⟩:=hT.ts hb (by omega) (by omega);have hu : P.mem.unpend t.work.tsrc t.work.tside = P.mem.unpend t.work.stand false:=by rw [t1,t2]
    have oth : ∀ {x s : Int},Ex P.ts (Vs x s)->Us P.mem x/\x≠t.work.stand/\∀ n,Fresh8 n t->x≠n:=by
     rintro x s ⟨j,u,hj,v1,v2,v3,v4,v5,_⟩;have hst:=(h.th j u hj).hStand v1 (by omega) (by omega);rw [v5] at hst;refine ⟨hst.1,?_,?_⟩
     ·rintro rfl;rw [m3] at hst;have : i = j:=by have:=hst.2; omega
      subst this;rw [ht] at hj; injection hj with hj; subst hj
      omega
     ·rintro n hf rfl;exact h.heldFresh hj ht hst.1 hst.2 ⟨hf.1,hf.2.1,.inl hf.2.2.1,hf.2.2.2⟩
    unfold PSt.take;rw [hu];split
    ·have key : ∀ (M1 : PMem),(∀ x s d,Sd M1 x s d ↔ Sd P.mem x s d)->(∀ x,Us P.mem x->x≠t.work.stand->(∀ n,Fresh8 n t->x≠n)->Pd M1 x = Pd P.mem x)->VeStep P ((P.setM M1).setW i (t.work.settle { err:=8 })):=by
      intro M1 hs hp;refine VeStep.same ?_;intro x s d;rw [setMW_to P ht];show VE M1 (P.ts.set i { t with work:=t.work.settle { err:=8 } }) x s d ↔ _;unfold VE;rw [hs,vs_iff ht (none { t with work:=t.work.settle { err:=8 } } (fun _=>.inr (.inl (by show 12<=12; omega))) (.inl (by omega)))];refine or_congr Iff.rfl (and_congr_right fun hv=>?_);obtain ⟨o1,o2,o3⟩:=oth hv;rw [hp x o1 o2 o3]
     rcases hk with hk | hk
     ·obtain ⟨n,f1,f2,f3,f4,f5,f6,f7,f8,f9,f10,f11⟩:=hT.f8 hb hk (.inl hn);obtain ⟨u1,u2,u3,u4⟩:=unpend_e h.wm f10;have hnd:=node_ns u1;obtain ⟨_,_,_,v4,v5⟩:=free_e (n:=n) u2 (hasN_used (by rw [hnd]; exact f4)) ⟨f2,f3⟩;have hfr : (P.mem.unpend t.work.stand false).frees t.work.made = (P.mem.unpend t.work.stand false).free n:=by rw [f1]; rfl
      rw [hfr];refine key _ ?_ ?_
      ·intro x s d;rw [v5,u4];exact ⟨fun q=>q.2,fun q=>⟨by rintro rfl; exact (f11 hn).2 s d q,q⟩⟩
      ·intro x _ h1 h2;rw [v4,if_neg (h2 n ⟨hb,hk,hn,by rw [f1]; simp⟩),u3,if_neg h1]
     ·obtain ⟨p1,p2⟩:=hT.p2 hb hk (by omega) (by omega);obtain ⟨_,_,u3,u4⟩:=unpend_e h.wm p1;have hfr : (P.mem.unpend t.work.stand false).frees t.work.made = P.mem.unpend t.work.stand false:=by rw [p2]; rfl
      rw [hfr];exact key _ u4 (fun x _ h1 _=>by rw [u3,if_neg h1])
    ·have key : ∀ (M1 : PMem) (k : PWork),k.ans.stamp = P.clock + 1->(∀ x s d,Sd P.mem x s d->Sd M1 x s d)->(∀ x s d,Sd M1 x s d->Sd P.mem x s d\/s = P.clock + 1)->(∀ x,Us P.mem x->(∀ n,Fresh8 n t->x≠n)->Pd M1 x = Pd P.mem x)->VeStep P ((({ P with clock:=P.clock + 1 } : PSt).setM M1).setW i k):=by
      intro M1 k hst hs1 hs2 hp;rw [setMW_to { P with clock:=P.clock + 1 } ht];refine ⟨?_,?_⟩
      ·rintro x s d (hv | ⟨hv,hd⟩)
       ·exact .inl (hs1 x s d hv)
       ·obtain ⟨o1,o2,o3⟩:=oth hv;refine .inr ⟨hv.set ht (fun q=>absurd q (no_vs (fun _=>.inl (by omega)) x s)),?_⟩;show Pd M1 x = [d];rw [hp x o1 o3]; exact hd
      ·rintro x s d (hv | ⟨hv,hd⟩)
       ·rcases hs2 x s d hv with q | q
        ·exact .inl (.inl q)
        ·exact .inr q
       ·obtain ⟨j,u,hj,hu⟩:=hv;have hj' : (P.ts.set i { t with work:=k })[j]? = some u:=hj;have hi:=(List.getElem?_eq_some_iff.1 ht).1;rw [List.getElem?_set] at hj';by_cases e : i = j
        ·right;subst e;simp [hi] at hj'; subst hj'
         have:=hu.2.2.2.2.2
         rw [<- this]; exact hst
        ·left;rw [if_neg e] at hj';have hex : Ex P.ts (Vs x s):=⟨j,u,hj',hu⟩;obtain ⟨o1,o2,o3⟩:=oth hex;refine .inr ⟨hex,?_⟩;have hd' : Pd M1 x = [d]:=hd;rw [hp x o1 o3] at hd'; exact hd'
     rcases hk with hk | hk
     ·rw [if_neg (show ¬ t.work.kind = 2 by omega)];obtain ⟨n,f1,f2,f3,f4,f5,f6,f7,f8,f9,f10,f11⟩:=hT.f8 hb hk (.inl hn);obtain ⟨f12,f13⟩:=f11 hn;obtain ⟨g1,g2,g3,g4⟩:=stamp_e (P.clock + 1) h.wm f12;have hsn : P.mem.stampsNew (P.clock + 1) t.work.made = P.mem.stamp n false (P.clock + 1):=by
       rw [f1];show (P.mem.stampNew n (P.clock + 1)) = _;unfold PMem.stampNew;rw [stamp_no g2]
      rw [hsn];refine key _ _ rfl (fun x s d hs=>(g4 x s d).2 (.inl hs)) ?_ ?_
      ·intro x s d hs;rcases (g4 x s d).1 hs with q | q
       ·exact .inl q
       ·exact .inr q.2.1
      ·intro x _ h2;rw [g3,if_neg (h2 n ⟨hb,hk,hn,by rw [f1]; simp⟩)]
     ·rw [if_pos hk];exact key P.mem { t.work with ans:={ did:=true,stamp:=P.clock + 1,value:=(P.mem.node t.work.ahead).value },next:=9 } rfl (fun _ _ _=>id) (fun _ _ _ q=>.inl q) (fun _ _ _=>rfl)
   ·simp only [hn];refine VeStep.set (Q:=P.setM _) ht rfl (kills_es _ _) ?_;intro x s;constructor
    ·rintro ⟨q1,q2,q3,q4,q5⟩; exact ⟨q1,q2,by omega,by omega,q5⟩
    ·rintro ⟨q1,q2,q3,q4,q5⟩; exact ⟨q1,q2,by show 9<=10; omega,by show 10<=11; omega,q5⟩
   ·simp only [hn];refine VeStep.set (Q:=P.setM _) ht rfl (lead_es _ _) ?_;intro x s;constructor
    ·rintro ⟨q1,q2,q3,q4,q5⟩; exact ⟨q1,q2,by omega,by omega,q5⟩
    ·rintro ⟨q1,q2,q3,q4,q5⟩; exact ⟨q1,q2,by show 9<=11; omega,by show 11<=11; omega,q5⟩
   ·-- stamp
    simp only [hn];obtain ⟨_,m1,m2,m3,m4,m5,m6⟩:=h.mine ht hb (by omega) (by omega);obtain ⟨t1,t2⟩:=hT.ts hb (by omega) (by omega);have p1:=hT.p11 hb hn;obtain ⟨g1,g2,g3,g4⟩:=stamp_e t.work.ans.stamp h.wm p1;rw [show P.mem.stamp t.work.tsrc t.work.tside t.work.ans.stamp = P.mem.stamp t.work.stand false t.work.ans.stamp by rw [t1,t2]];rw [setMW_to P ht];have hct : ∀ x s,¬ Vs x s { t with work:={ t.work with next:=12 } }:=no_vs (fun _=>.inr (.inl (by show 12<=12; omega)));have oth : ∀ {x s : Int} {j : Nat} {u : PThread},P.ts[j]? = some u->j≠i->Vs x s u->x≠t.work.stand:=by
     rintro x s j u hj hji ⟨v1,v2,v3,v4,v5,_⟩ rfl;have hst:=(h.th j u hj).hStand v1 (by omega) (by omega);rw [v5,m3] at hst;exact hji (by have:=hst.2; omega)
    refine VeStep.same ?_;intro x s d;show VE (P.mem.stamp t.work.stand false t.work.ans.stamp) (P.ts.set i { t with work:={ t.work with next:=12 } }) x s d ↔ VE P.mem P.ts x s d;constructor
    ·rintro (hv | ⟨⟨j,u,hj,hu⟩,hd⟩)
     ·rcases (g4 x s d).1 hv with q | ⟨rfl,rfl,rfl⟩
      ·exact .inl q
      ·exact .inr ⟨⟨i,t,ht,hb,hk,by omega,by omega,rfl,rfl⟩,p1⟩
     ·have hi:=(List.getElem?_eq_some_iff.1 ht).1;rw [List.getElem?_set] at hj;by_cases e : i = j
      ·subst e; simp [hi] at hj; subst hj; exact absurd hu (hct x s)
      ·rw [if_neg e] at hj;rw [g3,if_neg (oth hj (fun q=>e q.symm) hu)] at hd;exact .inr ⟨⟨j,u,hj,hu⟩,hd⟩
    ·rintro (hv | ⟨⟨j,u,hj,hu⟩,hd⟩)
     ·exact .inl ((g4 x s d).2 (.inl hv))
     ·by_cases e : j = i
      ·subst e;rw [ht] at hj; injection hj with hj; subst hj
       left;have hx : t.work.stand = x:=hu.2.2.2.2.1;have hs : t.work.ans.stamp = s:=hu.2.2.2.2.2;rw [<- hx,p1] at hd;injection hd with hd
       exact (g4 x s d).2 (.inr ⟨hx.symm,hs.symm,hd.symm⟩)
      ·right;refine ⟨Ex.other hj hu e,?_⟩;rw [g3,if_neg (oth hj e hu)]; exact hd
   ·simp only [hn];unfold PSt.unlock;simp only;split
    ·exact VeStep.set (Q:=P.setM _) ht rfl ((retires_es _ _ _).trans rfl) (none _ (fun _=>.inr (.inl (by show 12<=13; omega))) (.inr (.inl (by omega))))
    ·exact VeStep.set (Q:=P.setM (P.mem.unlock i)) ht rfl rfl (none _ (fun _=>.inr (.inl (by show 12<=13; omega))) (.inr (.inl (by omega))))
end
end
section
def SmallAns (a : BAns) : Prop:=a.spans.length<=16/\∀ l ∈ a.spans,l.length<=64
theorem SmallAns.zero {a : BAns} (h : a.spans = []) : SmallAns a:=⟨by rw [h]; simp,by rw [h]; simp⟩
structure FitK (N : Nat) (k : PWork) : Prop where
 kd : k.kind = 1\/k.kind = 2\/k.kind = 3\/k.kind = 4
 nx : 1<=k.next/\k.next<=13
 rd : (k.kind = 3\/k.kind = 4)->k.next<=4\/k.next = 13
 made : k.made.length<=2/\(k.next<=7->k.made = [])
 locks : k.locks<=2
 links : k.kind = 4->k.next<=4->k.links.length = 1
 spans : k.kind = 4->k.spans.length<=16
 noted : k.noted.length<=N
 ans : SmallAns k.ans
abbrev FitT (N : Nat) (t : PThread) : Prop:=FitK N t.work
structure Fit (N : Nat) (P : PSt) : Prop where
 kind : P.kind = 0
 clk : 0<=P.clock/\P.clock<=P.limit
 lim : P.limit<=1099511627776
 thr : 1<=P.ts.length/\P.ts.length<=8
 swp : P.sweep.made<=P.ts.length + 2/\P.sweep.retired.length<=66
 th : ∀ (i : Nat) t,P.ts[i]? = some t->(t.busy = true->FitT N t)/\SmallAns t.last
section
variable {N : Nat} {P : PSt} {i : Nat} {t : PThread}
theorem FitK.mono {N' : Nat} {k : PWork} (h : FitK N k) (hN : N<=N') : FitK N' k:=⟨h.kd,h.nx,h.rd,h.made,h.locks,h.links,h.spans,Nat.le_trans h.noted hN,h.ans⟩
theorem setW_eq (P : PSt) {i : Nat} {t : PThread} (ht : P.ts[i]? = some t) (k : PWork) : P.ts.modify i (fun t=>{ t with work:=k }) = P.ts.set i { t with work:=k }:=by
 apply List.ext_getElem?;intro j;rw [List.getElem?_modify,List.getElem?_set];by_cases e : i = j
 ·subst e;obtain ⟨h1,h2⟩:=List.getElem?_eq_some_iff.1 ht;simp [h1,h2]
 ·simp [e]
structure Turned (N : Nat) (P : PSt) (i : Nat) (t : PThread) (R : PSt × Int) : Prop where
 to : ∃ M c t',R.1 = { P with mem:=M,clock:=c,ts:=P.ts.set i t' }/\(c = P.clock\/(c = P.clock + 1/\P.clock < P.limit))/\(t'.busy = true->FitT (N + 1) t')/\SmallAns t'.last/\t'.busy = (if R.2 = 3 then false else true)/\(R.2≠3->t'.hasEnded = t.hasEnded/\t'.last = t.last)
 how : 1<=R.2/\R.2<=3
theorem answerOf_small (spans noted : List (Int × Int)) (st : Int) (h : spans.length<=16) : SmallAns (answerOf spans noted st):=by
 unfold answerOf;split
 ·exact SmallAns.zero rfl
 ·next hh =>
  refine ⟨by simp [spanLists,h],?_⟩;have key : ∀ (ll : List (List (Int × Int))) l,l ∈ ll->l.length<=lensOf ll:=by
   intro ll
   induction ll with
   | nil=>intro l hl; simp at hl
   | cons a r ih =>
    intro l hl;rw [lensOf];rcases List.mem_cons.1 hl with rfl | hl
    ·omega
    ·have:=ih l hl; omega
  intro l hl
  have:=key _ l hl
  simp only at this;omega
theorem Turned.work (ht : P.ts[i]? = some t) (hb : t.busy = true) (hl : SmallAns t.last) {M : PMem} {c : Int} {k : PWork} {n : Int} (hn : n = 1\/n = 2) (hc : c = P.clock\/(c = P.clock + 1/\P.clock < P.limit)) (hk : FitT (N + 1) { t with work:=k }) :
  Turned N P i t (({ P with mem:=M,clock:=c } : PSt).setW i k,n):=by
 refine ⟨⟨M,c,{ t with work:=k },?_,hc,fun _=>hk,hl,?_,fun _=>⟨rfl,rfl⟩⟩,by show 1<=n/\n<=3; omega⟩
 ·unfold PSt.setW;simp only;rw [setW_eq P ht]
 ·rw [if_neg (show ¬ n = 3 by omega)]; exact hb
theorem Turned.same (ht : P.ts[i]? = some t) (hb : t.busy = true) (hl : SmallAns t.last) (hk : FitT N t) {n : Int} (hn : n = 1\/n = 2) : Turned N P i t (P,n):=by
 refine ⟨⟨P.mem,P.clock,t,?_,.inl rfl,fun _=>hk.mono (Nat.le_succ N),hl,?_,fun _=>⟨rfl,rfl⟩⟩,by show 1<=n/\n<=3; omega⟩
 ·have : P.ts.set i t = P.ts:=by
   apply List.ext_getElem?;intro j;rw [List.getElem?_set];split
   ·next e=>subst e; split <;> simp_all
   ·rfl
  simp only;rw [this]
 ·rw [if_neg (show ¬ n = 3 by omega)]; exact hb
theorem Fit.turn (h : Fit N P) (ht : P.ts[i]? = some t) (hb : t.busy = true) : Turned N P i t (P.step i t):=by
 obtain ⟨hT,hl⟩:=h.th i t ht;have hT:=hT hb;have hk0:=h.kind;have hnx:=hT.nx;have m1:=hT.made;have fit : ∀ k : PWork,k.kind = t.work.kind->(1<=k.next/\k.next<=13)->((k.kind = 3\/k.kind = 4)->k.next<=4\/k.next = 13)->(k.made.length<=2/\(k.next<=7->k.made = []))->k.locks<=2->(k.kind = 4->k.next<=4->k.links.length = 1)->k.spans = t.work.spans->k.noted.length<=N + 1->SmallAns k.ans->FitK (N + 1) k:=by
  intro k e1 e2 e3 e4 e5 e6 e7 e8 e9;exact ⟨by show k.kind = 1\/_; rw [e1]; exact hT.kd,e2,e3,e4,e5,e6,fun h4=>by show k.spans.length<=16; rw [e7]; exact hT.spans (e1 ▸ h4),e8,e9⟩
 have hN : t.work.noted.length<=N + 1:=Nat.le_trans hT.noted (Nat.le_succ N);have sT : ∀ (t' : PThread) n,t'.busy = true->t'.last = t.last->t'.hasEnded = t.hasEnded->FitT (N + 1) t'->(n = 1\/n = 2)->Turned N P i t (P.setT i t',n):=by
  intro t' n hb' hl' he' hf hn;refine ⟨⟨P.mem,P.clock,t',rfl,.inl rfl,fun _=>hf,hl' ▸ hl,?_,fun _=>⟨he',hl'⟩⟩,by show 1<=n/\n<=3; omega⟩;rw [if_neg (show ¬ n = 3 by omega)]; exact hb'
 have hkd:=hT.kd;have upd : ¬ (t.work.kind = 3\/t.work.kind = 4)->∀ k : PWork,k.kind = t.work.kind->¬ (k.kind = 3\/k.kind = 4):=fun h1 k e=>e ▸ h1
 unfold PSt.step;split
 ·next hn=>exact sT _ 1 hb rfl rfl (fit _ rfl (by constructor <;> (simp only; omega)) (fun hr=>.inl (by simp only; omega)) ⟨m1.1,fun _=>m1.2 (by omega)⟩ hT.locks (fun h4 _=>hT.links h4 (by omega)) rfl hN hT.ans) (.inl rfl)
 ·next hn=>exact sT _ 1 hb rfl rfl (fit _ rfl (by constructor <;> (simp only; omega)) (fun hr=>.inl (by simp only; omega)) ⟨m1.1,fun _=>m1.2 (by omega)⟩ hT.locks (fun h4 _=>hT.links h4 (by omega)) rfl hN hT.ans) (.inl rfl)
 ·next hn=>exact sT _ 1 hb rfl rfl (fit t.work.home rfl (by simp [PWork.home]) (fun hr=>.inl (by simp [PWork.home])) ⟨m1.1,fun _=>m1.2 (by omega)⟩ hT.locks (fun h4 _=>hT.links h4 (by omega)) rfl hN hT.ans) (.inl rfl)
 ·next hn =>
  refine ⟨⟨P.mem,P.clock,t.leave,rfl,.inl rfl,fun hh=>?_,hT.ans,?_,fun hh=>absurd rfl hh⟩,by show (1 : Int)<=3/\(3 : Int)<=3; decide⟩
  ·simp [PThread.leave] at hh
  ·simp [PThread.leave]
 ·next n1 n2 n3 n13 =>
  have n1' : t.work.next≠1:=n1
  have n2' : t.work.next≠2:=n2
  have n3' : t.work.next≠3:=n3
  have n13' : t.work.next≠13:=n13
  split
  ·next hr =>
   -- a read
   have hn4 : t.work.next = 4:=by have:=hT.rd hr; omega
   unfold PSt.read;simp only;split
   ·exact Turned.same ht hb hl hT (.inr rfl)
   ·have goal : ∀ k : PWork,FitT (N + 1) { t with work:=k }->Turned N P i t (P.setW i k,1):=fun k hk=>Turned.work (M:=P.mem) (c:=P.clock) ht hb hl (.inl rfl) (.inl rfl) hk
    by_cases h3 : t.work.kind = 3
    ·rw [if_pos h3];apply goal;unfold PSt.lookUp;split
     ·exact fit _ rfl (by simp only; omega) (fun _=>.inl (by simp only; omega)) ⟨m1.1,fun _=>m1.2 (by omega)⟩ hT.locks (fun h4=>by have : t.work.kind = 4:=h4; omega) rfl hN hT.ans
     ·refine fit _ rfl (by simp [PWork.conclude]) (fun _=>.inr rfl) ⟨m1.1,fun hh=>by simp [PWork.conclude] at hh⟩ hT.locks (fun h4=>absurd h4 (by simp [PWork.conclude,h3])) rfl hN ?_;simp only [PWork.conclude];split <;> exact SmallAns.zero rfl
    ·have h4 : t.work.kind = 4:=by omega
     rw [if_neg h3];apply goal;have hlk:=hT.links h4 (by omega);have hsp:=hT.spans h4;unfold PSt.scan;simp only;have hno : ∀ (b : Bool) (q : Int × Int),(if b = true then t.work.noted ++ [q] else t.work.noted).length<=N + 1:=by
      intro b q
      have:=hT.noted
      split
      ·rw [List.length_append]; simp; omega
      ·omega
     split
     ·exact fit _ rfl (by simp [PWork.conclude]) (fun _=>.inr rfl) ⟨m1.1,fun hh=>by simp [PWork.conclude] at hh⟩ hT.locks (fun _ hh=>by simp [PWork.conclude] at hh) rfl (hno _ _) (answerOf_small _ _ _ hsp)
     ·next hne =>
      refine fit _ rfl (by simp [hn4]) (fun _=>.inl (by simp [hn4])) ⟨m1.1,fun _=>m1.2 (by omega)⟩ hT.locks (fun _ _=>?_) rfl (hno _ _) hT.ans;simp only [List.length_append,List.length_drop,hlk] at hne ⊢;unfold PSt.linksWithin at hne ⊢;rw [if_pos hk0] at hne ⊢;split
      ·rfl
      ·next hh=>rw [if_neg hh] at hne; simp at hne
  ·next hr =>
   -- an update
   have hnr : ∀ k : PWork,k.kind = t.work.kind->¬ (k.kind = 3\/k.kind = 4):=upd hr;have n4 : ∀ k : PWork,k.kind = t.work.kind->¬ k.kind = 4:=fun k e h4=>hnr k e (.inr h4)
   have go : ∀ (M : PMem) (c : Int) (k : PWork),(c = P.clock\/(c = P.clock + 1/\P.clock < P.limit))->k.kind = t.work.kind->(1<=k.next/\k.next<=13)->(k.made.length<=2/\(k.next<=7->k.made = []))->k.locks<=2->k.spans = t.work.spans->k.noted = t.work.noted->SmallAns k.ans->Turned N P i t (({ P with mem:=M,clock:=c } : PSt).setW i k,1):=by
    intro M c k hc e1 e2 e3 e4 e5 e6 e7;exact Turned.work ht hb hl (.inl rfl) hc (fit k e1 e2 (fun hh=>absurd hh (hnr k e1)) e3 e4 (fun hh=>absurd hh (n4 k e1)) e5 (e6 ▸ hN) e7)
   unfold PSt.update;split
   ·next hn =>
    refine go P.mem P.clock _ (.inl rfl) ?_ ?_ ?_ ?_ ?_ ?_ ?_ <;> unfold PSt.walk <;> split
    all_goals first | rfl | exact hT.ans | exact hT.locks | (simp only; omega) | exact ⟨m1.1,fun _=>m1.2 (by omega)⟩
   ·next hn =>
    unfold PSt.lock;split
    ·next hlt =>
     have hwl : (P.wanted t.work).length<=2:=by
      unfold PSt.wanted;split
      ·split <;> simp
      ·simp
     split
     ·refine go _ P.clock _ (.inl rfl) rfl ?_ ⟨m1.1,fun _=>m1.2 (by omega)⟩ (by simp only; omega) rfl rfl hT.ans;simp only;split <;> omega
     ·exact Turned.same ht hb hl hT (.inr rfl)
    ·exact go P.mem P.clock _ (.inl rfl) rfl (by simp) ⟨m1.1,fun _=>m1.2 (by omega)⟩ hT.locks rfl rfl hT.ans
   ·next hn =>
    unfold PSt.check;split
    ·exact go _ P.clock _ (.inl rfl) rfl (by simp [PWork.home]) ⟨m1.1,fun _=>m1.2 (by omega)⟩ (by simp [PWork.home]) rfl rfl hT.ans
    ·split
     ·exact go P.mem P.clock _ (.inl rfl) rfl (by simp [PWork.settle]) ⟨m1.1,fun hh=>by simp [PWork.settle] at hh⟩ hT.locks rfl rfl (SmallAns.zero rfl)
     ·exact go P.mem P.clock _ (.inl rfl) rfl (by simp) ⟨m1.1,fun _=>m1.2 (by omega)⟩ hT.locks rfl rfl hT.ans
   ·next hn =>
    have hm0:=m1.2 (by omega);unfold PSt.prepare;split
    ·exact go P.mem P.clock _ (.inl rfl) rfl (by simp [PWork.settle]) ⟨m1.1,fun hh=>by simp [PWork.settle] at hh⟩ hT.locks rfl rfl (SmallAns.zero rfl)
    ·refine go _ P.clock _ (.inl rfl) ?_ (by simp) ?_ ?_ ?_ ?_ ?_ <;> by_cases h1 : t.work.kind = 1 <;> simp only [h1,if_true,if_false] <;> first | (unfold PSt.prepareInsert; simp only [hk0,if_true,hm0]) | (unfold PSt.prepareRemove; simp only [hk0,if_true,hm0])
     all_goals first | rfl | exact hT.ans | exact hT.locks | exact h1 | (constructor <;> simp)
   ·next hn =>
    unfold PSt.take;split
    ·exact go _ P.clock _ (.inl rfl) rfl (by simp [PWork.settle]) ⟨m1.1,fun hh=>by simp [PWork.settle] at hh⟩ hT.locks rfl rfl (SmallAns.zero rfl)
    ·next hlim =>
     have hc : P.clock + 1 = P.clock\/(P.clock + 1 = P.clock + 1/\P.clock < P.limit):=.inr ⟨rfl,by omega⟩;simp only;split
     ·exact go P.mem (P.clock + 1) _ hc rfl (by simp) ⟨m1.1,fun hh=>by simp at hh⟩ hT.locks rfl rfl (SmallAns.zero rfl)
     ·exact go _ (P.clock + 1) _ hc rfl (by simp) ⟨m1.1,fun hh=>by simp at hh⟩ hT.locks rfl rfl (SmallAns.zero rfl)
   ·exact go _ P.clock _ (.inl rfl) rfl (by simp) ⟨m1.1,fun hh=>by simp at hh⟩ hT.locks rfl rfl hT.ans
   ·exact go _ P.clock _ (.inl rfl) rfl (by simp) ⟨m1.1,fun hh=>by simp at hh⟩ hT.locks rfl rfl hT.ans
   ·exact go _ P.clock _ (.inl rfl) rfl (by simp) ⟨m1.1,fun hh=>by simp at hh⟩ hT.locks rfl rfl hT.ans
   ·exact go _ P.clock _ (.inl rfl) rfl (by simp) ⟨m1.1,fun hh=>by simp at hh⟩ (by simp) rfl rfl hT.ans
   ·exact Turned.same ht hb hl hT (.inl rfl)
theorem Fit.of (h : Fit N P) (hi : i < P.ts.length) {M : PMem} {c : Int} {t' : PThread} (hc : c = P.clock\/(c = P.clock + 1/\P.clock < P.limit)) (h1 : t'.busy = true->FitT (N + 1) t') (h2 : SmallAns t'.last) : Fit (N + 1) { P with mem:=M,clock:=c,ts:=P.ts.set i t' }:=by
 refine ⟨h.kind,?_,h.lim,by simpa using h.thr,by simpa using h.swp,?_⟩
 ·have:=h.clk
  show 0<=c/\c<=P.limit;omega
 ·intro j u hu;simp only [List.getElem?_set] at hu;by_cases e : i = j
  ·rw [if_pos e,if_pos hi] at hu;obtain rfl:=Option.some.inj hu;exact ⟨h1,h2⟩
  ·rw [if_neg e] at hu;exact ⟨fun hb=>((h.th j u hu).1 hb).mono (Nat.le_succ N),(h.th j u hu).2⟩
theorem Fit.step (h : Fit N P) (ht : P.ts[i]? = some t) (hb : t.busy = true) : Fit (N + 1) (P.step i t).1:=by
 obtain ⟨M,c,t',e,hc,h1,h2,_⟩:=(h.turn ht hb).to;rw [e];exact h.of (List.getElem?_eq_some_iff.1 ht).1 hc h1 h2
theorem Fit.begin (h : Fit N P) (i kind key value : Int) (spans : List (Int × Int)) : Fit N (P.begin i kind key value spans).1:=by
 unfold PSt.begin;split
 ·next hI =>
  have hb:=isIn_iff.1 hI;split
  ·exact h
  ·split
   ·next hk =>
    obtain ⟨j,rfl⟩:=Int.eq_ofNat_of_zero_le hb.1;have hj : j < P.ts.length:=by omega
    have ht : P.ts[j]? = some (P.th j):=by simp [PSt.th,List.getElem?_eq_getElem hj]
    refine ⟨h.kind,h.clk,h.lim,by simpa [PSt.setT] using h.thr,by simpa [PSt.setT] using h.swp,?_⟩;intro q u hu;simp only [PSt.setT,Int.toNat_natCast,List.getElem?_set] at hu;by_cases e : j = q
    ·rw [if_pos e,if_pos hj] at hu;obtain rfl:=Option.some.inj hu;refine ⟨fun _=>?_,(h.th j _ ht).2⟩;unfold checkOp at hk;have hkd : kind = 1\/kind = 2\/kind = 3\/kind = 4:=by
      by_cases h1 : kind = 1\/kind = 2\/kind = 3
      ·omega
      ·rw [if_neg h1] at hk;by_cases h4 : kind = 4
       ·omega
       ·rw [if_neg h4] at hk; cases hk
     have hsp : kind = 4->spans.length<=16:=by
      intro h4;rw [if_neg (by omega),if_pos h4] at hk;split at hk
      ·next hh =>
       simp only [Bool.and_eq_true] at hh
       have:=isIn_iff.1 hh.1
       omega
      ·cases hk
     have hnw : (newWork kind key value spans).kind = kind/\(newWork kind key value spans).next = 1/\(newWork kind key value spans).made = []/\(newWork kind key value spans).locks = 0/\(kind = 4->(newWork kind key value spans).links.length = 1/\(newWork kind key value spans).spans = spans)/\(newWork kind key value spans).noted = []/\(newWork kind key value spans).ans.spans = []:=by
      unfold newWork;simp only;rcases hkd with rfl | rfl | rfl | rfl <;> simp [PWork.zero]
     obtain ⟨a1,a2,a3,a4,a5,a6,a7⟩:=hnw;refine ⟨by show (newWork kind key value spans).kind = 1\/_; rw [a1]; exact hkd,by show 1<=(newWork kind key value spans).next/\_; rw [a2]; decide,fun _=>.inl (by show (newWork kind key value spans).next<=4; rw [a2]; decide),⟨by show (newWork kind key value spans).made.length<=2; rw [a3]; simp,fun _=>a3⟩,by show (newWork kind key value spans).locks<=2; rw [a4]; decide,fun h4 _=>(a5 (a1 ▸ h4)).1,fun h4=>by show (newWork kind key value spans).spans.length<=16; rw [(a5 (a1 ▸ h4)).2]; exact hsp (a1 ▸ h4),by show (newWork kind key value spans).noted.length<=N; rw [a6]; simp,SmallAns.zero a7⟩
    ·rw [if_neg e] at hu;exact h.th q u hu
   ·exact h
 ·exact h
theorem retired_le : ∀ (l : List PNode) (i : Nat),(retiredFrom l i).length<=l.length
 | [],_=>Nat.le_refl _
 | x :: r,i=>by
  rw [retiredFrom]
  have:=retired_le r (i + 1)
  split <;> simp <;> omega
theorem Fit.sweep (h : Fit N P) (hn : P.mem.ns.length<=66) : Fit N P.doSweep.1/\1<=P.doSweep.2/\P.doSweep.2<=3:=by
 have hs:=h.swp;unfold PSt.doSweep;simp only;split
 ·refine ⟨⟨h.kind,h.clk,h.lim,h.thr,⟨?_,?_⟩,h.th⟩,by simp,by simp⟩
  ·show 1<=_; omega
  ·exact Nat.le_trans (retired_le _ _) hn
 ·split
  ·split
   ·exact ⟨h,by simp,by simp⟩
   ·refine ⟨⟨h.kind,h.clk,h.lim,h.thr,⟨?_,?_⟩,h.th⟩,by simp,by simp⟩
    ·show P.sweep.made + 1<=_; simp only; omega
    ·show (PSweep.lookAt _ _).retired.length<=66;unfold PSweep.lookAt;split <;> exact hs.2
  ·split
   ·refine ⟨⟨h.kind,h.clk,h.lim,h.thr,⟨?_,hs.2⟩,h.th⟩,by simp,by simp⟩;show P.sweep.made + 1<=P.ts.length + 2; omega
   ·exact ⟨⟨h.kind,h.clk,h.lim,h.thr,⟨by show 0<=_; omega,by simp [PSweep.zero]⟩,h.th⟩,by simp,by simp⟩
end
end
end Go.Proofs.YtfccelbmacjifaaGreat
