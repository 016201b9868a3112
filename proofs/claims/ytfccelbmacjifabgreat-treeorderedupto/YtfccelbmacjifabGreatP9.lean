import Derived.Test.YtfccelbmacjifabGreatP0
import Derived.Test.YtfccelbmacjifabGreatP8
set_option linter.unusedSimpArgs false
set_option maxRecDepth 100000
set_option maxHeartbeats 4000000
namespace Go.Proofs.YtfccelbmacjifabGreat
section
namespace T
section
variable {g g' : Gh} {M M' : PMem} {c c' : Int} {r r' : PSweep} {i j : Nat} {t t' u : PThread} {ts ts' : List PThread} {P : PSt} {x d : Int} {s : Bool} {key : Int} {k : PWork}
theorem Inv.moves (h : Inv g P) (ht : P.ts[i]? = some t) (hb : t.busy = true) (hn : ¬ (t.work.next = 5/\(t.work.kind = 1\/t.work.kind = 2))) (hr : ¬ (t.work.next = 4/\(t.work.kind = 3\/t.work.kind = 4))) : (P.step i t).2≠2:=by
 have hT:=h.th i t ht;have hnx:=hT.nx hb;have hkd:=hT.kd hb;have hrd:=hT.rd hb;rcases (show t.work.next = 1\/t.work.next = 2\/t.work.next = 3\/t.work.next = 13\/(4<=t.work.next/\t.work.next<=12) by omega) with hq | hq | hq | hq | hq
 ·unfold PSt.step; simp only [hq]; decide
 ·unfold PSt.step; simp only [hq]; decide
 ·unfold PSt.step; simp only [hq]; decide
 ·unfold PSt.step; simp only [hq]; decide
 ·rw [step_mid P hq.1 hq.2];by_cases hk : t.work.kind = 3\/t.work.kind = 4
  ·have:=hrd hk; omega
  ·rw [if_neg hk];unfold PSt.update;rcases (show t.work.next = 4\/t.work.next = 6\/t.work.next = 7\/t.work.next = 8\/t.work.next = 9\/t.work.next = 10\/t.work.next = 11\/t.work.next = 12 by omega) with e | e | e | e | e | e | e | e <;> simp only [e] <;> decide
theorem step_lock (P : PSt) (hn : t.work.next = 5) (hk : t.work.kind = 1\/t.work.kind = 2) : P.step i t = P.lock i t.work:=by
 rw [step_mid P (by omega) (by omega),if_neg (by omega)];unfold PSt.update;simp only [hn]
theorem Inv.waits (h : Inv g P) (ht : P.ts[i]? = some t) (hb : t.busy = true) (hw : (P.step i t).2 = 2) : (P.step i t).1 = P/\((t.work.next = 5/\(t.work.kind = 1\/t.work.kind = 2)/\Ho P.mem (lockNext P.mem t.work)≠-1)\/∃ x s d,d ∈ Pd P.mem x s):=by
 by_cases hn : t.work.next = 5/\(t.work.kind = 1\/t.work.kind = 2)
 ·rw [step_lock P hn.1 hn.2] at hw ⊢;rcases h.lock ht hb hn.1 with ⟨_,q,_⟩ | ⟨q1,q2⟩
  ·rw [q] at hw; exact absurd (show (1 : Int) = 2 from hw) (by decide)
  ·rw [q2]; exact ⟨rfl,.inl ⟨hn.1,hn.2,q1⟩⟩
 ·by_cases hr : t.work.next = 4/\(t.work.kind = 3\/t.work.kind = 4)
  ·have hs : P.step i t = P.read i t.work:=by rw [step_mid P (by omega) (by omega),if_pos hr.2]
   rw [hs] at hw ⊢;unfold PSt.read at hw ⊢;simp only at hw ⊢;by_cases hp : P.mem.hasPending (P.linkNext t.work).1 (P.linkNext t.work).2 = true
   ·rw [if_pos hp];refine ⟨rfl,.inr ⟨(P.linkNext t.work).1,(P.linkNext t.work).2,?_⟩⟩
    have:=hasPd_iff.1 hp
    cases hd : Pd P.mem (P.linkNext t.work).1 (P.linkNext t.work).2 with
    | nil=>exact absurd hd this
    | cons d l=>exact ⟨d,by simp⟩
   ·rw [if_neg hp] at hw; exact absurd (show (1 : Int) = 2 from hw) (by decide)
  ·exact absurd hw (h.moves ht hb hn hr)
theorem Inv.holder (h : Inv g P) (ht : P.ts[i]? = some t) (hb : t.busy = true) (hn : t.work.next = 5) (hh : Ho P.mem (lockNext P.mem t.work)≠-1) :
  ∃ (j : Nat) (u : PThread),P.ts[j]? = some u/\u.busy = true/\(u.work.kind = 1\/u.work.kind = 2)/\((P.step j u).2≠2\/(u.work.next = 5/\Ho P.mem (lockNext P.mem u.work)≠-1/\g.B (lockNext P.mem t.work) < g.B (lockNext P.mem u.work))):=by
 obtain ⟨l1,l2,l3,l4,hk,l6⟩:=h.lockIs ht hb hn;obtain ⟨j,hj,hjo⟩:=(h.o.ho _ l1).resolve_left hh;have hju : P.ts[j]? = some P.ts[j]:=List.getElem?_eq_getElem hj;generalize P.ts[j] = u at hju;have hU:=h.th j u hju;obtain ⟨ub,um⟩:=(hU.hd _ l1).1 hjo;obtain ⟨_,u1,u2,u3,u4,_⟩:=hU.held h.n.one.1 l1 hjo;refine ⟨j,u,hju,ub,u3,?_⟩;by_cases hmv : (P.step j u).2 = 2
 ·right;have hu5 : u.work.next = 5:=by
   by_cases e : u.work.next = 5
   ·exact e
   ·exact absurd hmv (h.moves hju ub (fun q=>e q.1) (fun q=>by omega))
  have hw5 : Ho P.mem (lockNext P.mem u.work)≠-1:=by
   rw [step_lock P hu5 u3] at hmv;rcases h.lock hju ub hu5 with ⟨_,q,_⟩ | ⟨q1,q2⟩
   ·rw [q] at hmv; exact absurd (show (1 : Int) = 2 from hmv) (by decide)
   ·exact q1
  have hl5:=hU.l5 ub hu5;have hlk : 0 < u.work.locks:=by
   rcases Nat.eq_zero_or_pos u.work.locks with h0 | h0
   ·rw [h0] at um; simp at um
   ·exact h0
  have hln:=hl_len P.mem u.work;have hm : Mt P.mem u.work:=hln.2.2.2 (by omega);have hl1 : u.work.locks = 1:=by omega
  have e1 : lockNext P.mem u.work = u.work.stand:=by unfold lockNext hl; rw [if_pos hm,hl1]; rfl
  have e2 : lockNext P.mem t.work = u.work.above:=by
   unfold hl at um; rw [if_pos hm,hl1] at um;simpa using um
  refine ⟨hu5,hw5,?_⟩;rw [e1,e2];exact (hU.xa ub u3 (by omega) u2 (hU.ns h.n.one.1 ub u1 u2 hm)).2.2
 ·exact .inl hmv
theorem Inv.chase (h : Inv g P) : ∀ (m i : Nat) (t : PThread),P.ts[i]? = some t->t.busy = true->t.work.next = 5->Ho P.mem (lockNext P.mem t.work)≠-1->(P.clock - g.B (lockNext P.mem t.work)).toNat<=m->∃ (j : Nat) (u : PThread),P.ts[j]? = some u/\u.busy = true/\(P.step j u).2≠2/\(u.work.kind = 1\/u.work.kind = 2)
 | 0,i,t,ht,hb,hn,hh,hm=>by
  obtain ⟨j,u,hj,ub,uk,q | ⟨q1,q2,q3⟩⟩:=h.holder ht hb hn hh
  ·exact ⟨j,u,hj,ub,q,uk⟩
  ·exfalso;have h2:=h.n.bd (lockNext P.mem u.work);omega
 | m + 1,i,t,ht,hb,hn,hh,hm=>by
  obtain ⟨j,u,hj,ub,uk,q | ⟨q1,q2,q3⟩⟩:=h.holder ht hb hn hh
  ·exact ⟨j,u,hj,ub,q,uk⟩
  ·have h2:=h.n.bd (lockNext P.mem u.work);exact Inv.chase h m j u hj ub q1 q2 (by omega)
theorem Inv.live (h : Inv g P) (ht : P.ts[i]? = some t) (hb : t.busy = true) : ∃ (j : Nat) (u : PThread),P.ts[j]? = some u/\u.busy = true/\(P.step j u).2≠2/\(j = i\/u.work.kind = 1\/u.work.kind = 2):=by
 by_cases hw : (P.step i t).2 = 2
 ·obtain ⟨_,⟨h5,_,hh⟩ | ⟨x,s,d,hd⟩⟩:=h.waits ht hb hw
  ·obtain ⟨j,u,z1,z2,z3,z4⟩:=h.chase _ i t ht hb h5 hh (Nat.le_refl _);exact ⟨j,u,z1,z2,z3,.inr z4⟩
  ·obtain ⟨j,u,hj,hu⟩:=h.e.pd x s d hd;refine ⟨j,u,hj,?_,?_,.inr ?_⟩
   ·rcases hu with q | q
    ·exact q.1
    ·exact q.1
   ·rcases hu with ⟨q1,q2,q3,q4,_⟩ | ⟨q1,q2,q3,_⟩
    ·exact h.moves hj q1 (fun e=>by omega) (fun e=>by omega)
    ·exact h.moves hj q1 (fun e=>by omega) (fun e=>by omega)
   ·rcases hu with q | q
    ·exact q.2.1
    ·exact .inl q.2.1
 ·exact ⟨i,t,ht,hb,hw,.inl rfl⟩
end
end T
end
section
namespace T
def VE (M : PMem) (ts : List PThread) (x : Int) (s : Bool) (st d : Int) : Prop:=Sd M x s st d\/(Ex ts (Vs x s st)/\Pd M x s = [d])
structure Ver (M : PMem) (ts : List PThread) (t : Tr) (T : Int) : Prop where
 a : Ag M t
 r : ∀ x,t.Has x->Re M x->T < Ra M x
 f : ∀ x,t.Has x->¬ Ex ts (Fr8 x)
 e : ∀ x s d,A t x s d->∃ st,VE M ts x s st d/\st<=T/\∀ st' d',VE M ts x s st' d'->st'<=T->st' < st\/(st' = st/\d' = d)
def Nr (c : Int) (O : Int->Prop) (M M' : PMem) (x : Int) : Prop:=Us M' x/\Ky M' x = Ky M x/\Ln M' x = Ln M x/\(M'.node x).value = (M.node x).value/\(Re M' x->(Re M x/\Ra M' x = Ra M x)\/(Ra M' x = c/\O x))
section
variable {g g' : Gh} {M M' : PMem} {c c' T : Int} {r r' : PSweep} {i j : Nat} {t t' u : PThread} {ts ts' : List PThread} {P : PSt} {x d : Int} {s : Bool} {key : Int} {k : PWork} {O : Int->Prop}
theorem Nr.refl (hu : Us M x) : Nr c O M M x:=⟨hu,rfl,rfl,rfl,fun h=>.inl ⟨h,rfl⟩⟩
theorem nr_node (hu : Us M x) (h : M'.node x = M.node x) : Nr c O M M' x:=by
 unfold Nr Ky Us Ln Re Ra;rw [h]; exact ⟨hu,rfl,rfl,rfl,fun h=>.inl ⟨h,rfl⟩⟩
theorem nr_hold (hu : Us M x) (h : HoldEq M M') : Nr c O M M' x:=by
 have q:=h.to x;unfold Nr Ky Us Ln Re Ra;rw [q.1,q.2.2.1,q.2.2.2.1,q.2.2.2.2.1,q.2.2.2.2.2.2.1,q.2.2.2.2.2.2.2];exact ⟨hu,rfl,rfl,rfl,fun h=>.inl ⟨h,rfl⟩⟩
theorem nr_modN (hu : Us M x) (n : Int) (f : PNode->PNode) (hf : ∀ e,(f e).key = e.key/\(f e).value = e.value/\(f e).used = e.used/\(f e).links = e.links/\(f e).retired = e.retired/\(f e).retiredAt = e.retiredAt) : Nr c O M (M.modN n f) x:=by
 by_cases hn : M.hasNode n = true
 ·have:=node_modN hn f x
  by_cases e : x = n
  ·subst e;rw [if_pos rfl] at this;unfold Nr Ky Us Ln Re Ra;rw [this];obtain ⟨h1,h2,h3,h4,h5,h6⟩:=hf (M.node x);rw [h1,h2,h3,h4,h5,h6];exact ⟨hu,rfl,rfl,rfl,fun h=>.inl ⟨h,rfl⟩⟩
  ·rw [if_neg e] at this; exact nr_node hu this
 ·have : M.modN n f = M:=by unfold PMem.modN; rw [if_neg hn]
  rw [this]; exact Nr.refl hu
theorem pend_ns (M : PMem) (n : Int) (s : Bool) (to : Int) : (M.pend n s to).ns = M.ns:=by unfold PMem.pend; split <;> rfl
theorem Inv.keeps (h : Inv g P) (ht : P.ts[i]? = some t) (hb : t.busy = true) (hu : Us P.mem x) (h8 : ¬ Fr8 x t) : Nr P.clock g.O P.mem (P.step i t).1.mem x:=by
 have hT:=h.th i t ht;have hnx:=hT.nx hb;have hkd:=hT.kd hb;have hrd:=hT.rd hb;rcases (show t.work.next = 1\/t.work.next = 2\/t.work.next = 3\/t.work.next = 13\/(4<=t.work.next/\t.work.next<=12) by omega) with hn | hn | hn | hn | hn
 ·unfold PSt.step; simp only [hn]; exact Nr.refl hu
 ·unfold PSt.step; simp only [hn]; exact Nr.refl hu
 ·unfold PSt.step; simp only [hn]; exact Nr.refl hu
 ·unfold PSt.step; simp only [hn]; exact Nr.refl hu
 ·rw [step_mid P hn.1 hn.2];by_cases hk : t.work.kind = 3\/t.work.kind = 4
  ·rw [if_pos hk];unfold PSt.read;simp only;split <;> exact Nr.refl hu
  ·rw [if_neg hk];have hk : t.work.kind = 1\/t.work.kind = 2:=by omega
   unfold PSt.update;rcases (show t.work.next = 4\/t.work.next = 5\/t.work.next = 6\/t.work.next = 7\/t.work.next = 8\/t.work.next = 9\/t.work.next = 10\/t.work.next = 11\/t.work.next = 12 by omega) with hn | hn | hn | hn | hn | hn | hn | hn | hn
   ·simp only [hn]; exact Nr.refl hu
   ·simp only [hn];rcases h.lock ht hb hn with ⟨_,q,_⟩ | ⟨_,q⟩
    ·rw [q];show Nr P.clock g.O P.mem (P.mem.modN (lockNext P.mem t.work) fun x=>{ x with holder:=(i : Int) }) x;exact nr_modN hu _ _ (fun e=>⟨rfl,rfl,rfl,rfl,rfl,rfl⟩)
    ·rw [q]; exact Nr.refl hu
   ·simp only [hn];unfold PSt.check;split
    ·exact nr_hold hu (unlock_hold P.mem i)
    ·split <;> exact Nr.refl hu
   ·simp only [hn];unfold PSt.prepare;split
    ·exact Nr.refl hu
    ·next hroom =>
     rcases hk with hk | hk
     ·have hne : P.needs t.work.kind = (2,3):=by unfold PSt.needs; rw [hk,if_neg (by decide),if_pos h.kind]
      rw [hne] at hroom;simp only [hk,if_true];simp only at hroom;obtain ⟨a,n,M1,q0,q1,q2,q3,q4,q5,_⟩:=h.grown ht hb hn hk (by omega) (by omega);rw [q0];exact nr_node hu (q5 x (fun e=>q1 (e ▸ hu)) (fun e=>q2 (e ▸ hu)))
     ·simp only [hk,show ¬ ((2 : Int) = 1) by decide,if_false];refine nr_node hu (node_ns ?_ x);show (P.prepareRemove t.work).1.ns = _;unfold PSt.prepareRemove;simp only [if_neg (show ¬ P.kind = 0 by rw [h.kind]; decide)];exact pend_ns _ _ _ _
   ·simp only [hn];unfold PSt.take;split
    ·obtain ⟨M1,a,n,q1,_,_,_,q2,_⟩:=h.unprep ht hb hn;refine nr_node hu ?_;show ((P.mem.unpend t.work.tsrc t.work.tside).frees t.work.made).node x = _;rw [q1,q2,if_neg h8]
    ·simp only;rcases hk with hk | hk
     ·rw [if_neg (by omega)];obtain ⟨a,n,q⟩:=hT.f8 hb hk hn;refine nr_node hu ?_;show (P.mem.stampsNew (P.clock + 1) t.work.made).node x = _;rw [q.md];show ((P.mem.stampNew a (P.clock + 1)).stampNew n (P.clock + 1)).node x = _;rw [stampNew_no q.pa];exact node_ns (stampNew_two h.wm q.pn (P.clock + 1)).1 x
     ·rw [if_pos hk]; exact Nr.refl hu
   ·simp only [hn];have m:=h.mine ht hb (by omega) (by omega);have hto : P.takenOut t.work = [t.work.ahead,t.work.stand]:=by unfold PSt.takenOut; rw [if_pos h.kind]
    rw [hto]
    have:=(kills_two (a:=t.work.ahead) (b:=t.work.stand) (h.usedGd (.inr m.ah)) m.us h.wm).2.2 x
    unfold Nr Us Ky Ln Re Ra;show ((P.mem.kills [t.work.ahead,t.work.stand]).node x).used = true/\((P.mem.kills [t.work.ahead,t.work.stand]).node x).key = _/\((P.mem.kills [t.work.ahead,t.work.stand]).node x).links = _/\((P.mem.kills [t.work.ahead,t.work.stand]).node x).value = _/\(((P.mem.kills [t.work.ahead,t.work.stand]).node x).retired = true->(_/\((P.mem.kills [t.work.ahead,t.work.stand]).node x).retiredAt = _)\/_);rw [this];exact ⟨hu,rfl,rfl,rfl,fun h=>.inl ⟨h,rfl⟩⟩
   ·simp only [hn];show Nr P.clock g.O P.mem (P.mem.lead t.work.tsrc t.work.tside) x;unfold PMem.lead;split
    ·exact nr_modN hu _ _ (fun e=>⟨rfl,rfl,rfl,rfl,rfl,rfl⟩)
    ·exact Nr.refl hu
   ·simp only [hn];obtain ⟨d,hp⟩:=h.pdOwn ht hb (by omega) (by omega);exact nr_node hu (node_ns (stamp_e t.work.ans.stamp h.wm hp).1 x)
   ·simp only [hn];unfold PSt.unlock;simp only;by_cases hh : t.work.kind = 2/\t.work.ans.did = true
    ·rw [if_pos hh];have m:=h.mine ht hb (by omega) (by omega);have q9:=(hT.q9 hb hh.1 (.inr (.inr (.inr ⟨hn,hh.2⟩)))).1;have hto : P.takenOut t.work = [t.work.ahead,t.work.stand]:=by unfold PSt.takenOut; rw [if_pos h.kind]
     rw [hto];have hl:=unlock_hold P.mem i;have w:=(retires_two (a:=t.work.ahead) (b:=t.work.stand) (c:=P.clock) (M:=P.mem.unlock i) (by simp only [Us]; rw [(hl.to _).1]; exact h.usedGd (.inr m.ah)) (by simp only [Us]; rw [(hl.to _).1]; exact m.us) (h.wm.unlock i)).2.2 x;have q:=hl.to x;show Nr P.clock g.O P.mem ((P.mem.unlock i).retires P.clock [t.work.ahead,t.work.stand]) x;unfold Nr Us Ky Ln Re Ra;rw [w];split
     ·next e =>
      refine ⟨by show ((P.mem.unlock i).node x).used = true; rw [q.1]; exact hu,q.2.2.2.2.1,q.2.2.2.2.2.2.1,q.2.2.2.2.2.2.2,fun _=>.inr ⟨rfl,?_⟩⟩;rcases e with rfl | rfl
      ·exact q9.o.2
      ·exact q9.o.1
     ·rw [q.1,q.2.2.1,q.2.2.2.1,q.2.2.2.2.1,q.2.2.2.2.2.2.1,q.2.2.2.2.2.2.2];exact ⟨hu,rfl,rfl,rfl,fun h=>.inl ⟨h,rfl⟩⟩
    ·rw [if_neg hh];exact nr_hold hu (unlock_hold P.mem i)
end
end T
end
section
namespace T
inductive Out (g : Gh) (P : PSt) (i : Nat) (t : PThread) : PSt->Int->Prop
 | come1 (hn : t.work.next = 1) : Out g P i t { P with ts:=P.ts.set i { t with slot:=1,work:={ t.work with next:=2 } } } 1
 | come2 (hn : t.work.next = 2) : Out g P i t { P with ts:=P.ts.set i { t with work:={ t.work with time:=P.clock,next:=3 } } } 1
 | come3 (hn : t.work.next = 3) : Out g P i t { P with ts:=P.ts.set i { t with slot:=2,work:=t.work.home } } 1
 | leave (hn : t.work.next = 13) : Out g P i t { P with ts:=P.ts.set i t.leave } 3
 | rwait (hn : t.work.next = 4) (hk : t.work.kind = 3\/t.work.kind = 4) (hp : Pd P.mem (P.linkNext t.work).1 (P.linkNext t.work).2≠[]) : Out g P i t P 2
 | rgo (hn : t.work.next = 4) (hk : t.work.kind = 3\/t.work.kind = 4) (hp : Pd P.mem (P.linkNext t.work).1 (P.linkNext t.work).2 = []) (k : PWork)
   (ek : k = if t.work.kind = 3 then P.lookUp t.work (P.mem.ledTo (P.linkNext t.work).1 (P.linkNext t.work).2 t.work.time) else P.scan t.work (P.mem.ledTo (P.linkNext t.work).1 (P.linkNext t.work).2 t.work.time))
   (hs : k.kind = t.work.kind/\(k.next = 4\/k.next = 13)/\k.time = t.work.time/\k.key = t.work.key/\k.value = t.work.value/\k.spans = t.work.spans/\k.locks = t.work.locks/\k.made = t.work.made) : Out g P i t { P with ts:=P.ts.set i { t with work:=k } } 1
 | walkOn (hn : t.work.next = 4) (hk : t.work.kind = 1\/t.work.kind = 2) (hl : Ln P.mem (Ld P.mem t.work.stand (sd P.mem t.work.stand t.work.key)) = 2) : Out g P i t { P with ts:=P.ts.set i { t with work:={ t.work with above:=t.work.stand,stand:=Ld P.mem t.work.stand (sd P.mem t.work.stand t.work.key) } } } 1
 | walkEnd (hn : t.work.next = 4) (hk : t.work.kind = 1\/t.work.kind = 2) (hl : Ln P.mem (Ld P.mem t.work.stand (sd P.mem t.work.stand t.work.key))≠2) : Out g P i t { P with ts:=P.ts.set i { t with work:={ t.work with ahead:=Ld P.mem t.work.stand (sd P.mem t.work.stand t.work.key),next:=5 } } } 1
 | lwait (hn : t.work.next = 5) (hk : t.work.kind = 1\/t.work.kind = 2) (hh : Ho P.mem (lockNext P.mem t.work)≠-1) : Out g P i t P 2
 | lock (hn : t.work.next = 5) (hk : t.work.kind = 1\/t.work.kind = 2) (hh : Ho P.mem (lockNext P.mem t.work) = -1) (nn : Nat) (hnn : nn = if (hl P.mem t.work).length<=t.work.locks + 1 then 6 else 5) (hn56 : nn = 5\/nn = 6) : Out g P i t { P with mem:=P.mem.modN (lockNext P.mem t.work) fun x=>{ x with holder:=i },ts:=P.ts.set i { t with work:={ t.work with locks:=t.work.locks + 1,next:=nn } } } 1
 | home (hn : t.work.next = 6) (hk : t.work.kind = 1\/t.work.kind = 2) (ho : P.outdated t.work = true) : Out g P i t { P with mem:=P.mem.unlock i,ts:=P.ts.set i { t with work:=({ t.work with locks:=0 } : PWork).home } } 1
 | same (hn : t.work.next = 6) (hk : t.work.kind = 1\/t.work.kind = 2) (ho : ¬ P.outdated t.work = true) (hm : Ky P.mem t.work.ahead = t.work.key ↔ t.work.kind = 1) : Out g P i t { P with ts:=P.ts.set i { t with work:=t.work.settle { stamp:=P.clock } } } 1
 | right (hn : t.work.next = 6) (hk : t.work.kind = 1\/t.work.kind = 2) (ho : ¬ P.outdated t.work = true) (hm : Ky P.mem t.work.ahead = t.work.key ↔ t.work.kind = 2) : Out g P i t { P with ts:=P.ts.set i { t with work:={ t.work with next:=7 } } } 1
 | full (hn : t.work.next = 7) (hk : t.work.kind = 1\/t.work.kind = 2) (hr : P.mem.room.1 < (P.needs t.work.kind).1\/P.mem.room.2 < (P.needs t.work.kind).2) : Out g P i t { P with ts:=P.ts.set i { t with work:=t.work.settle { err:=7 } } } 1
 | prepI (hn : t.work.next = 7) (hk : t.work.kind = 1) (hr1 : 2<=P.mem.room.1) (hr2 : 3<=P.mem.room.2) (a n : Int) (M1 : PMem) (ep : P.prepareInsert t.work = (M1,{ t.work with made:=[a,n],tsrc:=t.work.stand,tside:=sd P.mem t.work.stand t.work.key })) (ua : ¬ Us P.mem a) (un : ¬ Us P.mem n) (ne : a≠n)
   (nd : ∀ x,x≠a->x≠n->M1.node x = P.mem.node x)
   (pd : ∀ x s,Pd M1 x s = if x = t.work.stand/\s = sd P.mem t.work.stand t.work.key then [n] else if x = n then [kid P.mem t.work a s] else Pd P.mem x s) (sdd : ∀ x s st d,Sd M1 x s st d ↔ Sd P.mem x s st d) (rm : M1.room.1 + 2 = P.mem.room.1/\M1.room.2 + 3 = P.mem.room.2) : Out g P i t { P with mem:=M1,ts:=P.ts.set i { t with work:={ t.work with made:=[a,n],tsrc:=t.work.stand,tside:=sd P.mem t.work.stand t.work.key,next:=8 } } } 1
 | prepR (hn : t.work.next = 7) (hk : t.work.kind = 2) (hr : 1<=P.mem.room.2) (M1 : PMem) (em : M1 = P.mem.pend t.work.above (sd P.mem t.work.above t.work.key) (Ld P.mem t.work.stand (!sd P.mem t.work.stand t.work.key))) (nd : ∀ x,M1.node x = P.mem.node x)
   (pd : ∀ x s,Pd M1 x s = if x = t.work.above/\s = sd P.mem t.work.above t.work.key then [Ld P.mem t.work.stand (!sd P.mem t.work.stand t.work.key)] else Pd P.mem x s) (sdd : ∀ x s st d,Sd M1 x s st d ↔ Sd P.mem x s st d) (rm : M1.room.1 = P.mem.room.1/\M1.room.2 + 1 = P.mem.room.2) : Out g P i t { P with mem:=M1,ts:=P.ts.set i { t with work:={ t.work with tsrc:=t.work.above,tside:=sd P.mem t.work.above t.work.key,next:=8 } } } 1
 | late (hn : t.work.next = 8) (hk : t.work.kind = 1\/t.work.kind = 2) (hl : P.limit<=P.clock) (M1 : PMem) (em : M1 = (P.mem.unpend t.work.tsrc t.work.tside).frees t.work.made) (nd : ∀ x,M1.node x = if Fr8 x t then PNode.zero else P.mem.node x)
   (pd : ∀ x s,Pd M1 x s = if (x = t.work.tsrc/\s = t.work.tside)\/Fr8 x t then [] else Pd P.mem x s) (sdd : ∀ x s st d,Sd M1 x s st d ↔ Sd P.mem x s st d) : Out g P i t { P with mem:=M1,ts:=P.ts.set i { t with work:=t.work.settle { err:=8 } } } 1
 | takeI (hn : t.work.next = 8) (hk : t.work.kind = 1) (hl : ¬ P.limit<=P.clock) (a n : Int) (q : New g P.mem P.clock t.work a n) (M1 : PMem) (em : M1 = P.mem.stampsNew (P.clock + 1) t.work.made) (nd : ∀ x,M1.node x = P.mem.node x)
   (pd : ∀ x s,Pd M1 x s = if x = n then [] else Pd P.mem x s) (sdd : ∀ x s st d,Sd M1 x s st d ↔ Sd P.mem x s st d\/(x = n/\st = P.clock + 1/\d = kid P.mem t.work a s)) : Out g P i t { P with mem:=M1,clock:=P.clock + 1,ts:=P.ts.set i { t with work:={ t.work with ans:={ did:=true,stamp:=P.clock + 1 },next:=10 } } } 1
 | takeR (hn : t.work.next = 8) (hk : t.work.kind = 2) (hl : ¬ P.limit<=P.clock) : Out g P i t { P with clock:=P.clock + 1,ts:=P.ts.set i { t with work:={ t.work with ans:={ did:=true,stamp:=P.clock + 1,value:=(P.mem.node t.work.ahead).value },next:=9 } } } 1
 | kill (hn : t.work.next = 9) (hk : t.work.kind = 2) (M1 : PMem) (em : M1 = P.mem.kills (P.takenOut t.work)) (es : M1.es = P.mem.es) : Out g P i t { P with mem:=M1,ts:=P.ts.set i { t with work:={ t.work with next:=10 } } } 1
 | link (hn : t.work.next = 10) (hk : t.work.kind = 1\/t.work.kind = 2) (M1 : PMem) (em : M1 = P.mem.lead t.work.tsrc t.work.tside) (es : M1.es = P.mem.es) : Out g P i t { P with mem:=M1,ts:=P.ts.set i { t with work:={ t.work with next:=11 } } } 1
 | stamp (hn : t.work.next = 11) (hk : t.work.kind = 1\/t.work.kind = 2) (d0 : Int) (hp : Pd P.mem t.work.tsrc t.work.tside = [d0]) (M1 : PMem) (em : M1 = P.mem.stamp t.work.tsrc t.work.tside t.work.ans.stamp) (nd : ∀ x,M1.node x = P.mem.node x)
   (pd : ∀ x s,Pd M1 x s = if x = t.work.tsrc/\s = t.work.tside then [] else Pd P.mem x s) (sdd : ∀ x s st d,Sd M1 x s st d ↔ Sd P.mem x s st d\/(x = t.work.tsrc/\s = t.work.tside/\st = t.work.ans.stamp/\d = d0)) : Out g P i t { P with mem:=M1,ts:=P.ts.set i { t with work:={ t.work with next:=12 } } } 1
 | unlock (hn : t.work.next = 12) (hk : t.work.kind = 1\/t.work.kind = 2) (M1 : PMem) (em : M1 = if t.work.kind = 2/\t.work.ans.did = true then (P.mem.unlock i).retires P.clock (P.takenOut t.work) else P.mem.unlock i) (es : M1.es = P.mem.es) : Out g P i t { P with mem:=M1,ts:=P.ts.set i { t with work:={ t.work with locks:=0,next:=13 } } } 1
section
variable {g g' : Gh} {M M' : PMem} {c c' T : Int} {r r' : PSweep} {i j : Nat} {t t' u : PThread} {ts ts' : List PThread} {P : PSt} {x d : Int} {s : Bool} {key : Int} {k : PWork}
theorem kills_es : ∀ (l : List Int) (M : PMem),(M.kills l).es = M.es
 | [],_=>rfl
 | n :: l,M=>by
  show ((M.kill n).kills l).es = _;rw [kills_es l]; exact modN_ents _ _ _
theorem retires_es (tm : Int) : ∀ (l : List Int) (M : PMem),(M.retires tm l).es = M.es
 | [],_=>rfl
 | n :: l,M=>by
  show ((M.retire n tm).retires tm l).es = _;rw [retires_es tm l]; exact modN_ents _ _ _
theorem Inv.out (h : Inv g P) (ht : P.ts[i]? = some t) (hb : t.busy = true) : ∃ P' n,P.step i t = (P',n)/\Out g P i t P' n:=by
 have hT:=h.th i t ht;have hnx:=hT.nx hb;have hkd:=hT.kd hb;have hrd:=hT.rd hb;rcases (show t.work.next = 1\/t.work.next = 2\/t.work.next = 3\/t.work.next = 13\/(4<=t.work.next/\t.work.next<=12) by omega) with hn | hn | hn | hn | hn
 ·exact ⟨_,_,by unfold PSt.step; simp only [hn]; rfl,.come1 hn⟩
 ·exact ⟨_,_,by unfold PSt.step; simp only [hn]; rfl,.come2 hn⟩
 ·exact ⟨_,_,by unfold PSt.step; simp only [hn]; rfl,.come3 hn⟩
 ·exact ⟨_,_,by unfold PSt.step; simp only [hn]; rfl,.leave hn⟩
 ·rw [step_mid P hn.1 hn.2];by_cases hk : t.work.kind = 3\/t.work.kind = 4
  ·rw [if_pos hk];have hn4 : t.work.next = 4:=by have:=hrd hk; omega
   unfold PSt.read;simp only;by_cases hp : P.mem.hasPending (P.linkNext t.work).1 (P.linkNext t.work).2 = true
   ·rw [if_pos hp]; exact ⟨_,_,rfl,.rwait hn4 hk (hasPd_iff.1 hp)⟩
   ·rw [if_neg hp];have hp' : Pd P.mem (P.linkNext t.work).1 (P.linkNext t.work).2 = []:=Classical.not_not.1 (fun q=>hp (hasPd_iff.2 q));refine ⟨_,_,by rw [setW_to P ht],.rgo hn4 hk hp' _ rfl ?_⟩;split
    ·unfold PSt.lookUp; split
     ·exact ⟨rfl,.inl hn4,rfl,rfl,rfl,rfl,rfl,rfl⟩
     ·exact ⟨rfl,.inr rfl,rfl,rfl,rfl,rfl,rfl,rfl⟩
    ·unfold PSt.scan; simp only; split
     ·exact ⟨rfl,.inr rfl,rfl,rfl,rfl,rfl,rfl,rfl⟩
     ·exact ⟨rfl,.inl hn4,rfl,rfl,rfl,rfl,rfl,rfl⟩
  ·rw [if_neg hk];have hk : t.work.kind = 1\/t.work.kind = 2:=by omega
   unfold PSt.update;rcases (show t.work.next = 4\/t.work.next = 5\/t.work.next = 6\/t.work.next = 7\/t.work.next = 8\/t.work.next = 9\/t.work.next = 10\/t.work.next = 11\/t.work.next = 12 by omega) with hn | hn | hn | hn | hn | hn | hn | hn | hn
   ·simp only [hn];have hld:=h.leads (hT.xs hb hk (by omega) (by omega)).1.sn t.work.key;have hp : P.isPassed (P.leadsFrom t.work.stand t.work.key) t.work.key = decide (Ln P.mem (Ld P.mem t.work.stand (sd P.mem t.work.stand t.work.key)) = 2):=by
     unfold PSt.isPassed;rw [if_pos h.kind,hld]; rfl
    unfold PSt.walk;rw [hp,hld];by_cases hd : Ln P.mem (Ld P.mem t.work.stand (sd P.mem t.work.stand t.work.key)) = 2
    ·rw [if_pos (by simpa using hd)]; exact ⟨_,_,by rw [setW_to P ht],.walkOn hn hk hd⟩
    ·rw [if_neg (by simpa using hd)]; exact ⟨_,_,by rw [setW_to P ht],.walkEnd hn hk hd⟩
   ·simp only [hn];rcases h.lock ht hb hn with ⟨q1,q,_⟩ | ⟨q1,q⟩
    ·rw [q];refine ⟨_,_,by rw [setMW_to P ht],.lock hn hk q1 _ rfl ?_⟩;split <;> omega
    ·rw [q]; exact ⟨_,_,rfl,.lwait hn hk q1⟩
   ·simp only [hn];unfold PSt.check;by_cases ho : P.outdated t.work = true
    ·rw [if_pos ho]; exact ⟨_,_,by rw [setMW_to P ht],.home hn hk ho⟩
    ·rw [if_neg ho];have hmk : P.meetsKey t.work = decide (Ky P.mem t.work.ahead = t.work.key):=by unfold PSt.meetsKey; rw [Bool.eq_iff_iff]; simp
     rw [hmk];by_cases hm : (decide (Ky P.mem t.work.ahead = t.work.key) == (t.work.kind == 1)) = true
     ·rw [if_pos hm];refine ⟨_,_,by rw [setW_to P ht],.same hn hk ho ?_⟩;rcases hk with e | e <;> rw [e] at hm ⊢ <;> by_cases q : Ky P.mem t.work.ahead = t.work.key <;> simp [q] at hm ⊢
     ·rw [if_neg hm];refine ⟨_,_,by rw [setW_to P ht],.right hn hk ho ?_⟩;rcases hk with e | e <;> rw [e] at hm ⊢ <;> by_cases q : Ky P.mem t.work.ahead = t.work.key <;> simp [q] at hm ⊢
   ·simp only [hn];unfold PSt.prepare;by_cases hr : P.mem.room.1 < (P.needs t.work.kind).1\/P.mem.room.2 < (P.needs t.work.kind).2
    ·rw [if_pos hr]; exact ⟨_,_,by rw [setW_to P ht],.full hn hk hr⟩
    ·rw [if_neg hr];rcases hk with hk | hk
     ·have hne : P.needs t.work.kind = (2,3):=by unfold PSt.needs; rw [hk,if_neg (by decide),if_pos h.kind]
      rw [hne] at hr;simp only at hr;obtain ⟨a,n,M1,q0,q1,q2,q3,q4,q5,q6,q7,q8,q9,q10⟩:=h.grownR ht hb hn hk (by omega) (by omega);simp only [hk,if_true];refine ⟨_,_,?_,.prepI hn hk (by omega) (by omega) a n M1 q0 q1 q2 q3 q5 q8 q9 q10⟩;rw [q0];simp only;rw [setMW_to P ht]
     ·have hne : P.needs t.work.kind = (0,1):=by unfold PSt.needs; rw [hk,if_pos rfl]
      rw [hne] at hr;simp only at hr;simp only [hk,show ¬ ((2 : Int) = 1) by decide,if_false];have m:=h.mine ht hb (by omega) (by omega);have hA:=m.ab (m.mt hk (.inl (by omega)));have hSt:=h.heldGd ht m.us m.hs;have hAb:=h.heldGd ht hA.1 hA.2.1;have hl1:=h.hasLink (s:=!sd P.mem t.work.stand t.work.key) hSt (fun e=>absurd e hA.2.2.1);have hl2:=h.hasLink (s:=sd P.mem t.work.above t.work.key) hAb (by intro e; rw [e]; exact sd0 h.n.n0.2.1 _);have hpr : P.prepareRemove t.work = (P.mem.pend t.work.above (sd P.mem t.work.above t.work.key) (Ld P.mem t.work.stand (!sd P.mem t.work.stand t.work.key)),{ t.work with tsrc:=t.work.above,tside:=sd P.mem t.work.above t.work.key }):=by
       unfold PSt.prepareRemove;simp only;rw [if_neg (show ¬ P.kind = 0 by rw [h.kind]; decide)];unfold PMem.leadsTo;unfold sd at hl1 ⊢;rw [hl1]; rfl
      have hr0 : 0 < P.mem.room.2:=by omega
      obtain ⟨e,he,hue⟩:=count_some (l:=P.mem.es) (p:=fun x=>!x.used) (by unfold PMem.room at hr0; simpa using hr0);have hp0:=h.noPend ht (by omega) hA.1 hA.2.1 (sd P.mem t.work.above t.work.key);obtain ⟨k5,g5,w0,w2,w3,w4⟩:=pend_e (to:=Ld P.mem t.work.stand (!sd P.mem t.work.stand t.work.key)) h.wm ⟨e,he,by simpa using hue⟩ hl2 hp0;have c5:=count_set_e (p:=fun x : PEntry=>!x.used) (y:=⟨true,true,t.work.above,sd P.mem t.work.above t.work.key,Ld P.mem t.work.stand (!sd P.mem t.work.stand t.work.key),0⟩) g5 rfl rfl;have e6 : P.mem.room.2 = (count (fun x : PEntry=>!x.used) P.mem.es : Nat):=rfl;refine ⟨_,_,?_,.prepR hn hk (by omega) _ rfl (fun x=>node_ns (by rw [w0]) x) w3 w4 ⟨by rw [w0]; rfl,?_⟩⟩
      case refine_2 =>
       rw [w0];show ((count (fun x : PEntry=>!x.used) (P.mem.es.set k5 _) : Nat) : Int) + 1 = _;omega
      rw [hpr];simp only;rw [setMW_to P ht,hk]
   ·simp only [hn];unfold PSt.take;by_cases hl : P.limit<=P.clock
    ·rw [if_pos hl];obtain ⟨M1,a,n,q1,_,_,_,q2,q3,q4⟩:=h.unprep ht hb hn;rw [q1];exact ⟨_,_,by rw [setMW_to P ht],.late hn hk hl M1 q1.symm q2 q3 q4⟩
    ·rw [if_neg hl];simp only;rcases hk with hk | hk
     ·rw [if_neg (by omega)];obtain ⟨a,n,q⟩:=hT.f8 hb hk hn;have hM : P.mem.stampsNew (P.clock + 1) t.work.made = P.mem.stampNew n (P.clock + 1):=by
       rw [q.md];show (P.mem.stampNew a (P.clock + 1)).stampNew n (P.clock + 1) = _;rw [stampNew_no q.pa]
      obtain ⟨w0,w1,w3,w4⟩:=stampNew_two h.wm q.pn (P.clock + 1);refine ⟨_,_,by rw [setMW_to _ (show ({ P with clock:=P.clock + 1 } : PSt).ts[i]? = some t from ht)],.takeI hn hk hl a n q _ rfl ?_ ?_ ?_⟩
      ·intro x; rw [hM]; exact node_ns w0 x
      ·intro x s; rw [hM]; exact w3 x s
      ·intro x s st d; rw [hM]; exact w4 x s st d
     ·rw [if_pos hk];exact ⟨_,_,by rw [setW_to _ (show ({ P with clock:=P.clock + 1 } : PSt).ts[i]? = some t from ht)],.takeR hn hk hl⟩
   ·simp only [hn];exact ⟨_,_,by rw [setMW_to P ht],.kill hn (hT.n9 hb hn) _ rfl (kills_es _ _)⟩
   ·simp only [hn];refine ⟨_,_,by rw [setMW_to P ht],.link hn hk _ rfl ?_⟩;unfold PMem.lead; split
    ·exact modN_ents _ _ _
    ·rfl
   ·simp only [hn];obtain ⟨d,hp⟩:=h.pdOwn ht hb (by omega) (by omega);obtain ⟨w1,w2,w3,w4⟩:=stamp_e t.work.ans.stamp h.wm hp;exact ⟨_,_,by rw [setMW_to P ht],.stamp hn hk d hp _ rfl (node_ns w1) w3 w4⟩
   ·simp only [hn];unfold PSt.unlock;simp only;refine ⟨_,_,by rw [setMW_to P ht],.unlock hn hk _ rfl ?_⟩;split
    ·rw [retires_es]; rfl
    ·rfl
end
end T
end
section
namespace T
section
variable {g g' : Gh} {M M' : PMem} {c c' T : Int} {r r' : PSweep} {i j : Nat} {t t' u : PThread} {ts ts' : List PThread} {P P' : PSt} {x d st : Int} {s : Bool} {key : Int} {k : PWork} {n : Int}
structure VeStep (P P' : PSt) : Prop where
 to : ∀ x s st d,VE P.mem P.ts x s st d->VE P'.mem P'.ts x s st d
 fr : ∀ x s st d,VE P'.mem P'.ts x s st d->VE P.mem P.ts x s st d\/st = P.clock + 1
theorem no_vs (h : t.busy = true->t.work.next<=8\/12<=t.work.next\/(t.work.kind≠1/\t.work.kind≠2)) (x : Int) (s : Bool) (st : Int) : ¬ Vs x s st t:=by
 rintro ⟨b,k,h1,h2,_⟩;rcases h b with q | q | q <;> omega
theorem VeStep.same (ht : P.ts[i]? = some t) (hts : P'.ts = P.ts.set i t') (he : P'.mem.es = P.mem.es) (hv : ∀ x s st,Vs x s st t' ↔ Vs x s st t) : VeStep P P':=by
 have key : ∀ x s st d,VE P'.mem P'.ts x s st d ↔ VE P.mem P.ts x s st d:=by
  intro x s st d;unfold VE;rw [sd_es he,hts,ex_iff ht (hv x s st),pd_es he]
 exact ⟨fun x s st d=>(key x s st d).2,fun x s st d hh=>.inl ((key x s st d).1 hh)⟩
theorem Inv.vsHeld (h : Inv g P) (hj : P.ts[j]? = some u) (hv : Vs x s st u) : Us P.mem x/\Ho P.mem x = j:=by
 obtain ⟨b,hk,h9,h11,e1,e2,e3⟩:=hv
 have:=(h.mine hj b (by omega) (by omega)).ts h11 (by omega)
 rw [e1] at this;exact ⟨this.1,this.2.1⟩
theorem Inv.veStep (h : Inv g P) (ht : P.ts[i]? = some t) (hb : t.busy = true) : VeStep P (P.step i t).1:=by
 have hT:=h.th i t ht;obtain ⟨P',n,hs,ho⟩:=h.out ht hb;rw [hs]
 -- what was and what is: threads without a stamp
 have off : ∀ {M1 : PMem} {k : PWork},(∀ x s st d,Sd M1 x s st d ↔ Sd P.mem x s st d)->(∀ x s,Us P.mem x->Ho P.mem x≠i->Ho P.mem x≠-1->Pd M1 x s = Pd P.mem x s)->(t.work.next<=8)->(k.next<=8\/12<=k.next)->VeStep P { P with mem:=M1,ts:=P.ts.set i { t with work:=k } }:=by
  intro M1 k h1 h2 h3 h4;have n1 : ∀ x s st,¬ Vs x s st t:=no_vs (fun _=>.inl h3);have n2 : ∀ x s st,¬ Vs x s st { t with work:=k }:=no_vs (fun _=>by show k.next<=8\/12<=k.next\/_; omega);have key : ∀ x s st d,VE M1 (P.ts.set i { t with work:=k }) x s st d ↔ VE P.mem P.ts x s st d:=by
   intro x s st d;unfold VE;rw [h1,ex_iff ht (iff_of_false (n2 x s st) (n1 x s st))];refine or_congr Iff.rfl ?_;constructor
   ·rintro ⟨q1,q2⟩;refine ⟨q1,?_⟩;obtain ⟨j,u,hj,hv⟩:=q1;obtain ⟨v1,v2⟩:=h.vsHeld hj hv;rw [h2 x s v1 (fun e=>?_) (by rw [v2]; omega)] at q2
    ·exact q2
    ·have : j = i:=by rw [v2] at e; omega
     subst this;rw [ht] at hj; injection hj with hj; subst hj
     exact n1 _ _ _ hv
   ·rintro ⟨q1,q2⟩;refine ⟨q1,?_⟩;obtain ⟨j,u,hj,hv⟩:=q1;obtain ⟨v1,v2⟩:=h.vsHeld hj hv;rw [h2 x s v1 (fun e=>?_) (by rw [v2]; omega)]
    ·exact q2
    ·have : j = i:=by rw [v2] at e; omega
     subst this;rw [ht] at hj; injection hj with hj; subst hj
     exact n1 _ _ _ hv
  exact ⟨fun x s st d=>(key x s st d).2,fun x s st d hh=>.inl ((key x s st d).1 hh)⟩
 have no : ∀ {t' : PThread},(t'.busy = true->t'.work.next<=8\/12<=t'.work.next\/(t'.work.kind≠1/\t'.work.kind≠2))->(t.work.next<=8\/12<=t.work.next\/(t.work.kind≠1/\t.work.kind≠2))->∀ x s st,Vs x s st t' ↔ Vs x s st t :=
  fun h1 h2 x s st=>iff_of_false (no_vs h1 x s st) (no_vs (fun _=>h2) x s st)
 cases ho with
 | come1 hn=>exact VeStep.same ht rfl rfl (no (fun _=>.inl (by show 2<=8; omega)) (.inl (by omega)))
 | come2 hn=>exact VeStep.same ht rfl rfl (no (fun _=>.inl (by show 3<=8; omega)) (.inl (by omega)))
 | come3 hn=>exact VeStep.same ht rfl rfl (no (fun _=>.inl (by show 4<=8; omega)) (.inl (by omega)))
 | leave hn=>exact VeStep.same ht rfl rfl (no (fun b=>nomatch b) (.inr (.inl (by omega))))
 | rwait=>exact ⟨fun _ _ _ _ h=>h,fun _ _ _ _ h=>.inl h⟩
 | rgo hn hk hp k ek hs=>exact VeStep.same ht rfl rfl (no (fun _=>.inr (.inr (by show k.kind≠1/\k.kind≠2; omega))) (.inl (by omega)))
 | walkOn hn hk hl=>exact VeStep.same ht rfl rfl (no (fun _=>.inl (by show t.work.next<=8; omega)) (.inl (by omega)))
 | walkEnd hn hk hl=>exact VeStep.same ht rfl rfl (no (fun _=>.inl (by show 5<=8; omega)) (.inl (by omega)))
 | lwait=>exact ⟨fun _ _ _ _ h=>h,fun _ _ _ _ h=>.inl h⟩
 | lock hn hk hh nn hnn hn56=>exact VeStep.same ht rfl (modN_ents _ _ _) (no (fun _=>.inl (by show nn<=8; omega)) (.inl (by omega)))
 | home hn=>exact VeStep.same ht rfl rfl (no (fun _=>.inl (by show 4<=8; omega)) (.inl (by omega)))
 | same hn=>exact VeStep.same ht rfl rfl (no (fun _=>.inr (.inl (by show 12<=12; omega))) (.inl (by omega)))
 | right hn=>exact VeStep.same ht rfl rfl (no (fun _=>.inl (by show 7<=8; omega)) (.inl (by omega)))
 | full hn=>exact VeStep.same ht rfl rfl (no (fun _=>.inr (.inl (by show 12<=12; omega))) (.inl (by omega)))
 | prepI hn hk hr1 hr2 a n M1 ep ua un ne nd pd sdd =>
  have m:=h.mine ht hb (by omega) (by omega);refine off sdd ?_ (by omega) (.inl (by show 8<=8; omega));intro x s hu h1 _;rw [pd,if_neg (fun (e : x = t.work.stand/\s = sd P.mem t.work.stand t.work.key)=>h1 (e.1 ▸ m.hs)),if_neg (fun (e : x = n)=>un (e ▸ hu))]
 | prepR hn hk hr M1 em nd pd sdd =>
  have m:=h.mine ht hb (by omega) (by omega);have hA:=m.ab (m.mt hk (.inl (by omega)));refine off sdd ?_ (by omega) (.inl (by show 8<=8; omega));intro x s hu h1 _;rw [pd,if_neg (fun (e : x = t.work.above/\s = sd P.mem t.work.above t.work.key)=>h1 (e.1 ▸ hA.2.1))]
 | late hn hk hl M1 em nd pd sdd =>
  have m:=(h.mine ht hb (by omega) (by omega)).ts (by omega) (by omega);refine off sdd ?_ (by omega) (.inr (by show 12<=12; omega));intro x s hu h1 h2;rw [pd,if_neg];rintro (e | e)
  ·exact h1 (e.1 ▸ m.2.1)
  ·exact h2 (h.freshUs ht ⟨e.1,e.2.1,.inl e.2.2.1,e.2.2.2⟩).2.2
 | takeI hn hk hl a n q M1 em nd pd sdd =>
  have m:=(h.mine ht hb (by omega) (by omega)).ts (by omega) (by omega);have n1 : ∀ x s st,¬ Vs x s st t:=no_vs (fun _=>.inl (by omega));have nn : ∀ (j : Nat) u x s st,P.ts[j]? = some u->Vs x s st u->x≠n:=by
   rintro j u x s st hj hv rfl
   have:=(h.vsHeld hj hv).2
   rw [q.dn.2.2.2.2] at this; omega
  constructor
  ·rintro x s st d (hv | ⟨q1,q2⟩)
   ·exact .inl ((sdd _ _ _ _).2 (.inl hv))
   ·refine .inr ⟨q1.set ht (fun e=>absurd e (n1 _ _ _)),?_⟩;obtain ⟨j,u,hj,hv⟩:=q1;show Pd M1 x s = [d];rw [pd,if_neg (nn j u x s st hj hv)]; exact q2
  ·rintro x s st d (hv | ⟨q1,q2⟩)
   ·rcases (sdd _ _ _ _).1 hv with e | e
    ·exact .inl (.inl e)
    ·exact .inr e.2.1
   ·rcases (Ex.get ht).1 q1 with ⟨_,_,_,_,_,_,e⟩ | ⟨j,u,_,hj,hv⟩
    ·exact .inr e.symm
    ·refine .inl (.inr ⟨⟨j,u,hj,hv⟩,?_⟩);have q2 : Pd M1 x s = [d]:=q2;rw [pd,if_neg (nn j u x s st hj hv)] at q2; exact q2
 | takeR hn hk hl =>
  have n1 : ∀ x s st,¬ Vs x s st t:=no_vs (fun _=>.inl (by omega));constructor
  ·rintro x s st d (hv | ⟨q1,q2⟩)
   ·exact .inl hv
   ·exact .inr ⟨q1.set ht (fun e=>absurd e (n1 _ _ _)),q2⟩
  ·rintro x s st d (hv | ⟨q1,q2⟩)
   ·exact .inl (.inl hv)
   ·rcases (Ex.get ht).1 q1 with ⟨_,_,_,_,_,_,e⟩ | ⟨j,u,_,hj,hv⟩
    ·exact .inr e.symm
    ·exact .inl (.inr ⟨⟨j,u,hj,hv⟩,q2⟩)
 | kill hn hk M1 em es =>
  refine VeStep.same ht rfl es (fun x s st=>?_);constructor
  ·rintro ⟨a1,a2,a3,a4,a5⟩; exact ⟨a1,a2,by omega,by omega,a5⟩
  ·rintro ⟨a1,a2,a3,a4,a5⟩; exact ⟨a1,a2,by show 9<=10; omega,by show 10<=11; omega,a5⟩
 | link hn hk M1 em es =>
  refine VeStep.same ht rfl es (fun x s st=>?_);constructor
  ·rintro ⟨a1,a2,a3,a4,a5⟩; exact ⟨a1,a2,by omega,by omega,a5⟩
  ·rintro ⟨a1,a2,a3,a4,a5⟩; exact ⟨a1,a2,by show 9<=11; omega,by show 11<=11; omega,a5⟩
 | stamp hn hk d0 hp M1 em nd pd sdd =>
  have m:=(h.mine ht hb (by omega) (by omega)).ts (by omega) (by omega);have n2 : ∀ x s st,¬ Vs x s st { t with work:={ t.work with next:=12 } }:=no_vs (fun _=>.inr (.inl (by show 12<=12; omega)));have nn : ∀ (j : Nat) u x s st,j≠i->P.ts[j]? = some u->Vs x s st u->x≠t.work.tsrc:=by
   rintro j u x s st hne hj hv rfl
   have:=(h.vsHeld hj hv).2
   rw [m.2.1] at this; omega
  constructor
  ·rintro x s st d (hv | ⟨q1,q2⟩)
   ·exact .inl ((sdd _ _ _ _).2 (.inl hv))
   ·rcases q1.or ht with ⟨_,_,_,_,e1,e2,e3⟩ | ⟨j,u,hne,hj,hv⟩
    ·left;refine (sdd _ _ _ _).2 (.inr ⟨e1.symm,e2.symm,e3.symm,?_⟩);rw [<- e1,<- e2,hp] at q2;simpa using q2.symm
    ·refine .inr ⟨Ex.other hj hv hne,?_⟩;show Pd M1 x s = [d];rw [pd,if_neg (fun e=>nn j u x s st hne hj hv e.1)]; exact q2
  ·rintro x s st d (hv | ⟨q1,q2⟩)
   ·rcases (sdd _ _ _ _).1 hv with e | ⟨e1,e2,e3,e4⟩
    ·exact .inl (.inl e)
    ·refine .inl (.inr ⟨⟨i,t,ht,hb,hk,by omega,by omega,e1.symm,e2.symm,e3.symm⟩,?_⟩);rw [e1,e2,e4]; exact hp
   ·rcases (Ex.get ht).1 q1 with e | ⟨j,u,hne,hj,hv⟩
    ·exact absurd e (n2 _ _ _)
    ·refine .inl (.inr ⟨⟨j,u,hj,hv⟩,?_⟩);have q2 : Pd M1 x s = [d]:=q2;rw [pd,if_neg (fun e=>nn j u x s st hne hj hv e.1)] at q2; exact q2
 | unlock hn hk M1 em es=>exact VeStep.same ht rfl es (no (fun _=>.inr (.inl (by show 12<=13; omega))) (.inr (.inl (by omega))))
theorem Inv.verStep (h : Inv g P) (ht : P.ts[i]? = some t) (hb : t.busy = true) {tr : Tr} (hR : Ver P.mem P.ts tr T) (hT : T < P.clock\/(T = P.clock/\tr = g.V P.clock)) : Ver (P.step i t).1.mem (P.step i t).1.ts tr T:=by
 have hv:=h.veStep ht hb;have us : ∀ x,tr.Has x->Us P.mem x:=by
  intro x hx;rcases Tr.has_or hx with ⟨q,hq⟩ | ⟨q,w,hq⟩
  ·exact (hR.a.n x q hq).1
  ·exact (hR.a.l x q w hq).1
 have nr : ∀ x,tr.Has x->Nr P.clock g.O P.mem (P.step i t).1.mem x:=fun x hx=>h.keeps ht hb (us x hx) (fun hf=>hR.f x hx ⟨i,t,ht,hf⟩)
 refine ⟨⟨?_,?_⟩,?_,?_,?_⟩
 ·intro x q hq;obtain ⟨n1,n2,n3,n4,n5⟩:=nr x (Tr.nod_has hq)
  have:=hR.a.n x q hq
  exact ⟨n1,by rw [n3]; exact this.2.1,by rw [n2]; exact this.2.2⟩
 ·intro x q w hq;obtain ⟨n1,n2,n3,n4,n5⟩:=nr x (Tr.lea_has hq)
  have:=hR.a.l x q w hq
  exact ⟨n1,by rw [n3]; exact this.2.1,by rw [n2]; exact this.2.2.1,by rw [n4]; exact this.2.2.2⟩
 ·intro x hx hr;obtain ⟨n1,n2,n3,n4,n5⟩:=nr x hx;rcases n5 hr with e | e
  ·rw [e.2]; exact hR.r x hx e.1
  ·rw [e.1];rcases hT with q | ⟨q1,q2⟩
   ·exact q
   ·exfalso;rw [q2] at hx;exact (h.n.ou x e.2).2.1 hx
 ·intro x hx hf;have hu:=us x hx;obtain ⟨P',n,hs,ho⟩:=h.out ht hb;rw [hs] at hf;have fin : ∀ {t' : PThread},Ex (P.ts.set i t') (Fr8 x)->(Fr8 x t'->False)->False:=by
   intro t' hh hn;rcases (Ex.get ht).1 hh with e | ⟨j,u,_,hj,e⟩
   ·exact hn e
   ·exact hR.f x hx ⟨j,u,hj,e⟩
  cases ho with
  | rwait=>exact hR.f x hx hf
  | lwait=>exact hR.f x hx hf
  | leave=>exact fin hf (fun e=>nomatch e.1)
  | prepI hn hk hr1 hr2 a n M1 ep ua un =>
   refine fin hf ?_;rintro ⟨_,_,_,e⟩;have e : x ∈ [a,n]:=e;simp at e;rcases e with rfl | rfl
   ·exact ua hu
   ·exact un hu
  | prepR hn hk=>exact fin hf (fun e=>by have : t.work.kind = 1:=e.2.1; omega)
  | come1=>exact fin hf (fun e=>by have : (2 : Nat) = 8:=e.2.2.1; omega)
  | come2=>exact fin hf (fun e=>by have : (3 : Nat) = 8:=e.2.2.1; omega)
  | come3=>exact fin hf (fun e=>by have : (4 : Nat) = 8:=e.2.2.1; omega)
  | rgo hn hk hp k ek hs=>exact fin hf (fun e=>by have : k.next = 8:=e.2.2.1; omega)
  | walkOn hn=>exact fin hf (fun e=>by have : t.work.next = 8:=e.2.2.1; omega)
  | walkEnd=>exact fin hf (fun e=>by have : (5 : Nat) = 8:=e.2.2.1; omega)
  | lock hn hk hh nn hnn hn56=>exact fin hf (fun e=>by have : nn = 8:=e.2.2.1; omega)
  | home=>exact fin hf (fun e=>by have : (4 : Nat) = 8:=e.2.2.1; omega)
  | same=>exact fin hf (fun e=>by have : (12 : Nat) = 8:=e.2.2.1; omega)
  | right=>exact fin hf (fun e=>by have : (7 : Nat) = 8:=e.2.2.1; omega)
  | full=>exact fin hf (fun e=>by have : (12 : Nat) = 8:=e.2.2.1; omega)
  | late=>exact fin hf (fun e=>by have : (12 : Nat) = 8:=e.2.2.1; omega)
  | takeI=>exact fin hf (fun e=>by have : (10 : Nat) = 8:=e.2.2.1; omega)
  | takeR=>exact fin hf (fun e=>by have : (9 : Nat) = 8:=e.2.2.1; omega)
  | kill=>exact fin hf (fun e=>by have : (10 : Nat) = 8:=e.2.2.1; omega)
  | link=>exact fin hf (fun e=>by have : (11 : Nat) = 8:=e.2.2.1; omega)
  | stamp=>exact fin hf (fun e=>by have : (12 : Nat) = 8:=e.2.2.1; omega)
  | unlock=>exact fin hf (fun e=>by have : (13 : Nat) = 8:=e.2.2.1; omega)
 ·intro x s d hd;obtain ⟨st,e1,e2,e3⟩:=hR.e x s d hd;refine ⟨st,hv.to _ _ _ _ e1,e2,?_⟩;intro st' d' h1 h2;rcases hv.fr _ _ _ _ h1 with q | q
  ·exact e3 st' d' q h2
  ·omega
end
end T
end
end Go.Proofs.YtfccelbmacjifabGreat
