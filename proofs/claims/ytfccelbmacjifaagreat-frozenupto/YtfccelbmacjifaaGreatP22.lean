import Derived.Test.YtfccelbmacjifaaGreatP0
import Derived.Test.YtfccelbmacjifaaGreatP21
set_option linter.unusedSimpArgs false
set_option maxRecDepth 100000
set_option maxHeartbeats 4000000
namespace Go.Proofs.YtfccelbmacjifaaGreat
section
def stp (e : PEntry) : Bool:=e.used && !e.pending
def UQ (es : List PEntry) : Prop:=∀ (i j : Nat) a b,es[i]? = some a->es[j]? = some b->stp a = true->stp b = true->a.src = b.src->a.stamp = b.stamp->i = j
theorem UQ.sub {es es' : List PEntry} (h : UQ es) (hs : ∀ (j : Nat) e,es'[j]? = some e->stp e = true->es[j]? = some e) : UQ es' :=
 fun i j a b ha hb sa sb=>h i j a b (hs i a ha sa) (hs j b hb sb) sa sb
theorem UQ.set0 {es : List PEntry} (h : UQ es) (k : Nat) {y : PEntry} (hy : stp y = false) : UQ (es.set k y):=by
 refine h.sub ?_;intro j e hj hs;rw [List.getElem?_set] at hj;split at hj
 ·split at hj
  ·injection hj with hj; subst hj; rw [hy] at hs; cases hs
  ·cases hj
 ·exact hj
theorem UQ.set1 {es : List PEntry} (h : UQ es) (k : Nat) {y : PEntry} (hy : ∀ (j : Nat) b,j≠k->es[j]? = some b->stp b = true->b.src = y.src->b.stamp≠y.stamp) : UQ (es.set k y):=by
 intro i j a b ha hb sa sb e1 e2;rw [List.getElem?_set] at ha hb;by_cases hi : k = i
 ·by_cases hj : k = j
  ·omega
  ·rw [if_neg hj] at hb;rw [if_pos hi] at ha;split at ha
   ·injection ha with ha; subst ha
    exact absurd e2.symm (hy j b (fun e=>hj e.symm) hb sb e1.symm)
   ·cases ha
 ·rw [if_neg hi] at ha;by_cases hj : k = j
  ·rw [if_pos hj] at hb;split at hb
   ·injection hb with hb; subst hb
    exact absurd e2 (hy i a (fun e=>hi e.symm) ha sa e1)
   ·cases hb
  ·rw [if_neg hj] at hb;exact h i j a b ha hb sa sb e1 e2
section
variable {M : PMem}
theorem uq_pend (h : UQ M.es) (n : Int) (s : Bool) (to : Int) : UQ (M.pend n s to).es:=by
 unfold PMem.pend; split
 ·exact h.set0 _ rfl
 ·exact h
theorem uq_addLink (h : UQ M.es) (n to : Int) : UQ (M.addLink n to).es:=by
 unfold PMem.addLink; split
 ·split
  ·exact uq_pend (by rw [modN_ents]; exact h) _ _ _
  ·exact uq_pend (by rw [modN_ents]; exact h) _ _ _
  ·exact h
 ·exact h
theorem uq_make (h : UQ M.es) (a b : Int) : UQ (M.make a b).1.es:=by unfold PMem.make; split <;> exact h
theorem uq_unpend (h : UQ M.es) (n : Int) (s : Bool) : UQ (M.unpend n s).es:=by
 unfold PMem.unpend; split
 ·exact h.set0 _ rfl
 ·exact h
theorem uq_free (h : UQ M.es) (n : Int) : UQ (M.free n).es:=by
 unfold PMem.free; split
 ·refine h.sub ?_;intro j e hj hs;simp only [List.getElem?_map,Option.map_eq_some_iff] at hj;obtain ⟨e0,h1,h2⟩:=hj;split at h2
  ·subst h2; exact nomatch hs
  ·subst h2; exact h1
 ·exact h
theorem uq_freesIf (ht : Bool) (tm : Int) : ∀ (l : List Nat) {M : PMem},UQ M.es->UQ (M.freesIf ht tm l).es
 | [],_,h=>h
 | n :: l,M,h=>by
  unfold PMem.freesIf;refine uq_freesIf ht tm l ?_;split
  ·exact uq_free h _
  ·exact h
theorem uq_drop (h : UQ M.es) (time : Int) : UQ (M.drop time).es:=by
 have hD:=dropK time M.es M.es.length;refine h.sub ?_;intro j e hj hs;obtain ⟨e0,h1,h2⟩:=hD.back hj;rcases h2 with rfl | ⟨rfl,_⟩
 ·exact nomatch hs
 ·exact h1
theorem uq_stamp (hw : Wm M) (h : UQ M.es) {n st : Int} (hn : ∀ s d,Sd M n s d->s≠st) : UQ (M.stamp n false st).es:=by
 unfold PMem.stamp; split
 ·next hh =>
  refine h.set1 _ ?_;intro j b hj hb sb e1 e2;simp only at e1 e2
  -- the entry is one of link n
  rcases find_bd (isPd n false) M.es 0 with ⟨h1,_⟩ | ⟨k,x,h1,h2,h3,_⟩
  ·have : M.pending n false = -1:=h1;rw [this,show M.hasEntry (-1) = false from isIn_false (by omega)] at hh;cases hh
  ·have hp : M.pending n false = (k : Int):=by unfold PMem.pending; simpa using h3
   have he : M.ent (M.pending n false) = x:=by rw [hp]; simp [PMem.ent,h1]
   rw [he] at e1;simp only [isPd,Bool.and_eq_true,beq_iff_eq] at h2;have hsd : Sd M n b.stamp b.dst:=by
    refine ⟨b,List.mem_of_getElem? hb,?_,rfl,rfl⟩;unfold stp at sb;simp only [Bool.and_eq_true,Bool.not_eq_true'] at sb;simp [isSt,sb.1,sb.2,e1.trans h2.2.1,hw.sd b (List.mem_of_getElem? hb)]
   exact hn _ _ hsd e2
 ·exact h
theorem pend_eslen (n : Int) (s : Bool) (to : Int) : (M.pend n s to).es.length = M.es.length:=by unfold PMem.pend; split <;> simp [PMem.setE]
theorem addLink_eslen (n to : Int) : (M.addLink n to).es.length = M.es.length:=by
 unfold PMem.addLink; split
 ·split
  ·rw [pend_eslen,modN_ents]
  ·rw [pend_eslen,modN_ents]
  ·rfl
 ·rfl
theorem make_eslen (a b : Int) : (M.make a b).1.es.length = M.es.length:=by unfold PMem.make; split <;> rfl
theorem unpend_eslen (n : Int) (s : Bool) : (M.unpend n s).es.length = M.es.length:=by unfold PMem.unpend; split <;> simp [PMem.setE]
theorem stamp_eslen (n : Int) (s : Bool) (st : Int) : (M.stamp n s st).es.length = M.es.length:=by unfold PMem.stamp; split <;> simp [PMem.setE]
theorem free_eslen (n : Int) : (M.free n).es.length = M.es.length:=by unfold PMem.free; split <;> simp
theorem lead_es (n : Int) (s : Bool) : (M.lead n s).es = M.es:=by
 unfold PMem.lead; split
 ·exact modN_ents _ _ _
 ·rfl
theorem kills_es : ∀ (l : List Int) (M : PMem),(M.kills l).es = M.es
 | [],_=>rfl
 | n :: l,M=>by show ((M.kill n).kills l).es = _; rw [kills_es l]; exact modN_ents _ _ _
theorem retires_es (tm : Int) : ∀ (l : List Int) (M : PMem),(M.retires tm l).es = M.es
 | [],_=>rfl
 | n :: l,M=>by show ((M.retire n tm).retires tm l).es = _; rw [retires_es tm l]; exact modN_ents _ _ _
end
structure EntStep (M M' : PMem) : Prop where
 sd : ∀ x s d,Sd M x s d->Sd M' x s d
 uq : UQ M.es->UQ M'.es
 ln : M'.es.length = M.es.length
theorem EntStep.same {M M' : PMem} (h : M'.es = M.es) : EntStep M M':=⟨fun x s d=>(sd_es h x s d).2,by rw [h]; exact id,by rw [h]⟩
section
variable {C C' : Int->Prop} {i j : Nat} {t : PThread} {P : PSt} {L : Nat}
theorem Inv.ents (h : Inv C P) (ht : P.ts[i]? = some t) (hb : t.busy = true) : EntStep P.mem (P.step i t).1.mem:=by
 have hT:=h.th i t ht;have hnx:=hT.nx hb;have hkd:=hT.kd hb;have hrd:=hT.rd hb;rcases (show t.work.next = 1\/t.work.next = 2\/t.work.next = 3\/t.work.next = 13\/(4<=t.work.next/\t.work.next<=12) by omega) with hn | hn | hn | hn | hn
 ·unfold PSt.step; simp only [hn]; exact EntStep.same rfl
 ·unfold PSt.step; simp only [hn]; exact EntStep.same rfl
 ·unfold PSt.step; simp only [hn]; exact EntStep.same rfl
 ·unfold PSt.step; simp only [hn]; exact EntStep.same rfl
 ·rw [step_mid P hn.1 hn.2];by_cases hk : t.work.kind = 3\/t.work.kind = 4
  ·rw [if_pos hk];unfold PSt.read;simp only;split <;> exact EntStep.same rfl
  ·rw [if_neg hk];have hk : t.work.kind = 1\/t.work.kind = 2:=by omega
   unfold PSt.update;rcases (show t.work.next = 4\/t.work.next = 5\/t.work.next = 6\/t.work.next = 7\/t.work.next = 8\/t.work.next = 9\/t.work.next = 10\/t.work.next = 11\/t.work.next = 12 by omega) with hn | hn | hn | hn | hn | hn | hn | hn | hn
   ·simp only [hn]; exact EntStep.same rfl
   ·simp only [hn];rcases h.lock ht hb hn with ⟨_,q,_⟩ | ⟨_,q⟩
    ·rw [q];exact EntStep.same (show (P.mem.modN (lockNext t.work) fun x=>{ x with holder:=(i : Int) }).es = P.mem.es from modN_ents _ _ _)
    ·rw [q]; exact EntStep.same rfl
   ·simp only [hn];unfold PSt.check;split
    ·exact EntStep.same (show (P.mem.unlock i).es = P.mem.es from rfl)
    ·split <;> exact EntStep.same rfl
   ·simp only [hn];unfold PSt.prepare;split
    ·exact EntStep.same rfl
    ·next hroom =>
     rcases hk with hk | hk
     ·have hne : P.needs t.work.kind = (1,2):=by unfold PSt.needs; rw [hk,if_neg (by decide),if_neg (by rw [h.kind]; decide)]
      rw [hne] at hroom;simp only [hk,if_true];obtain ⟨n,M1,_,q2,_,_,_,q6⟩:=h.grown ht hb hn (by simp only at hroom; omega) (by simp only at hroom; omega);refine ⟨?_,?_,?_⟩
      ·intro x s d hs;rw [q2];exact (q6 x s d).2 hs
      ·intro hu;show UQ (P.prepareInsert t.work).1.es;unfold PSt.prepareInsert;simp only [if_pos h.kind];exact uq_pend (uq_addLink (uq_make hu _ _) _ _) _ _ _
      ·show (P.prepareInsert t.work).1.es.length = _;unfold PSt.prepareInsert;simp only [if_pos h.kind];rw [pend_eslen,addLink_eslen,make_eslen]
     ·simp only [hk,show ¬ ((2 : Int) = 1) by decide,if_false];have hne : P.needs t.work.kind = (0,1):=by unfold PSt.needs; rw [hk,if_pos rfl]
      rw [hne] at hroom;obtain ⟨_,m1,m2,m3,m4,m5,m6⟩:=h.mine ht hb (by omega) (by omega);have hs1:=(h.side (.inl m1) t.work.key).1;have hr : 0 < P.mem.room.2:=by simp only at hroom; omega
      obtain ⟨e,he,hu⟩:=count_some (l:=P.mem.es) (p:=fun x=>!x.used) (by unfold PMem.room at hr; simpa using hr);refine ⟨?_,?_,?_⟩
      ·intro x s d hs;show Sd (P.prepareRemove t.work).1 x s d;unfold PSt.prepareRemove;simp only [if_pos h.kind];rw [hs1];obtain ⟨_,_,_,_,_,g5⟩:=pend_e (to:=P.leadsFrom t.work.ahead t.work.key) h.wm ⟨e,he,by simpa using hu⟩ m5 (h.noPend ht hb hn);exact (g5 x s d).2 hs
      ·intro hq;show UQ (P.prepareRemove t.work).1.es;unfold PSt.prepareRemove;simp only [if_pos h.kind];exact uq_pend hq _ _ _
      ·show (P.prepareRemove t.work).1.es.length = _;unfold PSt.prepareRemove;simp only [if_pos h.kind];rw [pend_eslen]
   ·simp only [hn];obtain ⟨t1,t2⟩:=hT.ts hb (by omega) (by omega);have hu : P.mem.unpend t.work.tsrc t.work.tside = P.mem.unpend t.work.stand false:=by rw [t1,t2]
    unfold PSt.take;rw [hu];split
    ·rcases hk with hk | hk
     ·obtain ⟨n,f1,f2,f3,f4,f5,f6,f7,f8,f9,f10,f11⟩:=hT.f8 hb hk (.inl hn);obtain ⟨u1,u2,u3,u4⟩:=unpend_e h.wm f10;have hnd:=node_ns u1;obtain ⟨_,_,_,_,v5⟩:=free_e (n:=n) u2 (hasN_used (by rw [hnd]; exact f4)) ⟨f2,f3⟩;have hfr : (P.mem.unpend t.work.stand false).frees t.work.made = (P.mem.unpend t.work.stand false).free n:=by rw [f1]; rfl
      rw [hfr];refine ⟨?_,?_,?_⟩
      ·intro x s d hs;show Sd ((P.mem.unpend t.work.stand false).free n) x s d;rw [v5,u4];exact ⟨by rintro rfl; exact (f11 hn).2 s d hs,hs⟩
      ·intro hq;show UQ ((P.mem.unpend t.work.stand false).free n).es;exact uq_free (uq_unpend hq _ _) _
      ·show ((P.mem.unpend t.work.stand false).free n).es.length = _;rw [free_eslen,unpend_eslen]
     ·obtain ⟨p1,p2⟩:=hT.p2 hb hk (by omega) (by omega);obtain ⟨_,_,_,u4⟩:=unpend_e h.wm p1;have hfr : (P.mem.unpend t.work.stand false).frees t.work.made = P.mem.unpend t.work.stand false:=by rw [p2]; rfl
      rw [hfr];exact ⟨fun x s d hs=>(u4 x s d).2 hs,fun hq=>uq_unpend hq _ _,unpend_eslen _ _⟩
    ·rcases hk with hk | hk
     ·rw [if_neg (show ¬ t.work.kind = 2 by omega)];obtain ⟨n,f1,f2,f3,f4,f5,f6,f7,f8,f9,f10,f11⟩:=hT.f8 hb hk (.inl hn);obtain ⟨f12,f13⟩:=f11 hn;obtain ⟨g1,g2,g3,g4⟩:=stamp_e (P.clock + 1) h.wm f12;have hsn : P.mem.stampsNew (P.clock + 1) t.work.made = P.mem.stamp n false (P.clock + 1):=by
       rw [f1];show (P.mem.stampNew n (P.clock + 1)) = _;unfold PMem.stampNew;rw [stamp_no g2]
      rw [hsn];exact ⟨fun x s d hs=>(g4 x s d).2 (.inl hs),fun hq=>uq_stamp h.wm hq (fun s d hs=>absurd hs (f13 s d)),stamp_eslen _ _ _⟩
     ·rw [if_pos hk]; exact EntStep.same rfl
   ·simp only [hn];exact EntStep.same (kills_es _ _)
   ·simp only [hn];exact EntStep.same (lead_es _ _)
   ·simp only [hn];obtain ⟨t1,t2⟩:=hT.ts hb (by omega) (by omega);have p1:=hT.p11 hb hn;obtain ⟨s1,s2,s3,s4⟩:=hT.s9 hb (by omega) (by omega);obtain ⟨g1,g2,g3,g4⟩:=stamp_e t.work.ans.stamp h.wm p1;rw [show P.mem.stamp t.work.tsrc t.work.tside t.work.ans.stamp = P.mem.stamp t.work.stand false t.work.ans.stamp by rw [t1,t2]];exact ⟨fun x s d hs=>(g4 x s d).2 (.inl hs),fun hq=>uq_stamp h.wm hq (fun s d hs=>by have:=s4 s d hs; omega),stamp_eslen _ _ _⟩
   ·simp only [hn];unfold PSt.unlock;simp only;split
    ·exact EntStep.same ((retires_es _ _ _).trans rfl)
    ·exact EntStep.same (show (P.mem.unlock i).es = P.mem.es from rfl)
end
end
section
def Fresh10 (x : Int) (t : PThread) : Prop:=t.busy = true/\t.work.kind = 1/\t.work.next = 10/\x ∈ t.work.made
structure InvX (C : Int->Prop) (P : PSt) : Prop where
 pr : ∀ x,C x->x≠0->∃ y,C y/\Ld P.mem y = x
 en : ∀ x,(C x\/Ex P.ts (Fresh10 x))->∃ s d,Sd P.mem x s d
 uq : UQ P.mem.es
 k0 : (P.mem.node 0).key = 0/\(P.mem.node 0).value = 0
section
variable {C C' : Int->Prop} {i j : Nat} {t : PThread} {P : PSt} {L : Nat}
theorem Inv.fresh10 (h : Inv C P) (ht : P.ts[i]? = some t) (hb : t.busy = true) (x : Int) (hx : Ex (P.step i t).1.ts (Fresh10 x)) : Ex P.ts (Fresh10 x)/\(t.work.next = 10->¬ x ∈ t.work.made)\/(t.work.next = 8/\∃ s d,Sd (P.step i t).1.mem x s d):=by
 have hT:=h.th i t ht;have hi:=(List.getElem?_eq_some_iff.1 ht).1;by_cases hmv : (P.step i t).2 = 2
 ·left;rw [(h.waits ht hb hmv).1] at hx;refine ⟨hx,fun e=>?_⟩;exact absurd hmv (h.moves ht hb (fun q=>by omega) (fun q=>by omega))
 ·obtain ⟨j,u,hj,hu⟩:=hx;by_cases hji : j = i
  ·right;subst hji;obtain ⟨u1,u2,u3,u4⟩:=hu
   -- only Take leads to step 10 of an Insert
   have hnx:=hT.nx hb;have hkd:=hT.kd hb;have hrd:=hT.rd hb;rcases (show t.work.next = 1\/t.work.next = 2\/t.work.next = 3\/t.work.next = 13\/(4<=t.work.next/\t.work.next<=12) by omega) with hn | hn | hn | hn | hn
   ·exfalso;unfold PSt.step at hj; simp only [hn] at hj;simp [PSt.setT,hi] at hj; subst hj; exact absurd (show (2 : Nat) = 10 from u3) (by omega)
   ·exfalso;unfold PSt.step at hj; simp only [hn] at hj;simp [PSt.setT,hi] at hj; subst hj; exact absurd (show (3 : Nat) = 10 from u3) (by omega)
   ·exfalso;unfold PSt.step at hj; simp only [hn] at hj;simp [PSt.setT,hi] at hj; subst hj; exact absurd (show (4 : Nat) = 10 from u3) (by omega)
   ·exfalso;unfold PSt.step at hj; simp only [hn] at hj;simp [PSt.setT,hi] at hj; subst hj; exact nomatch u1
   ·rw [step_mid P hn.1 hn.2] at hj ⊢;have setW_get : ∀ (Q : PSt) (k : PWork),Q.ts = P.ts->(Q.setW j k).ts[j]? = some { t with work:=k }:=by
     intro Q k hQ;rw [setW_to Q (t:=t) (by rw [hQ]; exact ht) k];simp [hQ,hi]
    by_cases hk : t.work.kind = 3\/t.work.kind = 4
    ·exfalso;rw [if_pos hk] at hj;unfold PSt.read at hj;simp only at hj;split at hj
     ·rw [ht] at hj; injection hj with hj; subst hj; omega
     ·rw [setW_get P _ rfl] at hj;injection hj with hj; subst hj
      have hk' : (if t.work.kind = 3 then P.lookUp t.work (P.mem.ledTo (P.linkNext t.work).1 (P.linkNext t.work).2 t.work.time) else P.scan t.work (P.mem.ledTo (P.linkNext t.work).1 (P.linkNext t.work).2 t.work.time)).kind = t.work.kind:=by
       split
       ·unfold PSt.lookUp; split <;> rfl
       ·unfold PSt.scan; simp only; split <;> rfl
      have u2' : (if t.work.kind = 3 then P.lookUp t.work (P.mem.ledTo (P.linkNext t.work).1 (P.linkNext t.work).2 t.work.time) else P.scan t.work (P.mem.ledTo (P.linkNext t.work).1 (P.linkNext t.work).2 t.work.time)).kind = 1:=u2;omega
    ·rw [if_neg hk] at hj ⊢;have hk : t.work.kind = 1\/t.work.kind = 2:=by omega
     unfold PSt.update at hj ⊢;have bad : ∀ (Q : PSt) (k : PWork),Q.ts = P.ts->(Q.setW j k).ts[j]? = some u->k.next≠10->False:=by
      intro Q k hQ hq hne;rw [setW_get Q k hQ] at hq;injection hq with hq; subst hq
      exact hne u3
     rcases (show t.work.next = 4\/t.work.next = 5\/t.work.next = 6\/t.work.next = 7\/t.work.next = 8\/t.work.next = 9\/t.work.next = 10\/t.work.next = 11\/t.work.next = 12 by omega) with hn | hn | hn | hn | hn | hn | hn | hn | hn
     ·exfalso; simp only [hn] at hj;refine bad P _ rfl hj ?_;unfold PSt.walk; split
      ·show t.work.next≠10; omega
      ·show (5 : Nat)≠10; omega
     ·exfalso; simp only [hn] at hj;rcases h.lock ht hb hn with ⟨_,q,_⟩ | ⟨_,q⟩
      ·rw [q] at hj;refine bad (P.setM _) _ rfl hj ?_;simp only; split <;> omega
      ·rw [q] at hj; rw [ht] at hj; injection hj with hj; subst hj; omega
     ·exfalso; simp only [hn] at hj;unfold PSt.check at hj;split at hj
      ·exact bad (P.setM _) _ rfl hj (by show (4 : Nat)≠10; omega)
      ·split at hj
       ·exact bad P _ rfl hj (by show (12 : Nat)≠10; omega)
       ·exact bad P _ rfl hj (by show (7 : Nat)≠10; omega)
     ·exfalso; simp only [hn] at hj;unfold PSt.prepare at hj;split at hj
      ·exact bad P _ rfl hj (by show (12 : Nat)≠10; omega)
      ·exact bad (P.setM _) _ rfl hj (by show (8 : Nat)≠10; omega)
     ·refine ⟨hn,?_⟩;simp only [hn] at hj ⊢;unfold PSt.take at hj ⊢;split at hj
      ·exact (bad (P.setM _) _ rfl hj (by show (12 : Nat)≠10; omega)).elim
      ·next hlim =>
       rw [if_neg hlim];simp only at hj ⊢;split at hj
       ·exact (bad { P with clock:=P.clock + 1 } _ rfl hj (by show (9 : Nat)≠10; omega)).elim
       ·next hk2 =>
        rw [if_neg hk2];have hj' : (((PSt.setM { P with clock:=P.clock + 1 } (P.mem.stampsNew (P.clock + 1) t.work.made)).setW j { t.work with ans:={ did:=true,stamp:=P.clock + 1 },next:=10 }).ts[j]?) = some u:=hj;rw [setW_get (PSt.setM { P with clock:=P.clock + 1 } (P.mem.stampsNew (P.clock + 1) t.work.made)) _ rfl] at hj';injection hj' with hj'; subst hj'
        obtain ⟨n,f1,f2,f3,f4,f5,f6,f7,f8,f9,f10,f11⟩:=hT.f8 hb (by omega) (.inl hn);obtain ⟨f12,f13⟩:=f11 hn;obtain ⟨g1,g2,g3,g4⟩:=stamp_e (P.clock + 1) h.wm f12;have hsn : P.mem.stampsNew (P.clock + 1) t.work.made = P.mem.stamp n false (P.clock + 1):=by
         rw [f1];show (P.mem.stampNew n (P.clock + 1)) = _;unfold PMem.stampNew;rw [stamp_no g2]
        have hxn : x = n:=mem_one f1 u4;refine ⟨P.clock + 1,t.work.ahead,?_⟩;show Sd (P.mem.stampsNew (P.clock + 1) t.work.made) x (P.clock + 1) t.work.ahead;rw [hsn,hxn];exact (g4 n (P.clock + 1) t.work.ahead).2 (.inr ⟨rfl,rfl,rfl⟩)
     ·exfalso
      have:=hT.n9 hb hn
      simp only [hn] at hj;have hj' : ((P.setM (P.mem.kills (P.takenOut t.work))).setW j { t.work with next:=10 }).ts[j]? = some u:=hj;rw [setW_get (P.setM (P.mem.kills (P.takenOut t.work))) _ rfl] at hj';injection hj' with hj'; subst hj'
      have u2' : t.work.kind = 1:=u2;omega
     ·exfalso; simp only [hn] at hj;exact bad (P.setM _) _ rfl hj (by show (11 : Nat)≠10; omega)
     ·exfalso; simp only [hn] at hj;exact bad (P.setM _) _ rfl hj (by show (12 : Nat)≠10; omega)
     ·exfalso; simp only [hn] at hj;unfold PSt.unlock at hj;exact bad (P.setM _) _ rfl hj (by show (13 : Nat)≠10; omega)
  ·left;obtain ⟨t',hN⟩:=h.near (L:=P.mem.ns.length) rfl ht hb hmv;rw [hN.ts,List.getElem?_set_ne (fun e=>hji e.symm)] at hj;refine ⟨⟨j,u,hj,hu⟩,?_⟩;intro hn hm;obtain ⟨u1,u2,u3,u4⟩:=hu;by_cases hk : t.work.kind = 1
   ·exact hji (h.o.pw j i u t x hj ht ⟨u1,u2,.inr u3,u4⟩ ⟨hb,hk,.inr hn,hm⟩)
   ·have hkd:=hT.kd hb;have hrd:=hT.rd hb
    have:=(hT.p2 hb (by omega) (by omega) (by omega)).2
    rw [this] at hm; cases hm
theorem step10 (P : PSt) (hn : t.work.next = 10) (hk : t.work.kind = 1\/t.work.kind = 2) : P.step i t = ((P.setM (P.mem.lead t.work.tsrc t.work.tside)).setW i { t.work with next:=11 },1):=by
 rw [step_mid P (by omega) (by omega),if_neg (by omega)];unfold PSt.update;simp only [hn]
theorem InvX.step (hX : InvX C P) (h : Inv C P) (ht : P.ts[i]? = some t) (hb : t.busy = true) : InvX (nextC C t) (P.step i t).1:=by
 have hT:=h.th i t ht;have hke:=h.keeps ht hb;have hen:=h.ents ht hb;have hg0 : Gd P.mem C 0:=.inl h.n.a0.1;refine ⟨?_,?_,hen.uq hX.uq,?_⟩
 ·by_cases hn : t.work.next = 10
  ·have hkd:=hT.kd hb;have hrd:=hT.rd hb;have hk : t.work.kind = 1\/t.work.kind = 2:=by omega
   obtain ⟨_,m1,m2,m3,m4,m5,m6⟩:=h.mine ht hb (by omega) (by omega);have c10:=hT.c10 hb (by omega) (by omega);rw [step10 P hn hk];rcases hk with hk | hk
   ·obtain ⟨n,f1,f2,f3,f4,f5,f6,f7,f8,f9,f10,_⟩:=hT.f8 hb hk (.inr hn);obtain ⟨M1,hM,_,_,e0,es⟩:=h.linkMem ht hb hn f10;have hls : Ld M1 t.work.stand = n:=by
     show (M1.node t.work.stand).leads false = _;rw [es];show upd (P.mem.node t.work.stand).leads false n false = _;exact upd_same _ _ _
    have hl0 : ∀ x,x≠t.work.stand->Ld M1 x = Ld P.mem x:=fun x hx=>by simp only [Ld]; rw [e0 x hx]
    have hns : n≠t.work.stand:=fun e=>f5 (e ▸ m1)
    unfold nextC;rw [if_neg (by omega),if_pos ⟨hn,hk⟩,hM];intro x hx h0;rcases hx with hx | hx
    ·obtain ⟨y,y1,y2⟩:=hX.pr x hx h0;by_cases e : y = t.work.stand
     ·refine ⟨n,.inr (by rw [f1]; simp),?_⟩;show Ld M1 n = x;rw [hl0 n hns,f9,<- c10,<- e,y2]
     ·exact ⟨y,.inl y1,by show Ld M1 y = x; rw [hl0 y e]; exact y2⟩
    ·exact ⟨t.work.stand,.inl m1,by show Ld M1 t.work.stand = x; rw [hls,mem_one f1 hx]⟩
   ·obtain ⟨p1,p2⟩:=hT.p2 hb hk (by omega) (by omega);obtain ⟨M1,hM,_,_,e0,es⟩:=h.linkMem ht hb hn p1;have hls : Ld M1 t.work.stand = Ld P.mem t.work.ahead:=by
     show (M1.node t.work.stand).leads false = _;rw [es];show upd (P.mem.node t.work.stand).leads false (Ld P.mem t.work.ahead) false = _;exact upd_same _ _ _
    have hl0 : ∀ x,x≠t.work.stand->Ld M1 x = Ld P.mem x:=fun x hx=>by simp only [Ld]; rw [e0 x hx]
    unfold nextC;rw [if_pos ⟨hn,hk⟩,hM];rintro x ⟨hx,hxa⟩ h0;obtain ⟨y,y1,y2⟩:=hX.pr x hx h0;by_cases e : y = t.work.stand
    ·exfalso; rw [e,c10] at y2; exact hxa y2.symm
    ·by_cases ea : y = t.work.ahead
     ·exact ⟨t.work.stand,⟨m1,m4⟩,by show Ld M1 t.work.stand = x; rw [hls,<- ea]; exact y2⟩
     ·exact ⟨y,⟨y1,ea⟩,by show Ld M1 y = x; rw [hl0 y e]; exact y2⟩
  ·rw [nextC_ne hn];intro x hx h0;obtain ⟨y,y1,y2⟩:=hX.pr x hx h0;exact ⟨y,y1,by rw [((hke y (.inr (.inl y1))).2 hn).2]; exact y2⟩
 ·have up : ∀ x,(∃ s d,Sd P.mem x s d)->∃ s d,Sd (P.step i t).1.mem x s d:=by
   rintro x ⟨s,d,q⟩; exact ⟨s,d,hen.sd x s d q⟩
  rintro x (hx | hx)
  ·refine up x (hX.en x ?_);unfold nextC at hx;split at hx
   ·exact .inl hx.1
   ·next h1 =>
    split at hx
    ·next h2 =>
     rcases hx with hx | hx
     ·exact .inl hx
     ·exact .inr ⟨i,t,ht,hb,h2.2,h2.1,hx⟩
    ·exact .inl hx
  ·rcases h.fresh10 ht hb x hx with ⟨q,_⟩ | ⟨_,q⟩
   ·exact up x (hX.en x (.inr q))
   ·exact q
 ·have:=(hke 0 (.inr hg0)).1.1
  simp only [Ky] at this;rw [this.1,this.2]; exact hX.k0
theorem InvX.sweep (hX : InvX C P) (h : Inv C P) : InvX C P.doSweep.1:=by
 have top : ∀ x,(∃ s d,Sd P.mem x s d)->∃ s d,Sd P.mem x s d/\∀ s' d',Sd P.mem x s' d'->s'<=s:=by
  rintro x ⟨s,d,e,he,h1,_⟩;obtain ⟨m,m1,m2,m3⟩:=maxE (isSt x false) P.mem.es ⟨e,he,h1⟩;refine ⟨m.stamp,m.dst,⟨m,m1,m2,rfl,rfl⟩,?_⟩;rintro s' d' ⟨e',he',h1',rfl,rfl⟩;exact m3 e' he' h1'
 obtain ⟨pr,en,uq,k0⟩:=hX;unfold PSt.doSweep;simp only;split
 ·exact ⟨pr,en,uq,k0⟩
 ·split
  ·split <;> exact ⟨pr,en,uq,k0⟩
  ·next hl =>
   split
   ·generalize (if (P.sweep.hasTime && decide (P.sweep.time < P.sweep.clock)) = true then P.sweep.time else P.sweep.clock) = tm;obtain ⟨g1,g2,g3,g4⟩:=drop_ok h.wm tm;have hnd:=node_ns g1;refine ⟨?_,?_,uq_drop uq _,?_⟩
    ·simpa only [Ld,hnd] using pr
    ·intro x hx;obtain ⟨s,d,q1,q2⟩:=top x (en x hx);exact ⟨s,d,(g4 x s d).2 ⟨q1,fun s' d' q hl=>by have:=q2 s' d' q; omega⟩⟩
    ·simp only [hnd]; exact k0
   ·next he =>
    have hm : P.sweep.made = P.ts.length + 2:=by have:=h.o.sm; omega
    have hre : ∀ x,InSw P.sweep x->De P.mem x/\¬ C x/\x≠0/\x≠1:=by
     intro x hx;have h1:=(h.o.sw x hx).1;obtain ⟨h2,h3,_⟩:=h.n.mr x h1;refine ⟨h2,h3,?_,?_⟩
     ·rintro rfl; exact h3 h.n.a0.1
     ·rintro rfl; simp only [De] at h2; rw [h.n.a1.2.2.2.1] at h2; cases h2
    obtain ⟨g1,g2,g3⟩:=freesIf_ok P.sweep.hasTime P.sweep.time P.sweep.retired P.mem h.wm (by
     intro n hn;obtain ⟨h2,_,h4,h5⟩:=hre (n : Int) ⟨n,hn,rfl⟩;exact ⟨hasN_used (h.n.md _ h2).1,h4,h5⟩)
    have keep : ∀ x,¬ De P.mem x\/C x->¬ Gone P.mem P.sweep.hasTime P.sweep.time P.sweep.retired x:=by
     intro x hx hf;obtain ⟨q1,q2,_⟩:=hre x hf.1;rcases hx with hx | hx
     ·exact hx q1
     ·exact q2 hx
    refine ⟨?_,?_,uq_freesIf _ _ _ uq,?_⟩
    ·intro x hx h0;obtain ⟨y,y1,y2⟩:=pr x hx h0;refine ⟨y,y1,?_⟩;show (PMem.node _ y).leads false = x;rw [((g3 y).2 (keep y (.inr y1))).1]; exact y2
    ·intro x hx;obtain ⟨s,d,q⟩:=en x hx;refine ⟨s,d,(((g3 x).2 (keep x ?_)).2.2 s d).2 q⟩;rcases hx with hx | ⟨j,u,hj,u1,u2,u3,u4⟩
     ·exact .inr hx
     ·left;obtain ⟨n,f1,_,_,_,_,f6,_⟩:=(h.th j u hj).f8 u1 u2 (.inr u3);rw [mem_one f1 u4];simp only [De]; rw [f6]; decide
    ·show (PMem.node _ 0).key = 0/\(PMem.node _ 0).value = 0;rw [((g3 0).2 (keep 0 (.inr h.n.a0.1))).1]; exact k0
theorem InvX.begin (hX : InvX C P) (ht : P.ts[i]? = some t) {k : PWork} (h1 : k.next = 1) : InvX C { P with ts:=P.ts.set i { t with busy:=true,work:=k } }:=by
 obtain ⟨pr,en,uq,k0⟩:=hX;refine ⟨pr,?_,uq,k0⟩;rintro x (hx | ⟨j,u,hj,u1,u2,u3,u4⟩)
 ·exact en x (.inl hx)
 ·have hi:=(List.getElem?_eq_some_iff.1 ht).1;have hj' : (P.ts.set i { t with busy:=true,work:=k })[j]? = some u:=hj;rw [List.getElem?_set] at hj';split at hj'
  ·injection hj' with hj'; subst hj'
   have : k.next = 10:=u3
   omega
  ·exact en x (.inr ⟨j,u,hj',u1,u2,u3,u4⟩)
end
end
section
def Nr (c : Int) (M M' : PMem) (x : Int) : Prop:=Ky M' x = Ky M x/\(M'.node x).value = (M.node x).value/\(Us M x->Us M' x)/\(Re M' x->(Re M x/\Ra M' x = Ra M x)\/(Ra M' x = c/\De M x))
section
variable {C C' : Int->Prop} {M M' M2 : PMem} {c : Int} {i j : Nat} {t : PThread} {P : PSt} {x : Int}
theorem Nr.refl (c : Int) (M : PMem) (x : Int) : Nr c M M x:=⟨rfl,rfl,id,fun h=>.inl ⟨h,rfl⟩⟩
theorem nr_node (h : M'.node x = M.node x) : Nr c M M' x:=by
 unfold Nr Ky Us Re Ra;rw [h]; exact ⟨rfl,rfl,id,fun h=>.inl ⟨h,rfl⟩⟩
theorem nr_ns (h : M'.ns = M.ns) (x : Int) : Nr c M M' x:=nr_node (node_ns h x)
theorem nr_modN (M : PMem) (n : Int) (f : PNode->PNode) (hf : ∀ e,(f e).key = e.key/\(f e).value = e.value/\(f e).used = e.used/\(f e).retired = e.retired/\(f e).retiredAt = e.retiredAt) (x : Int) : Nr c M (M.modN n f) x:=by
 by_cases hn : M.hasNode n = true
 ·have:=node_modN hn f x
  by_cases e : x = n
  ·subst e;rw [if_pos rfl] at this;unfold Nr Ky Us Re Ra;rw [this];obtain ⟨h1,h2,h3,h4,h5⟩:=hf (M.node x);rw [h1,h2,h3,h4,h5];exact ⟨rfl,rfl,id,fun h=>.inl ⟨h,rfl⟩⟩
  ·rw [if_neg e] at this; exact nr_node this
 ·have : M.modN n f = M:=by unfold PMem.modN; rw [if_neg hn]
  rw [this]; exact Nr.refl _ _ _
theorem nr_unlock (M : PMem) (t x : Int) : Nr c M (M.unlock t) x:=by
 unfold Nr Ky Us Re Ra;rw [unlock_node];unfold unlocked;split <;> exact ⟨rfl,rfl,id,fun h=>.inl ⟨h,rfl⟩⟩
theorem nr_lead (M : PMem) (n : Int) (s : Bool) (x : Int) : Nr c M (M.lead n s) x:=by
 unfold PMem.lead;split
 ·generalize (M.ent (M.pending n s)).dst = d;exact nr_modN _ _ (fun x=>{ x with leads:=upd x.leads s d }) (fun e=>⟨rfl,rfl,rfl,rfl,rfl⟩) x
 ·exact Nr.refl _ _ _
theorem Inv.keepsR (h : Inv C P) (ht : P.ts[i]? = some t) (hb : t.busy = true) (x : Int) (hux : Us P.mem x) (h8 : ¬ Fresh8 x t) : Nr P.clock P.mem (P.step i t).1.mem x:=by
 have hT:=h.th i t ht;have hnx:=hT.nx hb;have hkd:=hT.kd hb;have hrd:=hT.rd hb;rcases (show t.work.next = 1\/t.work.next = 2\/t.work.next = 3\/t.work.next = 13\/(4<=t.work.next/\t.work.next<=12) by omega) with hn | hn | hn | hn | hn
 ·unfold PSt.step; simp only [hn]; exact Nr.refl _ _ _
 ·unfold PSt.step; simp only [hn]; exact Nr.refl _ _ _
 ·unfold PSt.step; simp only [hn]; exact Nr.refl _ _ _
 ·unfold PSt.step; simp only [hn]; exact Nr.refl _ _ _
 ·rw [step_mid P hn.1 hn.2];by_cases hk : t.work.kind = 3\/t.work.kind = 4
  ·rw [if_pos hk];unfold PSt.read;simp only;split <;> exact Nr.refl _ _ _
  ·rw [if_neg hk];have hk : t.work.kind = 1\/t.work.kind = 2:=by omega
   unfold PSt.update;rcases (show t.work.next = 4\/t.work.next = 5\/t.work.next = 6\/t.work.next = 7\/t.work.next = 8\/t.work.next = 9\/t.work.next = 10\/t.work.next = 11\/t.work.next = 12 by omega) with hn | hn | hn | hn | hn | hn | hn | hn | hn
   ·simp only [hn]; exact Nr.refl _ _ _
   ·simp only [hn];rcases h.lock ht hb hn with ⟨_,q,_⟩ | ⟨_,q⟩
    ·rw [q];show Nr P.clock P.mem (P.mem.modN (lockNext t.work) fun x=>{ x with holder:=(i : Int) }) x;exact nr_modN _ _ (fun x=>{ x with holder:=(i : Int) }) (fun e=>⟨rfl,rfl,rfl,rfl,rfl⟩) x
    ·rw [q]; exact Nr.refl _ _ _
   ·simp only [hn];unfold PSt.check;split
    ·show Nr P.clock P.mem (P.mem.unlock i) x;exact nr_unlock _ _ _
    ·split <;> (show Nr P.clock P.mem P.mem x; exact Nr.refl _ _ _)
   ·simp only [hn];unfold PSt.prepare;split
    ·exact Nr.refl _ _ _
    ·next hroom =>
     rcases hk with hk | hk
     ·have hne : P.needs t.work.kind = (1,2):=by unfold PSt.needs; rw [hk,if_neg (by decide),if_neg (by rw [h.kind]; decide)]
      rw [hne] at hroom;simp only [hk,if_true];obtain ⟨n,M1,q1,q2,_,q4,_⟩:=h.grown ht hb hn (by simp only at hroom; omega) (by simp only at hroom; omega);rw [q2];refine nr_node ?_;show M1.node x = _;rw [q4,if_neg (show ¬ x = n from fun e=>q1 (e ▸ hux))]
     ·simp only [hk,show ¬ ((2 : Int) = 1) by decide,if_false];refine nr_ns ?_ x;show (P.prepareRemove t.work).1.ns = _;unfold PSt.prepareRemove;simp only [if_pos h.kind];exact pend_ns _ _ _ _
   ·simp only [hn];unfold PSt.take;split
    ·rcases hk with hk | hk
     ·obtain ⟨n,f1,f2,f3,f4,f5,f6,f7,f8,f9,f10,f11⟩:=hT.f8 hb hk (.inl hn);obtain ⟨t1,t2⟩:=hT.ts hb (by omega) (by omega);obtain ⟨u1,u2,u3,u4⟩:=unpend_e h.wm f10;have hnd:=node_ns u1;obtain ⟨_,_,v3,_,_⟩:=free_e (n:=n) u2 (hasN_used (by rw [hnd]; exact f4)) ⟨f2,f3⟩;refine nr_node ?_;show ((P.mem.unpend t.work.tsrc t.work.tside).frees t.work.made).node x = _;rw [t1,t2,f1];show ((P.mem.unpend t.work.stand false).free n).node x = _;rw [v3,if_neg,hnd];rintro rfl;exact h8 ⟨hb,hk,hn,by rw [f1]; simp⟩
     ·refine nr_ns ?_ x;show ((P.mem.unpend t.work.tsrc t.work.tside).frees t.work.made).ns = _;rw [(hT.p2 hb hk (by omega) (by omega)).2];exact unpend_ns _ _ _
    ·split
     ·exact Nr.refl _ _ _
     ·exact nr_ns (stampsNew_ns _ _ _) x
   ·simp only [hn];have hto : P.mem.kills (P.takenOut t.work) = P.mem.modN t.work.ahead fun x=>{ x with dead:=true }:=by
     unfold PSt.takenOut;rw [if_neg (by rw [h.kind]; decide)]; rfl
    rw [hto];show Nr P.clock P.mem (P.mem.modN t.work.ahead fun x=>{ x with dead:=true }) x;exact nr_modN _ _ (fun x=>{ x with dead:=true }) (fun e=>⟨rfl,rfl,rfl,rfl,rfl⟩) x
   ·simp only [hn];show Nr P.clock P.mem (P.mem.lead t.work.tsrc t.work.tside) x;exact nr_lead _ _ _ _
   ·simp only [hn];show Nr P.clock P.mem (P.mem.stamp t.work.tsrc t.work.tside t.work.ans.stamp) x;exact nr_ns (stamp_ns _ _ _ _) x
   ·simp only [hn];unfold PSt.unlock;simp only;split
    ·next hd =>
     have hre : (P.mem.unlock i).retires P.clock (P.takenOut t.work) = (P.mem.unlock i).modN t.work.ahead fun x=>{ x with retired:=true,retiredAt:=P.clock }:=by
      unfold PSt.takenOut;rw [if_neg (by rw [h.kind]; decide)]; rfl
     rw [hre];show Nr P.clock P.mem ((P.mem.unlock i).modN t.work.ahead fun x=>{ x with retired:=true,retiredAt:=P.clock }) x;obtain ⟨o1,o2,o3,o4,o5,o6⟩:=hT.ot ⟨hb,hd.1,.inr ⟨hn,hd.2⟩,rfl⟩;have hua : Us (P.mem.unlock i) t.work.ahead:=by simp only [Us]; rw [((unlock_hold P.mem i).to _).1]; exact (h.n.md _ o3).1
     have g2:=node_modN (hasN_used hua) (fun x=>{ x with retired:=true,retiredAt:=P.clock }) x;by_cases e : x = t.work.ahead
     ·subst e;rw [if_pos rfl] at g2;obtain ⟨z1,z2,z3,_⟩:=nr_unlock (c:=P.clock) P.mem i t.work.ahead;unfold Nr Ky Us Re Ra;rw [g2];exact ⟨z1,z2,z3,fun _=>.inr ⟨rfl,o3⟩⟩
     ·rw [if_neg e] at g2;obtain ⟨z1,z2,z3,z4⟩:=nr_unlock (c:=P.clock) P.mem i x;unfold Nr Ky Us Re Ra at *;rw [g2];exact ⟨z1,z2,z3,z4⟩
    ·show Nr P.clock P.mem (P.mem.unlock i) x;exact nr_unlock _ _ _
def VE (M : PMem) (ts : List PThread) (x s d : Int) : Prop:=Sd M x s d\/(Ex ts (Vs x s)/\Pd M x = [d])
structure Ver (M : PMem) (ts : List PThread) (R : List (Int × Int)) (V : Int->Prop) (T : Int) : Prop where
 a : ∀ p,p ∈ R ↔ ∃ x,V x/\p = (Ky M x,(M.node x).value)
 b : ∀ x y,V x->V y->Ky M x = Ky M y->x = y
 d : ∀ x,V x->Us M x/\x≠0/\x≠1/\(Re M x->T < Ra M x)
 g : ∀ x,(x = 0\/V x)->∃ s y,VE M ts x s y/\s<=T/\(∀ s' d',VE M ts x s' d'->s'<=T->s' < s\/(s' = s/\d' = y))/\(y = 1\/V y)/\Lt M x y/\(∀ p ∈ R,(x = 0\/Ky M x < p.1)->y≠1/\Ky M y<=p.1)
 srt : R.Pairwise (fun p q=>p.1 < q.1)
variable {ts ts' : List PThread} {R : List (Int × Int)} {V : Int->Prop} {T : Int}
theorem Ver.mono (h : Ver M ts R V T) (hk : ∀ x,x = 0\/x = 1\/V x->Ky M' x = Ky M x) (hv : ∀ x,V x->(M'.node x).value = (M.node x).value/\Us M' x/\(Re M' x->T < Ra M' x))
  (hto : ∀ x s d,(x = 0\/V x)->VE M ts x s d->s<=T->(∀ s' d',VE M ts x s' d'->s'<=T->s'<=s)->VE M' ts' x s d) (hfr : ∀ x s d,(x = 0\/V x)->VE M' ts' x s d->s<=T->VE M ts x s d) : Ver M' ts' R V T:=by
 obtain ⟨a,b,d,g,srt⟩:=h;have kv : ∀ x,V x->Ky M' x = Ky M x:=fun x hx=>hk x (.inr (.inr hx))
 refine ⟨?_,?_,?_,?_,srt⟩
 ·intro p;rw [a];constructor
  ·rintro ⟨x,hx,e⟩; exact ⟨x,hx,by rw [kv x hx,(hv x hx).1]; exact e⟩
  ·rintro ⟨x,hx,e⟩; exact ⟨x,hx,by rw [kv x hx,(hv x hx).1] at e; exact e⟩
 ·intro x y hx hy e;rw [kv x hx,kv y hy] at e;exact b x y hx hy e
 ·intro x hx;obtain ⟨_,q2,q3,_⟩:=d x hx;exact ⟨(hv x hx).2.1,q2,q3,(hv x hx).2.2⟩
 ·intro x hx;obtain ⟨s,y,q1,q2,q3,q4,q5,q6⟩:=g x hx;have hkx : Ky M' x = Ky M x:=by rcases hx with e | e; exact hk x (.inl e); exact kv x e
  have hky : Ky M' y = Ky M y:=by rcases q4 with e | e; exact hk y (.inr (.inl e)); exact kv y e
  refine ⟨s,y,hto x s y hx q1 q2 (fun s' d' h1 h2=>by rcases q3 s' d' h1 h2 with z | z <;> omega),q2,fun s' d' h1 h2=>q3 s' d' (hfr x s' d' hx h1 h2) h2,q4,?_,?_⟩
  ·unfold Lt; rw [hkx,hky]; exact q5
  ·intro p hp h0;rw [hkx] at h0;rw [hky]; exact q6 p hp h0
end
end
end Go.Proofs.YtfccelbmacjifaaGreat
