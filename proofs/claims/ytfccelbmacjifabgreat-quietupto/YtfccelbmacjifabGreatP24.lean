import Derived.Test.YtfccelbmacjifabGreatP0
import Derived.Test.YtfccelbmacjifabGreatP8
import Derived.Test.YtfccelbmacjifabGreatP23
set_option linter.unusedSimpArgs false
set_option maxRecDepth 100000
set_option maxHeartbeats 4000000
namespace Go.Proofs.YtfccelbmacjifabGreat
section
def stp (e : PEntry) : Bool:=e.used && !e.pending
def UQ (es : List PEntry) : Prop:=∀ (i j : Nat) a b,es[i]? = some a->es[j]? = some b->stp a = true->stp b = true->a.src = b.src->a.stamp = b.stamp->i = j
theorem UQ.sub {es es' : List PEntry} (h : UQ es) (hs : ∀ (j : Nat) e,es'[j]? = some e->stp e = true->es[j]? = some e) : UQ es' :=
 fun i j a b ha hb sa sb=>h i j a b (hs i a ha sa) (hs j b hb sb) sa sb
theorem UQ.set0 {es : List PEntry} (h : UQ es) (k : Nat) {y : PEntry} (hy : stp y = false) : UQ (es.set k y):=by
 refine h.sub ?_;intro j e hj hs;rw [List.getElem?_set] at hj;split at hj
 ·split at hj
  ·injection hj with hj; subst hj; rw [hy] at hs; cases hs
  ·cases hj
 ·exact hj
theorem UQ.set1 {es : List PEntry} (h : UQ es) (k : Nat) {y : PEntry} (hy : ∀ (j : Nat) b,j≠k->es[j]? = some b->stp b = true->b.src = y.src->b.stamp≠y.stamp) : UQ (es.set k y):=by
 intro i j a b ha hb sa sb e1 e2;rw [List.getElem?_set] at ha hb;by_cases hi : k = i
 ·by_cases hj : k = j
  ·omega
  ·rw [if_neg hj] at hb;rw [if_pos hi] at ha;split at ha
   ·injection ha with ha; subst ha
    exact absurd e2.symm (hy j b (fun e=>hj e.symm) hb sb e1.symm)
   ·cases ha
 ·rw [if_neg hi] at ha;by_cases hj : k = j
  ·rw [if_pos hj] at hb;split at hb
   ·injection hb with hb; subst hb
    exact absurd e2 (hy i a (fun e=>hi e.symm) ha sa e1)
   ·cases hb
  ·rw [if_neg hj] at hb;exact h i j a b ha hb sa sb e1 e2
section
variable {M : PMem}
theorem uq_pend (h : UQ M.es) (n : Int) (s : Bool) (to : Int) : UQ (M.pend n s to).es:=by
 unfold PMem.pend; split
 ·exact h.set0 _ rfl
 ·exact h
theorem uq_addLink (h : UQ M.es) (n to : Int) : UQ (M.addLink n to).es:=by
 unfold PMem.addLink; split
 ·split
  ·exact uq_pend (by rw [modN_ents]; exact h) _ _ _
  ·exact uq_pend (by rw [modN_ents]; exact h) _ _ _
  ·exact h
 ·exact h
theorem uq_make (h : UQ M.es) (a b : Int) : UQ (M.make a b).1.es:=by unfold PMem.make; split <;> exact h
theorem uq_unpend (h : UQ M.es) (n : Int) (s : Bool) : UQ (M.unpend n s).es:=by
 unfold PMem.unpend; split
 ·exact h.set0 _ rfl
 ·exact h
theorem uq_free (h : UQ M.es) (n : Int) : UQ (M.free n).es:=by
 unfold PMem.free; split
 ·refine h.sub ?_;intro j e hj hs;simp only [List.getElem?_map,Option.map_eq_some_iff] at hj;obtain ⟨e0,h1,h2⟩:=hj;split at h2
  ·subst h2; exact nomatch hs
  ·subst h2; exact h1
 ·exact h
theorem uq_stamp (hw : Wm M) (h : UQ M.es) {n st : Int} (hn : ∀ s d,Sd M n s d->s≠st) : UQ (M.stamp n false st).es:=by
 unfold PMem.stamp; split
 ·next hh =>
  refine h.set1 _ ?_;intro j b hj hb sb e1 e2;simp only at e1 e2
  -- the entry is one of link n
  rcases find_bd (isPd n false) M.es 0 with ⟨h1,_⟩ | ⟨k,x,h1,h2,h3,_⟩
  ·have : M.pending n false = -1:=h1;rw [this,show M.hasEntry (-1) = false from isIn_false (by omega)] at hh;cases hh
  ·have hp : M.pending n false = (k : Int):=by unfold PMem.pending; simpa using h3
   have he : M.ent (M.pending n false) = x:=by rw [hp]; simp [PMem.ent,h1]
   rw [he] at e1;simp only [isPd,Bool.and_eq_true,beq_iff_eq] at h2;have hsd : Sd M n b.stamp b.dst:=by
    refine ⟨b,List.mem_of_getElem? hb,?_,rfl,rfl⟩;unfold stp at sb;simp only [Bool.and_eq_true,Bool.not_eq_true'] at sb;simp [isSt,sb.1,sb.2,e1.trans h2.2.1,hw.sd b (List.mem_of_getElem? hb)]
   exact hn _ _ hsd e2
 ·exact h
theorem pend_eslen (n : Int) (s : Bool) (to : Int) : (M.pend n s to).es.length = M.es.length:=by unfold PMem.pend; split <;> simp [PMem.setE]
theorem addLink_eslen (n to : Int) : (M.addLink n to).es.length = M.es.length:=by
 unfold PMem.addLink; split
 ·split
  ·rw [pend_eslen,modN_ents]
  ·rw [pend_eslen,modN_ents]
  ·rfl
 ·rfl
theorem make_eslen (a b : Int) : (M.make a b).1.es.length = M.es.length:=by unfold PMem.make; split <;> rfl
theorem unpend_eslen (n : Int) (s : Bool) : (M.unpend n s).es.length = M.es.length:=by unfold PMem.unpend; split <;> simp [PMem.setE]
theorem stamp_eslen (n : Int) (s : Bool) (st : Int) : (M.stamp n s st).es.length = M.es.length:=by unfold PMem.stamp; split <;> simp [PMem.setE]
theorem free_eslen (n : Int) : (M.free n).es.length = M.es.length:=by unfold PMem.free; split <;> simp
theorem freesIf_eslen (ht : Bool) (tm : Int) : ∀ (l : List Nat) (M : PMem),(M.freesIf ht tm l).es.length = M.es.length
 | [],_=>rfl
 | n :: l,M=>by
  unfold PMem.freesIf;rw [freesIf_eslen ht tm l];split
  ·exact free_eslen _
  ·rfl
theorem drop_eslen (time : Int) : (M.drop time).es.length = M.es.length:=(dropK time M.es M.es.length).len
theorem lead_es (n : Int) (s : Bool) : (M.lead n s).es = M.es:=by
 unfold PMem.lead; split
 ·exact modN_ents _ _ _
 ·rfl
theorem kills_es : ∀ (l : List Int) (M : PMem),(M.kills l).es = M.es
 | [],_=>rfl
 | n :: l,M=>by show ((M.kill n).kills l).es = _; rw [kills_es l]; exact modN_ents _ _ _
theorem retires_es (tm : Int) : ∀ (l : List Int) (M : PMem),(M.retires tm l).es = M.es
 | [],_=>rfl
 | n :: l,M=>by show ((M.retire n tm).retires tm l).es = _; rw [retires_es tm l]; exact modN_ents _ _ _
end
structure EntStep (M M' : PMem) : Prop where
 sd : ∀ x s d,Sd M x s d->Sd M' x s d
 uq : UQ M.es->UQ M'.es
 ln : M'.es.length = M.es.length
theorem EntStep.same {M M' : PMem} (h : M'.es = M.es) : EntStep M M':=⟨fun x s d=>(sd_es h x s d).2,by rw [h]; exact id,by rw [h]⟩
section
variable {C C' : Int->Prop} {i j : Nat} {t : PThread} {P : PSt} {L : Nat}
theorem Inv.ents (h : Inv C P) (ht : P.ts[i]? = some t) (hb : t.busy = true) : EntStep P.mem (P.step i t).1.mem:=by
 have hT:=h.th i t ht;have hnx:=hT.nx hb;have hkd:=hT.kd hb;have hrd:=hT.rd hb;rcases (show t.work.next = 1\/t.work.next = 2\/t.work.next = 3\/t.work.next = 13\/(4<=t.work.next/\t.work.next<=12) by omega) with hn | hn | hn | hn | hn
 ·unfold PSt.step; simp only [hn]; exact EntStep.same rfl
 ·unfold PSt.step; simp only [hn]; exact EntStep.same rfl
 ·unfold PSt.step; simp only [hn]; exact EntStep.same rfl
 ·unfold PSt.step; simp only [hn]; exact EntStep.same rfl
 ·rw [step_mid P hn.1 hn.2];by_cases hk : t.work.kind = 3\/t.work.kind = 4
  ·rw [if_pos hk];unfold PSt.read;simp only;split <;> exact EntStep.same rfl
  ·rw [if_neg hk];have hk : t.work.kind = 1\/t.work.kind = 2:=by omega
   unfold PSt.update;rcases (show t.work.next = 4\/t.work.next = 5\/t.work.next = 6\/t.work.next = 7\/t.work.next = 8\/t.work.next = 9\/t.work.next = 10\/t.work.next = 11\/t.work.next = 12 by omega) with hn | hn | hn | hn | hn | hn | hn | hn | hn
   ·simp only [hn]; exact EntStep.same rfl
   ·simp only [hn];rcases h.lock ht hb hn with ⟨_,q,_⟩ | ⟨_,q⟩
    ·rw [q];exact EntStep.same (show (P.mem.modN (lockNext t.work) fun x=>{ x with holder:=(i : Int) }).es = P.mem.es from modN_ents _ _ _)
    ·rw [q]; exact EntStep.same rfl
   ·simp only [hn];unfold PSt.check;split
    ·exact EntStep.same (show (P.mem.unlock i).es = P.mem.es from rfl)
    ·split <;> exact EntStep.same rfl
   ·simp only [hn];unfold PSt.prepare;split
    ·exact EntStep.same rfl
    ·next hroom =>
     rcases hk with hk | hk
     ·have hne : P.needs t.work.kind = (1,2):=by unfold PSt.needs; rw [hk,if_neg (by decide),if_neg (by rw [h.kind]; decide)]
      rw [hne] at hroom;simp only [hk,if_true];obtain ⟨n,M1,_,q2,_,_,_,q6⟩:=h.grown ht hb hn (by simp only at hroom; omega) (by simp only at hroom; omega);refine ⟨?_,?_,?_⟩
      ·intro x s d hs;rw [q2];exact (q6 x s d).2 hs
      ·intro hu;show UQ (P.prepareInsert t.work).1.es;unfold PSt.prepareInsert;simp only [if_pos h.kind];exact uq_pend (uq_addLink (uq_make hu _ _) _ _) _ _ _
      ·show (P.prepareInsert t.work).1.es.length = _;unfold PSt.prepareInsert;simp only [if_pos h.kind];rw [pend_eslen,addLink_eslen,make_eslen]
     ·simp only [hk,show ¬ ((2 : Int) = 1) by decide,if_false];have hne : P.needs t.work.kind = (0,1):=by unfold PSt.needs; rw [hk,if_pos rfl]
      rw [hne] at hroom;obtain ⟨_,m1,m2,m3,m4,m5,m6⟩:=h.mine ht hb (by omega) (by omega);have hs1:=(h.side (.inl m1) t.work.key).1;have hr : 0 < P.mem.room.2:=by simp only at hroom; omega
      obtain ⟨e,he,hu⟩:=count_some (l:=P.mem.es) (p:=fun x=>!x.used) (by unfold PMem.room at hr; simpa using hr);refine ⟨?_,?_,?_⟩
      ·intro x s d hs;show Sd (P.prepareRemove t.work).1 x s d;unfold PSt.prepareRemove;simp only [if_pos h.kind];rw [hs1];obtain ⟨_,_,_,_,_,g5⟩:=pend_e (to:=P.leadsFrom t.work.ahead t.work.key) h.wm ⟨e,he,by simpa using hu⟩ m5 (h.noPend ht hb hn);exact (g5 x s d).2 hs
      ·intro hq;show UQ (P.prepareRemove t.work).1.es;unfold PSt.prepareRemove;simp only [if_pos h.kind];exact uq_pend hq _ _ _
      ·show (P.prepareRemove t.work).1.es.length = _;unfold PSt.prepareRemove;simp only [if_pos h.kind];rw [pend_eslen]
   ·simp only [hn];obtain ⟨t1,t2⟩:=hT.ts hb (by omega) (by omega);have hu : P.mem.unpend t.work.tsrc t.work.tside = P.mem.unpend t.work.stand false:=by rw [t1,t2]
    unfold PSt.take;rw [hu];split
    ·rcases hk with hk | hk
     ·obtain ⟨n,f1,f2,f3,f4,f5,f6,f7,f8,f9,f10,f11⟩:=hT.f8 hb hk (.inl hn);obtain ⟨u1,u2,u3,u4⟩:=unpend_e h.wm f10;have hnd:=node_ns u1;obtain ⟨_,_,_,_,v5⟩:=free_e (n:=n) u2 (hasN_used (by rw [hnd]; exact f4)) ⟨f2,f3⟩;have hfr : (P.mem.unpend t.work.stand false).frees t.work.made = (P.mem.unpend t.work.stand false).free n:=by rw [f1]; rfl
      rw [hfr];refine ⟨?_,?_,?_⟩
      ·intro x s d hs;show Sd ((P.mem.unpend t.work.stand false).free n) x s d;rw [v5,u4];exact ⟨by rintro rfl; exact (f11 hn).2 s d hs,hs⟩
      ·intro hq;show UQ ((P.mem.unpend t.work.stand false).free n).es;exact uq_free (uq_unpend hq _ _) _
      ·show ((P.mem.unpend t.work.stand false).free n).es.length = _;rw [free_eslen,unpend_eslen]
     ·obtain ⟨p1,p2⟩:=hT.p2 hb hk (by omega) (by omega);obtain ⟨_,_,_,u4⟩:=unpend_e h.wm p1;have hfr : (P.mem.unpend t.work.stand false).frees t.work.made = P.mem.unpend t.work.stand false:=by rw [p2]; rfl
      rw [hfr];exact ⟨fun x s d hs=>(u4 x s d).2 hs,fun hq=>uq_unpend hq _ _,unpend_eslen _ _⟩
    ·rcases hk with hk | hk
     ·rw [if_neg (show ¬ t.work.kind = 2 by omega)];obtain ⟨n,f1,f2,f3,f4,f5,f6,f7,f8,f9,f10,f11⟩:=hT.f8 hb hk (.inl hn);obtain ⟨f12,f13⟩:=f11 hn;obtain ⟨g1,g2,g3,g4⟩:=stamp_e (P.clock + 1) h.wm f12;have hsn : P.mem.stampsNew (P.clock + 1) t.work.made = P.mem.stamp n false (P.clock + 1):=by
       rw [f1];show (P.mem.stampNew n (P.clock + 1)) = _;unfold PMem.stampNew;rw [stamp_no g2]
      rw [hsn];exact ⟨fun x s d hs=>(g4 x s d).2 (.inl hs),fun hq=>uq_stamp h.wm hq (fun s d hs=>absurd hs (f13 s d)),stamp_eslen _ _ _⟩
     ·rw [if_pos hk]; exact EntStep.same rfl
   ·simp only [hn];exact EntStep.same (kills_es _ _)
   ·simp only [hn];exact EntStep.same (lead_es _ _)
   ·simp only [hn];obtain ⟨t1,t2⟩:=hT.ts hb (by omega) (by omega);have p1:=hT.p11 hb hn;obtain ⟨s1,s2,s3,s4⟩:=hT.s9 hb (by omega) (by omega);obtain ⟨g1,g2,g3,g4⟩:=stamp_e t.work.ans.stamp h.wm p1;rw [show P.mem.stamp t.work.tsrc t.work.tside t.work.ans.stamp = P.mem.stamp t.work.stand false t.work.ans.stamp by rw [t1,t2]];exact ⟨fun x s d hs=>(g4 x s d).2 (.inl hs),fun hq=>uq_stamp h.wm hq (fun s d hs=>by have:=s4 s d hs; omega),stamp_eslen _ _ _⟩
   ·simp only [hn];unfold PSt.unlock;simp only;split
    ·exact EntStep.same ((retires_es _ _ _).trans rfl)
    ·exact EntStep.same (show (P.mem.unlock i).es = P.mem.es from rfl)
end
end
section
def Fresh10 (x : Int) (t : PThread) : Prop:=t.busy = true/\t.work.kind = 1/\t.work.next = 10/\x ∈ t.work.made
structure InvX (C : Int->Prop) (P : PSt) : Prop where
 pr : ∀ x,C x->x≠0->∃ y,C y/\Ld P.mem y = x
 en : ∀ x,(C x\/Ex P.ts (Fresh10 x))->∃ s d,Sd P.mem x s d
 uq : UQ P.mem.es
 k0 : (P.mem.node 0).key = 0/\(P.mem.node 0).value = 0
section
variable {C C' : Int->Prop} {i j : Nat} {t : PThread} {P : PSt} {L : Nat}
end
end
section
def Nr (c : Int) (M M' : PMem) (x : Int) : Prop:=Ky M' x = Ky M x/\(M'.node x).value = (M.node x).value/\(Us M x->Us M' x)/\(Re M' x->(Re M x/\Ra M' x = Ra M x)\/(Ra M' x = c/\De M x))
section
variable {C C' : Int->Prop} {M M' M2 : PMem} {c : Int} {i j : Nat} {t : PThread} {P : PSt} {x : Int}
theorem Nr.refl (c : Int) (M : PMem) (x : Int) : Nr c M M x:=⟨rfl,rfl,id,fun h=>.inl ⟨h,rfl⟩⟩
theorem nr_node (h : M'.node x = M.node x) : Nr c M M' x:=by
 unfold Nr Ky Us Re Ra;rw [h]; exact ⟨rfl,rfl,id,fun h=>.inl ⟨h,rfl⟩⟩
theorem nr_ns (h : M'.ns = M.ns) (x : Int) : Nr c M M' x:=nr_node (node_ns h x)
theorem nr_modN (M : PMem) (n : Int) (f : PNode->PNode) (hf : ∀ e,(f e).key = e.key/\(f e).value = e.value/\(f e).used = e.used/\(f e).retired = e.retired/\(f e).retiredAt = e.retiredAt) (x : Int) : Nr c M (M.modN n f) x:=by
 by_cases hn : M.hasNode n = true
 ·have:=node_modN hn f x
  by_cases e : x = n
  ·subst e;rw [if_pos rfl] at this;unfold Nr Ky Us Re Ra;rw [this];obtain ⟨h1,h2,h3,h4,h5⟩:=hf (M.node x);rw [h1,h2,h3,h4,h5];exact ⟨rfl,rfl,id,fun h=>.inl ⟨h,rfl⟩⟩
  ·rw [if_neg e] at this; exact nr_node this
 ·have : M.modN n f = M:=by unfold PMem.modN; rw [if_neg hn]
  rw [this]; exact Nr.refl _ _ _
theorem nr_unlock (M : PMem) (t x : Int) : Nr c M (M.unlock t) x:=by
 unfold Nr Ky Us Re Ra;rw [unlock_node];unfold unlocked;split <;> exact ⟨rfl,rfl,id,fun h=>.inl ⟨h,rfl⟩⟩
theorem nr_lead (M : PMem) (n : Int) (s : Bool) (x : Int) : Nr c M (M.lead n s) x:=by
 unfold PMem.lead;split
 ·generalize (M.ent (M.pending n s)).dst = d;exact nr_modN _ _ (fun x=>{ x with leads:=upd x.leads s d }) (fun e=>⟨rfl,rfl,rfl,rfl,rfl⟩) x
 ·exact Nr.refl _ _ _
theorem Inv.keepsR (h : Inv C P) (ht : P.ts[i]? = some t) (hb : t.busy = true) (x : Int) (hux : Us P.mem x) (h8 : ¬ Fresh8 x t) : Nr P.clock P.mem (P.step i t).1.mem x:=by
 have hT:=h.th i t ht;have hnx:=hT.nx hb;have hkd:=hT.kd hb;have hrd:=hT.rd hb;rcases (show t.work.next = 1\/t.work.next = 2\/t.work.next = 3\/t.work.next = 13\/(4<=t.work.next/\t.work.next<=12) by omega) with hn | hn | hn | hn | hn
 ·unfold PSt.step; simp only [hn]; exact Nr.refl _ _ _
 ·unfold PSt.step; simp only [hn]; exact Nr.refl _ _ _
 ·unfold PSt.step; simp only [hn]; exact Nr.refl _ _ _
 ·unfold PSt.step; simp only [hn]; exact Nr.refl _ _ _
 ·rw [step_mid P hn.1 hn.2];by_cases hk : t.work.kind = 3\/t.work.kind = 4
  ·rw [if_pos hk];unfold PSt.read;simp only;split <;> exact Nr.refl _ _ _
  ·rw [if_neg hk];have hk : t.work.kind = 1\/t.work.kind = 2:=by omega
   unfold PSt.update;rcases (show t.work.next = 4\/t.work.next = 5\/t.work.next = 6\/t.work.next = 7\/t.work.next = 8\/t.work.next = 9\/t.work.next = 10\/t.work.next = 11\/t.work.next = 12 by omega) with hn | hn | hn | hn | hn | hn | hn | hn | hn
   ·simp only [hn]; exact Nr.refl _ _ _
   ·simp only [hn];rcases h.lock ht hb hn with ⟨_,q,_⟩ | ⟨_,q⟩
    ·rw [q];show Nr P.clock P.mem (P.mem.modN (lockNext t.work) fun x=>{ x with holder:=(i : Int) }) x;exact nr_modN _ _ (fun x=>{ x with holder:=(i : Int) }) (fun e=>⟨rfl,rfl,rfl,rfl,rfl⟩) x
    ·rw [q]; exact Nr.refl _ _ _
   ·simp only [hn];unfold PSt.check;split
    ·show Nr P.clock P.mem (P.mem.unlock i) x;exact nr_unlock _ _ _
    ·split <;> (show Nr P.clock P.mem P.mem x; exact Nr.refl _ _ _)
   ·simp only [hn];unfold PSt.prepare;split
    ·exact Nr.refl _ _ _
    ·next hroom =>
     rcases hk with hk | hk
     ·have hne : P.needs t.work.kind = (1,2):=by unfold PSt.needs; rw [hk,if_neg (by decide),if_neg (by rw [h.kind]; decide)]
      rw [hne] at hroom;simp only [hk,if_true];obtain ⟨n,M1,q1,q2,_,q4,_⟩:=h.grown ht hb hn (by simp only at hroom; omega) (by simp only at hroom; omega);rw [q2];refine nr_node ?_;show M1.node x = _;rw [q4,if_neg (show ¬ x = n from fun e=>q1 (e ▸ hux))]
     ·simp only [hk,show ¬ ((2 : Int) = 1) by decide,if_false];refine nr_ns ?_ x;show (P.prepareRemove t.work).1.ns = _;unfold PSt.prepareRemove;simp only [if_pos h.kind];exact pend_ns _ _ _ _
   ·simp only [hn];unfold PSt.take;split
    ·rcases hk with hk | hk
     ·obtain ⟨n,f1,f2,f3,f4,f5,f6,f7,f8,f9,f10,f11⟩:=hT.f8 hb hk (.inl hn);obtain ⟨t1,t2⟩:=hT.ts hb (by omega) (by omega);obtain ⟨u1,u2,u3,u4⟩:=unpend_e h.wm f10;have hnd:=node_ns u1;obtain ⟨_,_,v3,_,_⟩:=free_e (n:=n) u2 (hasN_used (by rw [hnd]; exact f4)) ⟨f2,f3⟩;refine nr_node ?_;show ((P.mem.unpend t.work.tsrc t.work.tside).frees t.work.made).node x = _;rw [t1,t2,f1];show ((P.mem.unpend t.work.stand false).free n).node x = _;rw [v3,if_neg,hnd];rintro rfl;exact h8 ⟨hb,hk,hn,by rw [f1]; simp⟩
     ·refine nr_ns ?_ x;show ((P.mem.unpend t.work.tsrc t.work.tside).frees t.work.made).ns = _;rw [(hT.p2 hb hk (by omega) (by omega)).2];exact unpend_ns _ _ _
    ·split
     ·exact Nr.refl _ _ _
     ·exact nr_ns (stampsNew_ns _ _ _) x
   ·simp only [hn];have hto : P.mem.kills (P.takenOut t.work) = P.mem.modN t.work.ahead fun x=>{ x with dead:=true }:=by
     unfold PSt.takenOut;rw [if_neg (by rw [h.kind]; decide)]; rfl
    rw [hto];show Nr P.clock P.mem (P.mem.modN t.work.ahead fun x=>{ x with dead:=true }) x;exact nr_modN _ _ (fun x=>{ x with dead:=true }) (fun e=>⟨rfl,rfl,rfl,rfl,rfl⟩) x
   ·simp only [hn];show Nr P.clock P.mem (P.mem.lead t.work.tsrc t.work.tside) x;exact nr_lead _ _ _ _
   ·simp only [hn];show Nr P.clock P.mem (P.mem.stamp t.work.tsrc t.work.tside t.work.ans.stamp) x;exact nr_ns (stamp_ns _ _ _ _) x
   ·simp only [hn];unfold PSt.unlock;simp only;split
    ·next hd =>
     have hre : (P.mem.unlock i).retires P.clock (P.takenOut t.work) = (P.mem.unlock i).modN t.work.ahead fun x=>{ x with retired:=true,retiredAt:=P.clock }:=by
      unfold PSt.takenOut;rw [if_neg (by rw [h.kind]; decide)]; rfl
     rw [hre];show Nr P.clock P.mem ((P.mem.unlock i).modN t.work.ahead fun x=>{ x with retired:=true,retiredAt:=P.clock }) x;obtain ⟨o1,o2,o3,o4,o5,o6⟩:=hT.ot ⟨hb,hd.1,.inr ⟨hn,hd.2⟩,rfl⟩;have hua : Us (P.mem.unlock i) t.work.ahead:=by simp only [Us]; rw [((unlock_hold P.mem i).to _).1]; exact (h.n.md _ o3).1
     have g2:=node_modN (hasN_used hua) (fun x=>{ x with retired:=true,retiredAt:=P.clock }) x;by_cases e : x = t.work.ahead
     ·subst e;rw [if_pos rfl] at g2;obtain ⟨z1,z2,z3,_⟩:=nr_unlock (c:=P.clock) P.mem i t.work.ahead;unfold Nr Ky Us Re Ra;rw [g2];exact ⟨z1,z2,z3,fun _=>.inr ⟨rfl,o3⟩⟩
     ·rw [if_neg e] at g2;obtain ⟨z1,z2,z3,z4⟩:=nr_unlock (c:=P.clock) P.mem i x;unfold Nr Ky Us Re Ra at *;rw [g2];exact ⟨z1,z2,z3,z4⟩
    ·show Nr P.clock P.mem (P.mem.unlock i) x;exact nr_unlock _ _ _
def VE (M : PMem) (ts : List PThread) (x s d : Int) : Prop:=Sd M x s d\/(Ex ts (Vs x s)/\Pd M x = [d])
structure Ver (M : PMem) (ts : List PThread) (R : List (Int × Int)) (V : Int->Prop) (T : Int) : Prop where
 a : ∀ p,p ∈ R ↔ ∃ x,V x/\p = (Ky M x,(M.node x).value)
 b : ∀ x y,V x->V y->Ky M x = Ky M y->x = y
 d : ∀ x,V x->Us M x/\x≠0/\x≠1/\(Re M x->T < Ra M x)
 g : ∀ x,(x = 0\/V x)->∃ s y,VE M ts x s y/\s<=T/\(∀ s' d',VE M ts x s' d'->s'<=T->s' < s\/(s' = s/\d' = y))/\(y = 1\/V y)/\Lt M x y/\(∀ p ∈ R,(x = 0\/Ky M x < p.1)->y≠1/\Ky M y<=p.1)
 srt : R.Pairwise (fun p q=>p.1 < q.1)
variable {ts ts' : List PThread} {R : List (Int × Int)} {V : Int->Prop} {T : Int}
theorem Ver.mono (h : Ver M ts R V T) (hk : ∀ x,x = 0\/x = 1\/V x->Ky M' x = Ky M x) (hv : ∀ x,V x->(M'.node x).value = (M.node x).value/\Us M' x/\(Re M' x->T < Ra M' x))
  (hto : ∀ x s d,(x = 0\/V x)->VE M ts x s d->s<=T->(∀ s' d',VE M ts x s' d'->s'<=T->s'<=s)->VE M' ts' x s d) (hfr : ∀ x s d,(x = 0\/V x)->VE M' ts' x s d->s<=T->VE M ts x s d) : Ver M' ts' R V T:=by
 obtain ⟨a,b,d,g,srt⟩:=h;have kv : ∀ x,V x->Ky M' x = Ky M x:=fun x hx=>hk x (.inr (.inr hx))
 refine ⟨?_,?_,?_,?_,srt⟩
 ·intro p;rw [a];constructor
  ·rintro ⟨x,hx,e⟩; exact ⟨x,hx,by rw [kv x hx,(hv x hx).1]; exact e⟩
  ·rintro ⟨x,hx,e⟩; exact ⟨x,hx,by rw [kv x hx,(hv x hx).1] at e; exact e⟩
 ·intro x y hx hy e;rw [kv x hx,kv y hy] at e;exact b x y hx hy e
 ·intro x hx;obtain ⟨_,q2,q3,_⟩:=d x hx;exact ⟨(hv x hx).2.1,q2,q3,(hv x hx).2.2⟩
 ·intro x hx;obtain ⟨s,y,q1,q2,q3,q4,q5,q6⟩:=g x hx;have hkx : Ky M' x = Ky M x:=by rcases hx with e | e; exact hk x (.inl e); exact kv x e
  have hky : Ky M' y = Ky M y:=by rcases q4 with e | e; exact hk y (.inr (.inl e)); exact kv y e
  refine ⟨s,y,hto x s y hx q1 q2 (fun s' d' h1 h2=>by rcases q3 s' d' h1 h2 with z | z <;> omega),q2,fun s' d' h1 h2=>q3 s' d' (hfr x s' d' hx h1 h2) h2,q4,?_,?_⟩
  ·unfold Lt; rw [hkx,hky]; exact q5
  ·intro p hp h0;rw [hkx] at h0;rw [hky]; exact q6 p hp h0
end
end
section
section
variable {C C' : Int->Prop} {M M' : PMem} {i j : Nat} {t t' : PThread} {ts : List PThread} {P : PSt} {x s d : Int}
theorem vs_iff (ht : ts[i]? = some t) (h : ∀ x s,Vs x s t' ↔ Vs x s t) (x s : Int) : Ex (ts.set i t') (Vs x s) ↔ Ex ts (Vs x s):=by
 have hi:=(List.getElem?_eq_some_iff.1 ht).1;constructor
 ·rintro ⟨j,u,hj,hu⟩;rw [List.getElem?_set] at hj;by_cases e : i = j
  ·subst e; simp [hi] at hj; subst hj; exact ⟨i,t,ht,(h x s).1 hu⟩
  ·rw [if_neg e] at hj; exact ⟨j,u,hj,hu⟩
 ·intro hx; exact hx.set ht (h x s).2
theorem ve_same (ht : ts[i]? = some t) (he : M'.es = M.es) (h : ∀ x s,Vs x s t' ↔ Vs x s t) (x s d : Int) : VE M' (ts.set i t') x s d ↔ VE M ts x s d:=by
 unfold VE;rw [sd_es he,vs_iff ht h,pd_es he]
structure VeStep (P P' : PSt) : Prop where
 to : ∀ x s d,VE P.mem P.ts x s d->VE P'.mem P'.ts x s d
 fr : ∀ x s d,VE P'.mem P'.ts x s d->VE P.mem P.ts x s d\/s = P.clock + 1
theorem VeStep.same {P P' : PSt} (h : ∀ x s d,VE P'.mem P'.ts x s d ↔ VE P.mem P.ts x s d) : VeStep P P':=⟨fun x s d=>(h x s d).2,fun x s d hv=>.inl ((h x s d).1 hv)⟩
theorem no_vs (h : t.busy = true->t.work.next<=8\/12<=t.work.next\/(t.work.kind≠1/\t.work.kind≠2)) (x s : Int) : ¬ Vs x s t:=by
 rintro ⟨b,k,h1,h2,_⟩;rcases h b with q | q | q <;> omega
theorem VeStep.set {P : PSt} {Q : PSt} {k : PWork} (ht : P.ts[i]? = some t) (hQ : Q.ts = P.ts) (he : Q.mem.es = P.mem.es) (h : ∀ x s,Vs x s { t with work:=k } ↔ Vs x s t) : VeStep P (Q.setW i k):=by
 refine VeStep.same ?_;intro x s d;rw [setW_to Q (t:=t) (by rw [hQ]; exact ht) k];show VE Q.mem (Q.ts.set i { t with work:=k }) x s d ↔ _;rw [hQ];exact ve_same ht he h x s d
theorem Inv.veStep (h : Inv C P) (ht : P.ts[i]? = some t) (hb : t.busy = true) : VeStep P (P.step i t).1:=by
 have hT:=h.th i t ht;have hnx:=hT.nx hb;have hkd:=hT.kd hb;have hrd:=hT.rd hb;have none : ∀ (t' : PThread),(t'.busy = true->t'.work.next<=8\/12<=t'.work.next\/(t'.work.kind≠1/\t'.work.kind≠2))->(t.work.next<=8\/12<=t.work.next\/(t.work.kind≠1/\t.work.kind≠2))->∀ x s,Vs x s t' ↔ Vs x s t :=
  fun t' h1 h2 x s=>⟨fun q=>absurd q (no_vs h1 x s),fun q=>absurd q (no_vs (fun _=>h2) x s)⟩
 have setT : ∀ t' : PThread,(∀ x s,Vs x s t' ↔ Vs x s t)->VeStep P (P.setT i t'):=by
  intro t' hh;refine VeStep.same ?_;intro x s d;exact ve_same ht rfl hh x s d
 rcases (show t.work.next = 1\/t.work.next = 2\/t.work.next = 3\/t.work.next = 13\/(4<=t.work.next/\t.work.next<=12) by omega) with hn | hn | hn | hn | hn
 ·unfold PSt.step; simp only [hn];exact setT _ (none _ (fun _=>.inl (by show 2<=8; omega)) (.inl (by omega)))
 ·unfold PSt.step; simp only [hn];exact setT _ (none _ (fun _=>.inl (by show 3<=8; omega)) (.inl (by omega)))
 ·unfold PSt.step; simp only [hn];exact setT _ (none _ (fun _=>.inl (by show 4<=8; omega)) (.inl (by omega)))
 ·unfold PSt.step; simp only [hn];exact setT _ (none _ (fun b=>nomatch b) (.inr (.inl (by omega))))
 ·rw [step_mid P hn.1 hn.2];by_cases hk : t.work.kind = 3\/t.work.kind = 4
  ·rw [if_pos hk];unfold PSt.read;simp only;split
   ·exact VeStep.same (fun _ _ _=>Iff.rfl)
   ·refine VeStep.set ht rfl rfl (none _ (fun _=>.inr (.inr ?_)) (.inr (.inr (by omega))));have hk' : (if t.work.kind = 3 then P.lookUp t.work (P.mem.ledTo (P.linkNext t.work).1 (P.linkNext t.work).2 t.work.time) else P.scan t.work (P.mem.ledTo (P.linkNext t.work).1 (P.linkNext t.work).2 t.work.time)).kind = t.work.kind:=by
     split
     ·unfold PSt.lookUp; split <;> rfl
     ·unfold PSt.scan; simp only; split <;> rfl
    show (if t.work.kind = 3 then _ else _ : PWork).kind≠1/\(if t.work.kind = 3 then _ else _ : PWork).kind≠2;rw [hk']; omega
  ·rw [if_neg hk];have hk : t.work.kind = 1\/t.work.kind = 2:=by omega
   unfold PSt.update;rcases (show t.work.next = 4\/t.work.next = 5\/t.work.next = 6\/t.work.next = 7\/t.work.next = 8\/t.work.next = 9\/t.work.next = 10\/t.work.next = 11\/t.work.next = 12 by omega) with hn | hn | hn | hn | hn | hn | hn | hn | hn
   ·simp only [hn];refine VeStep.set ht rfl rfl (none _ (fun _=>.inl ?_) (.inl (by omega)));show (P.walk t.work).next<=8
    unfold PSt.walk; split
    ·show t.work.next<=8; omega
    ·show 5<=8; omega
   ·simp only [hn];rcases h.lock ht hb hn with ⟨_,q,_⟩ | ⟨_,q⟩
    ·rw [q];refine VeStep.set (Q:=P.setM _) ht rfl (modN_ents _ _ _) (none _ (fun _=>.inl ?_) (.inl (by omega)));simp only; split <;> omega
    ·rw [q]; exact VeStep.same (fun _ _ _=>Iff.rfl)
   ·simp only [hn];unfold PSt.check;split
    ·exact VeStep.set (Q:=P.setM (P.mem.unlock i)) ht rfl rfl (none _ (fun _=>.inl (by show 4<=8; omega)) (.inl (by omega)))
    ·split
     ·exact VeStep.set ht rfl rfl (none _ (fun _=>.inr (.inl (by show 12<=12; omega))) (.inl (by omega)))
     ·exact VeStep.set ht rfl rfl (none _ (fun _=>.inl (by show 7<=8; omega)) (.inl (by omega)))
   ·-- prepare: what is pending is not stamped so far
    simp only [hn];obtain ⟨_,m1,m2,m3,m4,m5,m6⟩:=h.mine ht hb (by omega) (by omega);unfold PSt.prepare;split
    ·exact VeStep.set ht rfl rfl (none _ (fun _=>.inr (.inl (by show 12<=12; omega))) (.inl (by omega)))
    ·next hroom =>
     have key : ∀ (M1 : PMem) (k : PWork) (n : Int),¬ (Us P.mem n/\n≠t.work.stand)->k.next = 8->(∀ x s d,Sd M1 x s d ↔ Sd P.mem x s d)->(∀ x,x≠t.work.stand->x≠n->Pd M1 x = Pd P.mem x)->VeStep P ((P.setM M1).setW i k):=by
      intro M1 k n hnu hk8 hs hp;refine VeStep.same ?_;intro x s d;rw [setMW_to P ht];show VE M1 (P.ts.set i { t with work:=k }) x s d ↔ _;unfold VE;rw [hs,vs_iff ht (none { t with work:=k } (fun _=>.inl (by show k.next<=8; omega)) (.inl (by omega)))];refine or_congr Iff.rfl (and_congr_right fun hv=>?_);obtain ⟨j,u,hj,v1,v2,v3,v4,v5,_⟩:=hv;have hst:=(h.th j u hj).hStand v1 (by omega) (by omega);have hx1 : x≠t.work.stand:=by
       rintro e;rw [v5,e,m3] at hst;have : i = j:=by have:=hst.2; omega
       subst this;rw [ht] at hj; injection hj with hj; subst hj
       omega
      rw [hp x hx1];rintro rfl;rw [v5] at hst;exact hnu ⟨hst.1,hx1⟩
     rcases hk with hk | hk
     ·have hne : P.needs t.work.kind = (1,2):=by unfold PSt.needs; rw [hk,if_neg (by decide),if_neg (by rw [h.kind]; decide)]
      rw [hne] at hroom;simp only [hk,if_true];obtain ⟨n,M1,q1,q2,_,_,q5,q6⟩:=h.grown ht hb hn (by simp only at hroom; omega) (by simp only at hroom; omega);rw [q2];refine key M1 _ n (fun q=>q1 q.1) rfl q6 ?_;intro x h1 h2;rw [q5,if_neg h1,if_neg h2]
     ·have hne : P.needs t.work.kind = (0,1):=by unfold PSt.needs; rw [hk,if_pos rfl]
      rw [hne] at hroom;simp only [hk,show ¬ ((2 : Int) = 1) by decide,if_false];have hs1:=(h.side (.inl m1) t.work.key).1;have hr : 0 < P.mem.room.2:=by simp only at hroom; omega
      obtain ⟨e,he,hu⟩:=count_some (l:=P.mem.es) (p:=fun x=>!x.used) (by unfold PMem.room at hr; simpa using hr);obtain ⟨_,_,_,_,g4,g5⟩:=pend_e (to:=P.leadsFrom t.work.ahead t.work.key) h.wm ⟨e,he,by simpa using hu⟩ m5 (h.noPend ht hb hn);unfold PSt.prepareRemove;simp only [if_pos h.kind];rw [hs1];refine key _ _ t.work.stand (fun q=>q.2 rfl) rfl g5 ?_;intro x h1 _;rw [g4,if_neg h1]
   ·-- take
    simp only [hn];obtain ⟨_,m1,m2,m3,m4,m5,m6⟩:=h.mine ht hb (by omega) (by omega);obtain ⟨t1,t2⟩:=hT.ts hb (by omega) (by omega);have hu : P.mem.unpend t.work.tsrc t.work.tside = P.mem.unpend t.work.stand false:=by rw [t1,t2]
    have oth : ∀ {x s : Int},Ex P.ts (Vs x s)->Us P.mem x/\x≠t.work.stand/\∀ n,Fresh8 n t->x≠n:=by
     rintro x s ⟨j,u,hj,v1,v2,v3,v4,v5,_⟩;have hst:=(h.th j u hj).hStand v1 (by omega) (by omega);rw [v5] at hst;refine ⟨hst.1,?_,?_⟩
     ·rintro rfl;rw [m3] at hst;have : i = j:=by have:=hst.2; omega
      subst this;rw [ht] at hj; injection hj with hj; subst hj
      omega
     ·rintro n hf rfl;exact h.heldFresh hj ht hst.1 hst.2 ⟨hf.1,hf.2.1,.inl hf.2.2.1,hf.2.2.2⟩
    unfold PSt.take;rw [hu];split
    ·have key : ∀ (M1 : PMem),(∀ x s d,Sd M1 x s d ↔ Sd P.mem x s d)->(∀ x,Us P.mem x->x≠t.work.stand->(∀ n,Fresh8 n t->x≠n)->Pd M1 x = Pd P.mem x)->VeStep P ((P.setM M1).setW i (t.work.settle { err:=8 })):=by
      intro M1 hs hp;refine VeStep.same ?_;intro x s d;rw [setMW_to P ht];show VE M1 (P.ts.set i { t with work:=t.work.settle { err:=8 } }) x s d ↔ _;unfold VE;rw [hs,vs_iff ht (none { t with work:=t.work.settle { err:=8 } } (fun _=>.inr (.inl (by show 12<=12; omega))) (.inl (by omega)))];refine or_congr Iff.rfl (and_congr_right fun hv=>?_);obtain ⟨o1,o2,o3⟩:=oth hv;rw [hp x o1 o2 o3]
     rcases hk with hk | hk
     ·obtain ⟨n,f1,f2,f3,f4,f5,f6,f7,f8,f9,f10,f11⟩:=hT.f8 hb hk (.inl hn);obtain ⟨u1,u2,u3,u4⟩:=unpend_e h.wm f10;have hnd:=node_ns u1;obtain ⟨_,_,_,v4,v5⟩:=free_e (n:=n) u2 (hasN_used (by rw [hnd]; exact f4)) ⟨f2,f3⟩;have hfr : (P.mem.unpend t.work.stand false).frees t.work.made = (P.mem.unpend t.work.stand false).free n:=by rw [f1]; rfl
      rw [hfr];refine key _ ?_ ?_
      ·intro x s d;rw [v5,u4];exact ⟨fun q=>q.2,fun q=>⟨by rintro rfl; exact (f11 hn).2 s d q,q⟩⟩
      ·intro x _ h1 h2;rw [v4,if_neg (h2 n ⟨hb,hk,hn,by rw [f1]; simp⟩),u3,if_neg h1]
     ·obtain ⟨p1,p2⟩:=hT.p2 hb hk (by omega) (by omega);obtain ⟨_,_,u3,u4⟩:=unpend_e h.wm p1;have hfr : (P.mem.unpend t.work.stand false).frees t.work.made = P.mem.unpend t.work.stand false:=by rw [p2]; rfl
      rw [hfr];exact key _ u4 (fun x _ h1 _=>by rw [u3,if_neg h1])
    ·have key : ∀ (M1 : PMem) (k : PWork),k.ans.stamp = P.clock + 1->(∀ x s d,Sd P.mem x s d->Sd M1 x s d)->(∀ x s d,Sd M1 x s d->Sd P.mem x s d\/s = P.clock + 1)->(∀ x,Us P.mem x->(∀ n,Fresh8 n t->x≠n)->Pd M1 x = Pd P.mem x)->VeStep P ((({ P with clock:=P.clock + 1 } : PSt).setM M1).setW i k):=by
      intro M1 k hst hs1 hs2 hp;rw [setMW_to { P with clock:=P.clock + 1 } ht];refine ⟨?_,?_⟩
      ·rintro x s d (hv | ⟨hv,hd⟩)
       ·exact .inl (hs1 x s d hv)
       ·obtain ⟨o1,o2,o3⟩:=oth hv;refine .inr ⟨hv.set ht (fun q=>absurd q (no_vs (fun _=>.inl (by omega)) x s)),?_⟩;show Pd M1 x = [d];rw [hp x o1 o3]; exact hd
      ·rintro x s d (hv | ⟨hv,hd⟩)
       ·rcases hs2 x s d hv with q | q
        ·exact .inl (.inl q)
        ·exact .inr q
       ·obtain ⟨j,u,hj,hu⟩:=hv;have hj' : (P.ts.set i { t with work:=k })[j]? = some u:=hj;have hi:=(List.getElem?_eq_some_iff.1 ht).1;rw [List.getElem?_set] at hj';by_cases e : i = j
        ·right;subst e;simp [hi] at hj'; subst hj'
         have:=hu.2.2.2.2.2
         rw [<- this]; exact hst
        ·left;rw [if_neg e] at hj';have hex : Ex P.ts (Vs x s):=⟨j,u,hj',hu⟩;obtain ⟨o1,o2,o3⟩:=oth hex;refine .inr ⟨hex,?_⟩;have hd' : Pd M1 x = [d]:=hd;rw [hp x o1 o3] at hd'; exact hd'
     rcases hk with hk | hk
     ·rw [if_neg (show ¬ t.work.kind = 2 by omega)];obtain ⟨n,f1,f2,f3,f4,f5,f6,f7,f8,f9,f10,f11⟩:=hT.f8 hb hk (.inl hn);obtain ⟨f12,f13⟩:=f11 hn;obtain ⟨g1,g2,g3,g4⟩:=stamp_e (P.clock + 1) h.wm f12;have hsn : P.mem.stampsNew (P.clock + 1) t.work.made = P.mem.stamp n false (P.clock + 1):=by
       rw [f1];show (P.mem.stampNew n (P.clock + 1)) = _;unfold PMem.stampNew;rw [stamp_no g2]
      rw [hsn];refine key _ _ rfl (fun x s d hs=>(g4 x s d).2 (.inl hs)) ?_ ?_
      ·intro x s d hs;rcases (g4 x s d).1 hs with q | q
       ·exact .inl q
       ·exact .inr q.2.1
      ·intro x _ h2;rw [g3,if_neg (h2 n ⟨hb,hk,hn,by rw [f1]; simp⟩)]
     ·rw [if_pos hk];exact key P.mem { t.work with ans:={ did:=true,stamp:=P.clock + 1,value:=(P.mem.node t.work.ahead).value },next:=9 } rfl (fun _ _ _=>id) (fun _ _ _ q=>.inl q) (fun _ _ _=>rfl)
   ·simp only [hn];refine VeStep.set (Q:=P.setM _) ht rfl (kills_es _ _) ?_;intro x s;constructor
    ·rintro ⟨q1,q2,q3,q4,q5⟩; exact ⟨q1,q2,by omega,by omega,q5⟩
    ·rintro ⟨q1,q2,q3,q4,q5⟩; exact ⟨q1,q2,by show 9<=10; omega,by show 10<=11; omega,q5⟩
   ·simp only [hn];refine VeStep.set (Q:=P.setM _) ht rfl (lead_es _ _) ?_;intro x s;constructor
    ·rintro ⟨q1,q2,q3,q4,q5⟩; exact ⟨q1,q2,by omega,by omega,q5⟩
    ·rintro ⟨q1,q2,q3,q4,q5⟩; exact ⟨q1,q2,by show 9<=11; omega,by show 11<=11; omega,q5⟩
   ·-- stamp
    simp only [hn];obtain ⟨_,m1,m2,m3,m4,m5,m6⟩:=h.mine ht hb (by omega) (by omega);obtain ⟨t1,t2⟩:=hT.ts hb (by omega) (by omega);have p1:=hT.p11 hb hn;obtain ⟨g1,g2,g3,g4⟩:=stamp_e t.work.ans.stamp h.wm p1;rw [show P.mem.stamp t.work.tsrc t.work.tside t.work.ans.stamp = P.mem.stamp t.work.stand false t.work.ans.stamp by rw [t1,t2]];rw [setMW_to P ht];have hct : ∀ x s,¬ Vs x s { t with work:={ t.work with next:=12 } }:=no_vs (fun _=>.inr (.inl (by show 12<=12; omega)));have oth : ∀ {x s : Int} {j : Nat} {u : PThread},P.ts[j]? = some u->j≠i->Vs x s u->x≠t.work.stand:=by
     rintro x s j u hj hji ⟨v1,v2,v3,v4,v5,_⟩ rfl;have hst:=(h.th j u hj).hStand v1 (by omega) (by omega);rw [v5,m3] at hst;exact hji (by have:=hst.2; omega)
    refine VeStep.same ?_;intro x s d;show VE (P.mem.stamp t.work.stand false t.work.ans.stamp) (P.ts.set i { t with work:={ t.work with next:=12 } }) x s d ↔ VE P.mem P.ts x s d;constructor
    ·rintro (hv | ⟨⟨j,u,hj,hu⟩,hd⟩)
     ·rcases (g4 x s d).1 hv with q | ⟨rfl,rfl,rfl⟩
      ·exact .inl q
      ·exact .inr ⟨⟨i,t,ht,hb,hk,by omega,by omega,rfl,rfl⟩,p1⟩
     ·have hi:=(List.getElem?_eq_some_iff.1 ht).1;rw [List.getElem?_set] at hj;by_cases e : i = j
      ·subst e; simp [hi] at hj; subst hj; exact absurd hu (hct x s)
      ·rw [if_neg e] at hj;rw [g3,if_neg (oth hj (fun q=>e q.symm) hu)] at hd;exact .inr ⟨⟨j,u,hj,hu⟩,hd⟩
    ·rintro (hv | ⟨⟨j,u,hj,hu⟩,hd⟩)
     ·exact .inl ((g4 x s d).2 (.inl hv))
     ·by_cases e : j = i
      ·subst e;rw [ht] at hj; injection hj with hj; subst hj
       left;have hx : t.work.stand = x:=hu.2.2.2.2.1;have hs : t.work.ans.stamp = s:=hu.2.2.2.2.2;rw [<- hx,p1] at hd;injection hd with hd
       exact (g4 x s d).2 (.inr ⟨hx.symm,hs.symm,hd.symm⟩)
      ·right;refine ⟨Ex.other hj hu e,?_⟩;rw [g3,if_neg (oth hj e hu)]; exact hd
   ·simp only [hn];unfold PSt.unlock;simp only;split
    ·exact VeStep.set (Q:=P.setM _) ht rfl ((retires_es _ _ _).trans rfl) (none _ (fun _=>.inr (.inl (by show 12<=13; omega))) (.inr (.inl (by omega))))
    ·exact VeStep.set (Q:=P.setM (P.mem.unlock i)) ht rfl rfl (none _ (fun _=>.inr (.inl (by show 12<=13; omega))) (.inr (.inl (by omega))))
end
end
section
def Srt (R : List (Int × Int)) : Prop:=R.Pairwise (fun p q=>p.1 < q.1)
theorem mem_shPut {R : List (Int × Int)} {k v : Int} {p : Int × Int} : p ∈ shPut R k v ↔ (p ∈ R/\p.1≠k)\/p = (k,v):=by
 unfold shPut shLo shHi shSide;simp only [List.mem_append,List.mem_filter,List.mem_singleton,if_true,decide_eq_true_eq,Bool.false_eq_true,if_false];constructor
 ·rintro ((⟨h1,h2⟩ | h1) | ⟨h1,h2⟩)
  ·exact .inl ⟨h1,by omega⟩
  ·exact .inr h1
  ·exact .inl ⟨h1,by omega⟩
 ·rintro (⟨h1,h2⟩ | h1)
  ·rcases (show p.1 < k\/k < p.1 by omega) with q | q
   ·exact .inl (.inl ⟨h1,q⟩)
   ·exact .inr ⟨h1,q⟩
  ·exact .inl (.inr h1)
theorem mem_shDel {R : List (Int × Int)} {k : Int} {p : Int × Int} : p ∈ shDel R k ↔ p ∈ R/\p.1≠k:=by
 unfold shDel shLo shHi shSide;simp only [List.mem_append,List.mem_filter,if_true,decide_eq_true_eq,Bool.false_eq_true,if_false];constructor
 ·rintro (⟨h1,h2⟩ | ⟨h1,h2⟩)
  ·exact ⟨h1,by omega⟩
  ·exact ⟨h1,by omega⟩
 ·rintro ⟨h1,h2⟩;rcases (show p.1 < k\/k < p.1 by omega) with q | q
  ·exact .inl ⟨h1,q⟩
  ·exact .inr ⟨h1,q⟩
theorem Srt.put {R : List (Int × Int)} (h : Srt R) (k v : Int) : Srt (shPut R k v):=by
 unfold Srt shPut;rw [List.append_assoc,List.pairwise_append];have hlo : ∀ p ∈ shLo R k,p.1 < k:=by intro p hp; unfold shLo shSide at hp; simp at hp; exact hp.2
 have hhi : ∀ p ∈ shHi R k,k < p.1:=by intro p hp; unfold shHi shSide at hp; simp at hp; exact hp.2
 refine ⟨h.filter _,List.pairwise_append.2 ⟨List.pairwise_singleton _ _,h.filter _,?_⟩,?_⟩
 ·intro p hp q hq;simp at hp; subst hp;exact hhi q hq
 ·intro p hp q hq;have h1:=hlo p hp;rcases List.mem_append.1 hq with hq | hq
  ·simp at hq; subst hq; exact h1
  ·have:=hhi q hq; omega
theorem Srt.del {R : List (Int × Int)} (h : Srt R) (k : Int) : Srt (shDel R k):=by
 unfold Srt shDel;rw [List.pairwise_append];have hlo : ∀ p ∈ shLo R k,p.1 < k:=by intro p hp; unfold shLo shSide at hp; simp at hp; exact hp.2
 have hhi : ∀ p ∈ shHi R k,k < p.1:=by intro p hp; unfold shHi shSide at hp; simp at hp; exact hp.2
 refine ⟨h.filter _,h.filter _,?_⟩;intro p hp q hq;have h1:=hlo p hp;have h2:=hhi q hq;omega
theorem shVal_in {R : List (Int × Int)} (h : Srt R) {k v : Int} (hp : (k,v) ∈ R) : shVal R k = (v,true):=by
 obtain ⟨j,hj⟩:=List.mem_iff_getElem?.1 hp;refine shVal_hit ?_ hj rfl;intro p hp2 e;obtain ⟨i,hi⟩:=List.mem_iff_getElem?.1 hp2;have hlt : i < j:=by
  have:=(List.getElem?_eq_some_iff.1 hi).1
  rw [List.length_take] at this; omega
 rw [List.getElem?_take] at hi;rw [if_pos hlt] at hi;obtain ⟨hi1,hi2⟩:=List.getElem?_eq_some_iff.1 hi;obtain ⟨hj1,hj2⟩:=List.getElem?_eq_some_iff.1 hj
 have:=List.pairwise_iff_getElem.1 h i j hi1 hj1 hlt
 rw [hi2,hj2] at this;simp only at this;omega
theorem shVal_out {R : List (Int × Int)} {k : Int} (h : ∀ p ∈ R,p.1≠k) : shVal R k = (0,false):=shVal_miss h
def Removing (x : Int) (t : PThread) : Prop:=t.busy = true/\t.work.kind = 2/\(t.work.next = 9\/t.work.next = 10)/\t.work.ahead = x
def Rdr (t : PThread) : Prop:=t.busy = true/\(t.work.kind = 3\/t.work.kind = 4)/\3<=t.work.next/\t.work.next<=4
structure InvV (C : Int->Prop) (Rt : Int->List (Int × Int)) (Vt : Int->Int->Prop) (P : PSt) : Prop where
 now : Ver P.mem P.ts (Rt P.clock) (Vt P.clock) P.clock
 set : ∀ x,Vt P.clock x ↔ (C x/\x≠0/\¬ Ex P.ts (Removing x))\/Ex P.ts (Fresh10 x)
 fv : ∀ (i : Nat) t,P.ts[i]? = some t->∀ x,Fresh x t->(P.mem.node x).value = t.work.value
 rd : ∀ (i : Nat) t,P.ts[i]? = some t->Rdr t->Ver P.mem P.ts (Rt t.work.time) (Vt t.work.time) t.work.time
section
variable {C : Int->Prop} {Rt : Int->List (Int × Int)} {Vt : Int->Int->Prop} {i j : Nat} {t t' : PThread} {P : PSt} {x s d : Int}
theorem Inv.ve_le (h : Inv C P) (hv : VE P.mem P.ts x s d) : 0<=s/\s<=P.clock:=by
 rcases hv with hv | ⟨⟨j,u,hj,v1,v2,v3,v4,v5,v6⟩,_⟩
 ·have:=h.e.ms x s d hv; exact ⟨this.2.2.1,this.2.2.2.1⟩
 ·have:=(h.th j u hj).s9 v1 v3 v4
  rw [v6] at this;exact this.2.2.1
theorem Inv.top (h : Inv C P) (ht : P.ts[i]? = some t) (hh : Ho P.mem x = i) (hn : ∀ s,¬ Vs x s t) {y : Int} (hv : VE P.mem P.ts x s y) (hg : ∀ s' d',VE P.mem P.ts x s' d'->s'<=P.clock->s' < s\/(s' = s/\d' = y)) : y = Ld P.mem x:=by
 have nov : ∀ s,¬ Ex P.ts (Vs x s):=by
  rintro s ⟨j,u,hj,hv⟩;have hst:=(h.th j u hj).hStand hv.1 (by have:=hv.2.2.1; omega) (by have:=hv.2.2.2.1; omega);rw [hv.2.2.2.2.1,hh] at hst;have : i = j:=by have:=hst.2; omega
  subst this;rw [ht] at hj; injection hj with hj; subst hj
  exact hn s hv
 rcases hv with hv | ⟨hv,_⟩
 ·rcases h.e.nw x s y hv with q | ⟨s',q1,q2⟩
  ·exact q
  ·exfalso;rcases q2 with ⟨d',q2⟩ | q2
   ·have hle:=(h.e.ms x s' d' q2).2.2.2.1;rcases hg s' d' (.inl q2) hle with z | z <;> omega
   ·exact nov s' q2
 ·exact absurd hv (nov s)
theorem InvV.succ (hV : InvV C Rt Vt P) (h : Inv C P) (ht : P.ts[i]? = some t) (hh : Ho P.mem x = i) (hC : C x) (hn : t.work.next<=8) : (x = 0\/Vt P.clock x)/\(Ld P.mem x = 1\/Vt P.clock (Ld P.mem x))/\∀ p ∈ Rt P.clock,(x = 0\/Ky P.mem x < p.1)->Ld P.mem x≠1/\Ky P.mem (Ld P.mem x)<=p.1:=by
 have hx : x = 0\/Vt P.clock x:=by
  by_cases h0 : x = 0
  ·exact .inl h0
  ·right;rw [hV.set];left;refine ⟨hC,h0,?_⟩;rintro ⟨j,u,hj,r1,r2,r3,r4⟩;have hU:=h.th j u hj;have hA:=hU.hAhead r1 (by omega) (by omega) r2 ((hU.c7 r1 (by omega) (by omega)).2.2.2 r2);rw [r4,hh] at hA;have : i = j:=by have:=hA.2; omega
   subst this;rw [ht] at hj; injection hj with hj; subst hj
   omega
 obtain ⟨s,y,g1,g2,g3,g4,g5,g6⟩:=hV.now.g x hx;have hy:=h.top ht hh (fun s q=>by have:=q.2.2.1; omega) g1 g3;rw [<- hy];exact ⟨hx,g4,g6⟩
theorem InvV.found (hV : InvV C Rt Vt P) (h : Inv C P) (ht : P.ts[i]? = some t) (hb : t.busy = true) (h6 : 6<=t.work.next) (h8 : t.work.next<=8) (hC : C t.work.stand) (hl : Ld P.mem t.work.stand = t.work.ahead) :
  (Ky P.mem t.work.ahead = t.work.key->Vt P.clock t.work.ahead/\(t.work.key,(P.mem.node t.work.ahead).value) ∈ Rt P.clock/\shVal (Rt P.clock) t.work.key = ((P.mem.node t.work.ahead).value,true))/\(Ky P.mem t.work.ahead≠t.work.key->(∀ p ∈ Rt P.clock,p.1≠t.work.key)/\shVal (Rt P.clock) t.work.key = (0,false)):=by
 have hT:=h.th i t ht;have hkd:=hT.kd hb;have hrd:=hT.rd hb;have hst:=hT.hStand hb (by omega) (by omega);obtain ⟨s1,s2,s3⟩:=hV.succ h ht hst.2 hC h8;rw [hl] at s2 s3;have hxs:=(hT.xs hb (by omega) (by omega) (by omega)).2.2;have hcs:=hT.cs hb (by omega) (by omega);have hky:=hT.ky hb (by omega);constructor
 ·intro e;have h1 : t.work.ahead≠1:=by
   intro e1;rw [e1,h.n.a1.2.2.2.2.2] at e; omega
  have hv:=s2.resolve_left h1;have hm : (t.work.key,(P.mem.node t.work.ahead).value) ∈ Rt P.clock:=(hV.now.a _).2 ⟨_,hv,by rw [e]⟩;exact ⟨hv,hm,shVal_in hV.now.srt hm⟩
 ·intro e;have : ∀ p ∈ Rt P.clock,p.1≠t.work.key:=by
   intro p hp e2
   have:=s3 p hp (by rcases hxs with q | q; exact .inl q; right; omega)
   omega
  exact ⟨this,shVal_out this⟩
end
end
end Go.Proofs.YtfccelbmacjifabGreat
