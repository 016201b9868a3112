import Derived.Test.YtfccelbmacjifabGreatP0
import Derived.Test.YtfccelbmacjifabGreatP29
set_option linter.unusedSimpArgs false
set_option maxRecDepth 100000
set_option maxHeartbeats 4000000
namespace Go.Proofs.YtfccelbmacjifabGreat
section
namespace T
def Tr.links (t : Tr) : List (Int × Bool):=(0,false) :: t.is.flatMap (fun x=>[(x,false),(x,true)])
theorem Tr.links_len (t : Tr) : t.links.length = 1 + 2 * t.is.length:=by
 unfold Tr.links;have : ∀ l : List Int,(l.flatMap (fun x=>[(x,false),(x,true)])).length = 2 * l.length:=by
  intro l
  induction l with
  | nil=>rfl
  | cons a l ih=>simp only [List.flatMap_cons,List.length_append,List.length_cons,List.length_nil,ih]; omega
 simp only [List.length_cons,this]; omega
theorem Tr.mem_links {t : Tr} {x : Int} {s : Bool} : (x,s) ∈ t.links ↔ (x = 0/\s = false)\/t.Inn x:=by
 unfold Tr.links;simp only [List.mem_cons,Prod.mk.injEq,List.mem_flatMap,List.not_mem_nil,or_false];refine or_congr Iff.rfl ?_;rw [<- Tr.mem_is];constructor
 ·rintro ⟨a,ha,⟨rfl,_⟩ | ⟨rfl,_⟩⟩ <;> exact ha
 ·intro h; exact ⟨x,h,by cases s <;> simp⟩
theorem Tr.links_nodup {t : Tr} (hd : t.Dj) (hz : ¬ t.Has 0) : t.links.Nodup:=by
 unfold Tr.links;rw [List.nodup_cons];constructor
 ·rw [List.mem_flatMap];rintro ⟨a,ha,he⟩;simp at he;exact hz (Tr.inn_has (Tr.mem_is.1 (he.symm ▸ ha)))
 ·have : ∀ l : List Int,l.Nodup->(l.flatMap (fun x=>[(x,false),(x,true)])).Nodup:=by
   intro l
   induction l with
   | nil=>intro _; exact List.nodup_nil
   | cons a l ih =>
    intro hn;obtain ⟨h1,h2⟩:=List.nodup_cons.1 hn;simp only [List.flatMap_cons];refine List.nodup_append.2 ⟨by simp,ih h2,?_⟩;intro p hp q hq e;subst e;obtain ⟨b,hb,hpb⟩:=List.mem_flatMap.1 hq;simp at hp hpb;have : a = b:=by
     rcases hp with rfl | rfl <;> rcases hpb with e | e <;> simp at e <;> exact e
    subst this; exact h1 hb
  exact this _ (Tr.is_nodup hd)
theorem nodup_one {l : List Int} (h : l.Nodup) (he : ∀ a ∈ l,∀ b ∈ l,a = b) : l.length<=1:=by
 match l,h with
 | [],_=>simp
 | [_],_=>simp
 | a :: b :: r,h =>
  obtain ⟨h1,_⟩:=List.nodup_cons.1 h;exact absurd (he a (by simp) b (by simp)) (fun e=>h1 (by simp [e]))
section
variable {g g' : Gh} {T : Int} {i j : Nat} {t t' u : PThread} {P P' : PSt} {key : Int}
theorem Idle.pd (h : Inv g P) (hi : Idle P) (x : Int) (s : Bool) : Pd P.mem x s = []:=by
 cases hp : Pd P.mem x s with
 | nil=>rfl
 | cons d l =>
  exfalso;refine hi.ex ?_ (h.e.pd x s d (by rw [hp]; simp));rintro t (q | q)
  ·exact q.1
  ·exact q.1
theorem All.sweeps (h : All g P) : ∀ j,∃ g',All g' (P.swIter j)/\g'.V = g.V
 | 0=>⟨g,h,rfl⟩
 | j + 1=>by
  obtain ⟨g',h1,h2⟩:=All.sweeps h j;exact ⟨sweepG g' (P.swIter j),h1.sweep,by rw [sweepG_V]; exact h2⟩
theorem All.sweptRoom (h : All g P) (hu : UQ P.mem) (hi : Idle P) {M2 : PMem} (hM : M2 = (P.mem.drop P.clock).freesIf false 0 (retiredFrom P.mem.ns 0)) (hA : ∃ g' : Gh,Ver M2 P.ts (g'.V P.clock) P.clock/\g'.V = g.V) :
  M2.room.1 = P.mem.ns.length - (2 + 2 * (Rt g P.clock).length)/\M2.room.2 = P.mem.es.length - (1 + 2 * (Rt g P.clock).length)/\M2.ns.length = P.mem.ns.length/\M2.es.length = P.mem.es.length:=by
 have hI:=h.i;obtain ⟨d1,d2,d3,d4⟩:=drop_ok hI.wm P.clock;have hnd:=node_ns d1;have hus:=uq_drop hu P.clock;have hel : (P.mem.drop P.clock).es.length = P.mem.es.length:=(dropK P.clock P.mem.es P.mem.es.length).len;obtain ⟨M1,hM1⟩ : ∃ M1,M1 = P.mem.drop P.clock:=⟨_,rfl⟩;rw [<- hM1] at d1 d2 d3 d4 hnd hus hM hel;have hin:=inSw_new P.mem { PSweep.zero with retired:=retiredFrom P.mem.ns 0 } rfl;have hin' : ∀ x,(∃ n ∈ retiredFrom P.mem.ns 0,((n : Nat) : Int) = x) ↔ Re P.mem x:=hin;have reO : ∀ x,Re P.mem x->g.O x:=fun x hx=>hI.n.od x (hI.n.re x hx).1
 obtain ⟨f1,f2,f3⟩:=freesIf_ok false 0 (retiredFrom P.mem.ns 0) M1 d2 (by
  intro n hn;have hr:=(hin' (n : Int)).1 ⟨n,hn,rfl⟩
  have:=hI.n.ou _ (reO _ hr)
  refine ⟨hasN_used (by rw [hnd]; exact this.1),this.2.2.1,fun e=>this.2.1 (e ▸ Tr.lea_has hI.n.gt.one)⟩)
 have hus2:=uq_freesIf false 0 (retiredFrom P.mem.ns 0) hus;have hel2 : (M1.freesIf false 0 (retiredFrom P.mem.ns 0)).es.length = M1.es.length:=by
  have : ∀ (l : List Nat) (M : PMem),(M.freesIf false 0 l).es.length = M.es.length:=by
   intro l
   induction l with
   | nil=>intro M; rfl
   | cons n l ih =>
    intro M;unfold PMem.freesIf;rw [ih];split
    ·unfold PMem.free; split <;> simp
    ·rfl
  exact this _ _
 rw [<- hM] at f1 f2 f3 hus2 hel2;have gone : ∀ x,Gone M1 false 0 (retiredFrom P.mem.ns 0) x ↔ Re P.mem x:=by
  intro x;unfold Gone;rw [hin'];exact ⟨fun e=>e.1,fun e=>⟨e,fun e=>nomatch e⟩⟩
 have outRe : ∀ x,g.O x->Re P.mem x:=by
  intro x hO;rcases hI.n.ot x hO with e | e
  ·rcases hI.n.ro x e with e | e
   ·exact e
   ·exact absurd e (hi.ex (fun t h=>h.1))
  ·exact absurd e (hi.ex (fun t h=>h.1))
 have inRe : ∀ x,x = 0\/(g.V P.clock).Has x->¬ Re P.mem x:=by
  intro x hx hr;rcases hx with rfl | hx
  ·have:=hI.n.n0.2.2.2; simp only [Re] at hr; rw [this] at hr; cases hr
  ·have:=(hI.n.tn x hx).2; simp only [Re] at hr; rw [this] at hr; cases hr
 have us2 : ∀ x,Us M2 x ↔ x ∈ 0 :: (g.V P.clock).ns:=by
  intro x;rw [List.mem_cons,Tr.mem_ns];constructor
  ·intro hx;have hng : ¬ Re P.mem x:=by
    intro hr
    have:=((f3 x).1 ((gone x).2 hr)).1
    simp only [Us] at hx; rw [this] at hx; cases hx
   have hnode:=((f3 x).2 (fun e=>hng ((gone x).1 e))).1;simp only [Us] at hx; rw [hnode,hnd] at hx;rcases hI.n.us x hx with e | e | e | e
   ·exact .inl e
   ·exact .inr e
   ·exact absurd (outRe x e) hng
   ·exact absurd e (hi.ex (fun t h=>h.1))
  ·intro hx;have hng:=inRe x hx;have hnode:=((f3 x).2 (fun e=>hng ((gone x).1 e))).1;simp only [Us]; rw [hnode,hnd];rcases hx with rfl | hx
   ·exact hI.n.n0.1
   ·exact (hI.n.inn hx).2.1
 have sd2 : ∀ x s st d,Sd M2 x s st d->¬ Re P.mem x/\Sd M1 x s st d:=by
  intro x s st d hd;by_cases hr : Re P.mem x
  ·exact absurd hd (((f3 x).1 ((gone x).2 hr)).2.2 s st d)
  ·exact ⟨hr,(((f3 x).2 (fun e=>hr ((gone x).1 e))).2.2 s st d).1 hd⟩
 have pd2 : ∀ x s,Pd M2 x s = []:=by
  intro x s;by_cases hr : Re P.mem x
  ·exact ((f3 x).1 ((gone x).2 hr)).2.1 s
  ·rw [((f3 x).2 (fun e=>hr ((gone x).1 e))).2.1 s,d3]; exact Idle.pd hI hi x s
 have hlen:=Rt_len hI.n.gt;have r1:=room1_of (M:=M2) (0 :: (g.V P.clock).ns) (List.nodup_cons.2 ⟨fun e=>hI.n.gt.z (Tr.mem_ns.1 e),Tr.ns_nodup hI.n.gt.dj⟩) us2;have r2:=room2_of (M:=M2) pd2 (g.V P.clock).links (Tr.links_nodup hI.n.gt.dj hI.n.gt.z) ?_ ?_
 ·rw [List.length_cons,Tr.ns_len,Tr.size_is] at r1;rw [Tr.links_len] at r2;rw [r1,r2,f2,hel2,hel,hlen];have : M1.ns.length = P.mem.ns.length:=by rw [d1]
  rw [this];refine ⟨?_,?_,rfl,rfl⟩ <;> omega
 ·intro x s;rw [Tr.mem_links];constructor
  ·intro hne;obtain ⟨st,hst⟩:=List.exists_mem_of_ne_nil _ hne;obtain ⟨d,hd⟩:=mem_SL.1 hst;obtain ⟨q1,q2⟩:=sd2 x s st d hd;have hms:=hI.e.ms x s st d ((d4 x s st d).1 q2).1;rcases hI.n.us x hms.1 with e | e | e | e
   ·left;refine ⟨e,?_⟩;subst e
    have:=hI.n.n0.2.1
    have h4:=hms.2.2.2;simp only [Ln] at this h4; rw [this] at h4;cases s
    ·rfl
    ·simp [b2i] at h4
   ·right
    have:=hI.n.inn e
    rcases this.2.2 with z | z
    ·have h4:=hms.2.2.2;simp only [Ln] at z h4; rw [z] at h4;cases s <;> simp [b2i] at h4
    ·exact this.1.1 z
   ·exact absurd (outRe x e) q1
   ·exact absurd e (hi.ex (fun t h=>h.1))
  ·intro hx e0;obtain ⟨g',hv,hg'⟩:=hA;obtain ⟨d,hd⟩ : ∃ d,A (g'.V P.clock) x s d:=by
    rw [hg'];rcases hx with ⟨rfl,rfl⟩ | hx
    ·exact ⟨_,Tr.ed_pl 0 false _⟩
    ·exact Tr.inn_ed 0 false s hx
   obtain ⟨st,e1,_⟩:=hv.e x s d hd;rcases e1 with e1 | ⟨e1,_⟩
   ·have:=mem_SL.2 ⟨d,e1⟩
    rw [e0] at this; cases this
   ·exact absurd e1 (hi.ex (fun t h=>h.1))
 ·intro x s;refine nodup_one (hus2 x s) ?_;intro a ha b hb;obtain ⟨da,ha⟩:=mem_SL.1 ha;obtain ⟨db,hb⟩:=mem_SL.1 hb;have ha:=(d4 _ _ _ _).1 (sd2 _ _ _ _ ha).2;have hb:=(d4 _ _ _ _).1 (sd2 _ _ _ _ hb).2;have ca:=(hI.e.ms _ _ _ _ ha.1).2.2.1;have cb:=(hI.e.ms _ _ _ _ hb.1).2.2.1;rcases (show a < b\/b < a\/a = b by omega) with e | e | e
  ·exact absurd cb (ha.2 b db hb.1 e)
  ·exact absurd ca (hb.2 a da ha.1 e)
  ·exact e
end
end T
end
section
namespace T
theorem pend_elen (M : PMem) (n : Int) (s : Bool) (to : Int) : (M.pend n s to).es.length = M.es.length:=by unfold PMem.pend; split <;> simp [PMem.setE]
theorem addLink_elen (M : PMem) (n to : Int) : (M.addLink n to).es.length = M.es.length:=by
 unfold PMem.addLink;split
 ·split
  ·rw [pend_elen,modN_ents]
  ·rw [pend_elen,modN_ents]
  ·rfl
 ·rfl
theorem unpend_elen (M : PMem) (n : Int) (s : Bool) : (M.unpend n s).es.length = M.es.length:=by unfold PMem.unpend; split <;> simp [PMem.setE]
theorem stamp_elen (M : PMem) (n : Int) (s : Bool) (st : Int) : (M.stamp n s st).es.length = M.es.length:=by unfold PMem.stamp; split <;> simp [PMem.setE]
theorem free_elen (M : PMem) (n : Int) : (M.free n).es.length = M.es.length:=by unfold PMem.free; split <;> simp
theorem frees_elen : ∀ (l : List Int) (M : PMem),(M.frees l).es.length = M.es.length
 | [],_=>rfl
 | n :: l,M=>by show ((M.free n).frees l).es.length = _; rw [frees_elen l,free_elen]
theorem stampsNew_elen (st : Int) : ∀ (l : List Int) (M : PMem),(M.stampsNew st l).es.length = M.es.length
 | [],_=>rfl
 | n :: l,M=>by
  show ((M.stampNew n st).stampsNew st l).es.length = _;rw [stampsNew_elen st l];unfold PMem.stampNew;rw [stamp_elen,stamp_elen]
section
variable {g g' : Gh} {i j : Nat} {t t' u : PThread} {P P' : PSt}
theorem Inv.elen (h : Inv g P) (ht : P.ts[i]? = some t) (hb : t.busy = true) : (P.step i t).1.mem.es.length = P.mem.es.length/\(P.step i t).1.limit = P.limit/\(P.step i t).1.sweep = P.sweep:=by
 obtain ⟨P',n,hs,ho⟩:=h.out ht hb;rw [hs];cases ho with
 | lock=>exact ⟨by show (P.mem.modN _ _).es.length = _; rw [modN_ents],rfl,rfl⟩
 | prepI hn hk hr1 hr2 a n M1 ep =>
  refine ⟨?_,rfl,rfl⟩;show M1.es.length = _;have : M1 = (P.prepareInsert t.work).1:=by rw [ep]
  rw [this];unfold PSt.prepareInsert;simp only;split
  ·show ((((P.mem.make _ _).1.addLink _ _).pend _ _ _)).es.length = _;rw [pend_elen,addLink_elen,make_es]
  ·show ((((P.mem.make _ _).1.join _ _).1.pend _ _ _)).es.length = _;rw [pend_elen];unfold PMem.join;simp only;rw [addLink_elen,addLink_elen,make_es,make_es]
 | prepR hn hk hr M1 em=>exact ⟨by show M1.es.length = _; rw [em,pend_elen],rfl,rfl⟩
 | late hn hk hl M1 em=>exact ⟨by show M1.es.length = _; rw [em,frees_elen,unpend_elen],rfl,rfl⟩
 | takeI hn hk hl a n q M1 em=>exact ⟨by show M1.es.length = _; rw [em,stampsNew_elen],rfl,rfl⟩
 | kill hn hk M1 em es=>exact ⟨by show M1.es.length = _; rw [es],rfl,rfl⟩
 | link hn hk M1 em es=>exact ⟨by show M1.es.length = _; rw [es],rfl,rfl⟩
 | stamp hn hk d0 hp M1 em=>exact ⟨by show M1.es.length = _; rw [em,stamp_elen],rfl,rfl⟩
 | unlock hn hk M1 em es=>exact ⟨by show M1.es.length = _; rw [es],rfl,rfl⟩
 | _=>exact ⟨rfl,rfl,rfl⟩
def Solo (P : PSt) (i : Nat) : Prop:=∀ (j : Nat) u,P.ts[j]? = some u->j≠i->u.busy = false
theorem iter_succ (ht : P.ts[i]? = some t) : ∀ j,P.iter i (j + 1) = (P.step i t).1.iter i j:=by
 have hth : P.th i = t:=by unfold PSt.th; rw [ht]; rfl
 intro j
 induction j with
 | zero=>show (P.step i (P.th i)).1 = _; rw [hth]; rfl
 | succ j ih =>
  show ((P.iter i (j + 1)).step i ((P.iter i (j + 1)).th i)).1 = (((P.step i t).1.iter i j).step i (((P.step i t).1.iter i j).th i)).1;rw [ih]
theorem how_zero (ht : P.ts[i]? = some t) : P.how i 0 = (P.step i t).2:=by
 have hth : P.th i = t:=by unfold PSt.th; rw [ht]; rfl
 show (P.step i (P.th i)).2 = _;rw [hth]
theorem how_succ (ht : P.ts[i]? = some t) (j : Nat) : P.how i (j + 1) = (P.step i t).1.how i j:=by
 unfold PSt.how;rw [iter_succ ht]
theorem Inv.outs (h : Inv g P) (ht : P.ts[i]? = some t) (hb : t.busy = true) : ((P.step i t).2 = 1/\∃ t',(P.step i t).1.ts = P.ts.set i t'/\t'.busy = true/\t.work.next≠13)\/(P.step i t).2 = 2\/((P.step i t).2 = 3/\t.work.next = 13/\(P.step i t).1 = { P with ts:=P.ts.set i t.leave }):=by
 obtain ⟨P',n,hs,ho⟩:=h.out ht hb;rw [hs];cases ho with
 | leave hn=>exact .inr (.inr ⟨rfl,hn,rfl⟩)
 | rwait=>exact .inr (.inl rfl)
 | lwait=>exact .inr (.inl rfl)
 | _=>exact .inl ⟨rfl,_,rfl,hb,by omega⟩
theorem solo_end {L : Nat} (Z : PSt->Prop) (hZ : ∀ (Q : PSt) (t : PThread),Z Q->Q.ts[i]? = some t->t.busy = true->(Q.step i t).2 = 1->Z (Q.step i t).1) :
  ∀ (n : Nat) (P : PSt) (g : Gh) (t : PThread),All g P->Solo P i->P.ts[i]? = some t->t.busy = true->P.mem.ns.length = L->phi L g P.mem P.clock P.ts 0 t<=n->Z P ->
   ∃ m,m + 1<=n/\(∀ j,j < m->P.how i j = 1)/\P.how i m = 3/\Z (P.iter i m)/\∃ g' t',All g' (P.iter i m)/\Solo (P.iter i m) i/\(P.iter i m).ts[i]? = some t'/\t'.busy = true/\t'.work.next = 13:=by
 intro n
 induction n with
 | zero =>
  intro P g t hA hS ht hb hl hp _;exfalso;have hmv : (P.step i t).2≠2:=by
   obtain ⟨j,u,h1,h2,h3,_⟩:=hA.i.live ht hb;by_cases e : j = i
   ·subst e; rw [ht] at h1; injection h1 with h1; subst h1; exact h3
   ·rw [hS j u h1 e] at h2; cases h2
  obtain ⟨t',_,e2⟩:=hA.i.near (n:=0) (n':=0) hA.v hA.r hl ht hb hmv (Nat.le_refl _);omega
 | succ n ih =>
  intro P g t hA hS ht hb hl hp hz;have hi:=(List.getElem?_eq_some_iff.1 ht).1;have hmv : (P.step i t).2≠2:=by
   obtain ⟨j,u,h1,h2,h3,_⟩:=hA.i.live ht hb;by_cases e : j = i
   ·subst e; rw [ht] at h1; injection h1 with h1; subst h1; exact h3
   ·rw [hS j u h1 e] at h2; cases h2
  rcases hA.i.outs ht hb with ⟨o1,t1,o2,o3,_⟩ | o | ⟨o1,o2,_⟩
  ·obtain ⟨t',e1,e2⟩:=hA.i.near (n:=0) (n':=0) hA.v hA.r hl ht hb hmv (Nat.le_refl _);have et : t1 = t':=by
    have : (P.ts.set i t1)[i]? = (P.ts.set i t')[i]?:=by rw [<- o2,e1]
    simp [hi] at this; exact this
   subst et;have hts1 : (P.step i t).1.ts[i]? = some t1:=by rw [o2]; simp [hi]
   obtain ⟨m,m1,m2,m3,m4,m5⟩:=ih (P.step i t).1 (nextG g P i t) t1 (hA.step ht hb) (by
    intro j u hj hne;rw [o2,List.getElem?_set_ne (Ne.symm hne)] at hj;exact hS j u hj hne) hts1 o3 (by rw [step_len]; exact hl) (by omega) (hZ P t hz ht hb o1)
   refine ⟨m + 1,by omega,?_,by rw [how_succ ht]; exact m3,by rw [iter_succ ht]; exact m4,by rw [iter_succ ht]; exact m5⟩;intro j hj;cases j with
   | zero=>rw [how_zero ht]; exact o1
   | succ j=>rw [how_succ ht]; exact m2 j (by omega)
  ·exact absurd o hmv
  ·exact ⟨0,by omega,by omega,by rw [how_zero ht]; exact o1,hz,g,t,hA,hS,ht,hb,o2⟩
end
end T
end
section
namespace T
structure Dn (L n e c : Int) (ps : List (Int × Int)) (kd ky va : Int) (g : Gh) (Q : PSt) (a : BAns) : Prop where
 u : shUpd ps kd ky = true
 en : spendN 1 kd<=n/\spendE 1 kd<=e/\c < L
 rm : Q.mem.room.1 = n - spendN 1 kd/\Q.mem.room.2 = e - spendE 1 kd
 ck : Q.clock = c + 1
 rt : Rt g (c + 1) = shNew ps kd ky va
 an : a = { did:=true,stamp:=c + 1,value:=if kd = 2 then (shVal ps ky).1 else 0 }
structure Nd (L n e c : Int) (ps : List (Int × Int)) (kd ky : Int) (g : Gh) (Q : PSt) (a : BAns) : Prop where
 d : doneOf 1 L n e c ps kd ky = false
 rm : Q.mem.room.1 = n/\Q.mem.room.2 = e
 ck : Q.clock = c
 rt : Rt g c = ps
 an : a = wantOf 1 L n e c ps kd ky []
structure Ph (L n e c : Int) (ps : List (Int × Int)) (kd ky va : Int) (g : Gh) (Q : PSt) (k : PWork) : Prop where
 op : k.kind = kd/\k.key = ky/\(kd = 1->k.value = va)
 p7 : k.next<=7->(Q.mem.room.1 = n/\Q.mem.room.2 = e)/\Q.clock = c/\Rt g c = ps
 u7 : k.next = 7\/k.next = 8->shUpd ps kd ky = true
 p8 : k.next = 8->(spendN 1 kd<=n/\spendE 1 kd<=e)/\(Q.mem.room.1 = n - spendN 1 kd/\Q.mem.room.2 = e - spendE 1 kd)/\Q.clock = c/\Rt g c = ps
 p9 : 9<=k.next->k.next<=11->Dn L n e c ps kd ky va g Q k.ans
 p12 : 12<=k.next->Dn L n e c ps kd ky va g Q k.ans\/Nd L n e c ps kd ky g Q k.ans
section
variable {g g' : Gh} {i j : Nat} {t t' u : PThread} {P P' Q : PSt} {L n e c kd ky va : Int} {ps : List (Int × Int)} {k : PWork}
theorem Dn.same {Q' : PSt} (h : Dn L n e c ps kd ky va g Q k.ans) (h1 : Q'.mem.room = Q.mem.room) (h2 : Q'.clock = Q.clock) {a : BAns} (h3 : a = k.ans) : Dn L n e c ps kd ky va g Q' a :=
 ⟨h.u,h.en,by rw [h1]; exact h.rm,by rw [h2]; exact h.ck,h.rt,by rw [h3]; exact h.an⟩
theorem Nd.same {Q' : PSt} (h : Nd L n e c ps kd ky g Q k.ans) (h1 : Q'.mem.room = Q.mem.room) (h2 : Q'.clock = Q.clock) {a : BAns} (h3 : a = k.ans) : Nd L n e c ps kd ky g Q' a :=
 ⟨h.d,by rw [h1]; exact h.rm,by rw [h2]; exact h.ck,h.rt,by rw [h3]; exact h.an⟩
theorem Ph.low {Q' : PSt} {k' : PWork} (h : Ph L n e c ps kd ky va g Q k) (h7 : k.next<=7) (h1 : k'.kind = k.kind/\k'.key = k.key/\k'.value = k.value) (h2 : k'.next<=6) (h3 : Q'.mem.room = Q.mem.room) (h4 : Q'.clock = Q.clock) : Ph L n e c ps kd ky va g Q' k':=by
 have:=h.p7 h7
 refine ⟨by rw [h1.1,h1.2.1,h1.2.2]; exact h.op,fun _=>⟨by rw [h3]; exact this.1,by rw [h4]; exact this.2.1,this.2.2⟩,fun q=>by omega,fun q=>by omega,fun q=>by omega,fun q=>by omega⟩
theorem Ph.step (h : Ph L n e c ps kd ky va g P t.work) (hA : All g P) (hkd : kd = 1\/kd = 2) (ht : P.ts[i]? = some t) (hb : t.busy = true) (hl : P.limit = L) (hcl : c<=L) (h1 : (P.step i t).2 = 1) :
  ∃ t',(P.step i t).1.ts = P.ts.set i t'/\t'.busy = true/\Ph L n e c ps kd ky va (nextG g P i t) (P.step i t).1 t'.work:=by
 have hI:=hA.i;have hT:=hI.th i t ht;have hk : t.work.kind = 1\/t.work.kind = 2:=by rw [h.op.1]; exact hkd
 have rs:=hI.roomSame ht hb;have hck:=hI.clockStep ht hb;have hG : ∀ {k : Nat},t.work.next = k->k≠8->nextG g P i t = g:=fun e1 e2=>nextG_no (fun q=>e2 (e1.symm.trans q.1))
 have hnT : ∀ {k : Nat},t.work.next = k->k≠8->(P.step i t).1.clock = P.clock:=fun e1 e2=>by rw [hck,if_neg (fun q=>e2 (e1.symm.trans q.1))]
 obtain ⟨P',m,hs,ho⟩:=hI.out ht hb;rw [hs] at rs hck h1 ⊢;have hnT : ∀ {k : Nat},t.work.next = k->k≠8->P'.clock = P.clock:=fun e1 e2=>by have:=hnT e1 e2; rw [hs] at this; exact this
 have low : ∀ {k' : PWork} {kk : Nat},t.work.next = kk->kk<=6->k'.kind = t.work.kind/\k'.key = t.work.key/\k'.value = t.work.value->k'.next<=6->Ph L n e c ps kd ky va (nextG g P i t) P' k':=by
  intro k' kk e1 e2 e3 e4;rw [hG e1 (by omega)];exact h.low (by omega) e3 e4 (rs (by omega) (by omega)) (hnT e1 (by omega))
 have later : ∀ {k' : PWork},9<=t.work.next->t.work.next<=12->k'.kind = t.work.kind/\k'.key = t.work.key/\k'.value = t.work.value->k'.next = t.work.next + 1->k'.ans = t.work.ans->Ph L n e c ps kd ky va (nextG g P i t) P' k':=by
  intro k' e1 e2 e3 e4 e5;rw [hG rfl (by omega)];have r1:=rs (by omega) (by omega);have c1 : P'.clock = P.clock:=hnT rfl (by omega);refine ⟨by rw [e3.1,e3.2.1,e3.2.2]; exact h.op,fun q=>by omega,fun q=>by omega,fun q=>by omega,fun q1 q2=>(h.p9 e1 (by omega)).same r1 c1 e5,fun q=>?_⟩;by_cases h11 : t.work.next<=11
  ·exact .inl ((h.p9 e1 h11).same r1 c1 e5)
  ·rcases h.p12 (by omega) with z | z
   ·exact .inl (z.same r1 c1 e5)
   ·exact .inr (z.same r1 c1 e5)
 have hne : P.needs t.work.kind = (spendN 1 kd,spendE 1 kd):=by
  unfold PSt.needs spendN spendE;rw [h.op.1];rcases hkd with e | e
  ·subst e; rw [if_neg (by decide),if_pos hI.kind]; rfl
  ·subst e; rw [if_pos rfl]; rfl
 cases ho with
 | come1 hn=>exact ⟨_,rfl,hb,low hn (by omega) ⟨rfl,rfl,rfl⟩ (by show 2<=6; omega)⟩
 | come2 hn=>exact ⟨_,rfl,hb,low hn (by omega) ⟨rfl,rfl,rfl⟩ (by show 3<=6; omega)⟩
 | come3 hn=>exact ⟨_,rfl,hb,low hn (by omega) ⟨rfl,rfl,rfl⟩ (by show 4<=6; omega)⟩
 | leave=>exact absurd h1 (show ¬ (3 : Int) = 1 by decide)
 | rwait=>exact absurd h1 (show ¬ (2 : Int) = 1 by decide)
 | lwait=>exact absurd h1 (show ¬ (2 : Int) = 1 by decide)
 | rgo hn hk'=>omega
 | walkOn hn=>exact ⟨_,rfl,hb,low hn (by omega) ⟨rfl,rfl,rfl⟩ (by show t.work.next<=6; omega)⟩
 | walkEnd hn=>exact ⟨_,rfl,hb,low hn (by omega) ⟨rfl,rfl,rfl⟩ (by show 5<=6; omega)⟩
 | lock hn hk' hh nn hnn hn56=>exact ⟨_,rfl,hb,low hn (by omega) ⟨rfl,rfl,rfl⟩ (by show nn<=6; omega)⟩
 | home hn=>exact ⟨_,rfl,hb,low hn (by omega) ⟨rfl,rfl,rfl⟩ (by show 4<=6; omega)⟩
 | same hn hk' ho hm =>
  refine ⟨_,rfl,hb,?_⟩;rw [hG hn (by omega)];obtain ⟨p1,p2,p3⟩:=h.p7 (by omega);have hv:=hI.idle6 ht hb hn ho;rw [p2,p3,h.op.2.1] at hv;have hu : shUpd ps kd ky = false:=by
   unfold shUpd;rw [hv];rw [h.op.1,h.op.2.1] at hm;rcases hkd with e | e
   ·subst e; rw [if_pos (hm.2 rfl)]; rfl
   ·subst e; rw [if_neg (fun q=>by have:=hm.1 q; omega)]; rfl
  refine ⟨h.op,fun q=>absurd q (by show ¬ 12<=7; omega),fun q=>absurd q (by show ¬ (12 = 7\/12 = 8); omega),fun q=>absurd q (by show ¬ 12 = 8; omega),fun _ q=>absurd q (by show ¬ 12<=11; omega),fun _=>.inr ⟨?_,p1,p2,p3,?_⟩⟩
  ·unfold doneOf; rw [hu]; rfl
  ·show ({ stamp:=P.clock } : BAns) = _;unfold wantOf shAns;rw [hu,p2];rcases hkd with e | e
   ·subst e; simp
   ·subst e; simp
 | right hn hk' ho hm =>
  refine ⟨_,rfl,hb,?_⟩;rw [hG hn (by omega)];obtain ⟨p1,p2,p3⟩:=h.p7 (by omega);have hv:=hI.idle6 ht hb hn ho;rw [p2,p3,h.op.2.1] at hv;have hu : shUpd ps kd ky = true:=by
   unfold shUpd;rw [hv];rw [h.op.1,h.op.2.1] at hm;rcases hkd with e | e
   ·subst e; rw [if_neg (fun q=>by have:=hm.1 q; omega)]; rfl
   ·subst e; rw [if_pos (hm.2 rfl)]; rfl
  exact ⟨h.op,fun _=>⟨p1,p2,p3⟩,fun _=>hu,fun q=>absurd q (by show ¬ 7 = 8; omega),fun q=>absurd q (by show ¬ 9<=7; omega),fun q=>absurd q (by show ¬ 12<=7; omega)⟩
 | full hn hk' hr =>
  refine ⟨_,rfl,hb,?_⟩;rw [hG hn (by omega)];obtain ⟨p1,p2,p3⟩:=h.p7 (by omega);have hu:=h.u7 (.inl hn);rw [hne] at hr;simp only at hr;have hse : spendErr 1 L kd n e c = 7:=by unfold spendErr; rw [if_pos (by rw [p1.1,p1.2] at hr; exact hr)]
  refine ⟨h.op,fun q=>absurd q (by show ¬ 12<=7; omega),fun q=>absurd q (by show ¬ (12 = 7\/12 = 8); omega),fun q=>absurd q (by show ¬ 12 = 8; omega),fun _ q=>absurd q (by show ¬ 12<=11; omega),fun _=>.inr ⟨?_,p1,p2,p3,?_⟩⟩
  ·unfold doneOf; rw [hu,hse]; rfl
  ·show ({ err:=7 } : BAns) = _;unfold wantOf;rw [hu,hse]; rfl
 | prepI hn hk1 hr1 hr2 a nn M1 ep ua un ne nd pd sdd rm =>
  refine ⟨_,rfl,hb,?_⟩;rw [hG hn (by omega)];obtain ⟨p1,p2,p3⟩:=h.p7 (by omega);have k1 : kd = 1:=by rw [<- h.op.1]; exact hk1
  have hu:=h.u7 (.inl hn);have e1 : spendN 1 kd = 2:=by rw [k1]; rfl
  have e2 : spendE 1 kd = 3:=by rw [k1]; rfl
  refine ⟨h.op,fun q=>absurd q (by show ¬ 8<=7; omega),fun _=>hu,fun _=>⟨⟨by omega,by omega⟩,⟨?_,?_⟩,p2,p3⟩,fun q=>absurd q (by show ¬ 9<=8; omega),fun q=>absurd q (by show ¬ 12<=8; omega)⟩
  ·show M1.room.1 = _; omega
  ·show M1.room.2 = _; omega
 | prepR hn hk2 hr M1 em nd pd sdd rm =>
  refine ⟨_,rfl,hb,?_⟩;rw [hG hn (by omega)];obtain ⟨p1,p2,p3⟩:=h.p7 (by omega);have k2 : kd = 2:=by rw [<- h.op.1]; exact hk2
  have hu:=h.u7 (.inl hn);have e1 : spendN 1 kd = 0:=by rw [k2]; rfl
  have e2 : spendE 1 kd = 1:=by rw [k2]; rfl
  have h0 : (0 : Int)<=P.mem.room.1:=by
   have e1 : P.mem.room.1 = (count (fun x : PNode=>!x.used) P.mem.ns : Nat):=rfl;omega
  refine ⟨h.op,fun q=>absurd q (by show ¬ 8<=7; omega),fun _=>hu,fun _=>⟨⟨by omega,by omega⟩,⟨?_,?_⟩,p2,p3⟩,fun q=>absurd q (by show ¬ 9<=8; omega),fun q=>absurd q (by show ¬ 12<=8; omega)⟩
  ·show M1.room.1 = _; omega
  ·show M1.room.2 = _; omega
 | late hn hk' hll M1 em nd pd sdd =>
  refine ⟨_,rfl,hb,?_⟩;rw [nextG_no (fun q=>q.2.2 hll)];obtain ⟨p0,p1,p2,p3⟩:=h.p8 hn;have hu:=h.u7 (.inr hn);have hlr:=hI.lateRoom ht hb hn;rw [<- em] at hlr;have hcL : c = L:=by omega
  have hse : spendErr 1 L kd n e c = 8:=by unfold spendErr; rw [if_neg (by omega),if_pos hcL]
  have e1 : (if t.work.kind = 1 then (2 : Int) else 0) = spendN 1 kd:=by rw [h.op.1]; unfold spendN; split <;> rfl
  have e2 : (if t.work.kind = 1 then (3 : Int) else 1) = spendE 1 kd:=by rw [h.op.1]; unfold spendE; split <;> rfl
  rw [e1,e2] at hlr;refine ⟨h.op,fun q=>absurd q (by show ¬ 12<=7; omega),fun q=>absurd q (by show ¬ (12 = 7\/12 = 8); omega),fun q=>absurd q (by show ¬ 12 = 8; omega),fun _ q=>absurd q (by show ¬ 12<=11; omega),fun _=>.inr ⟨?_,⟨?_,?_⟩,p2,p3,?_⟩⟩
  ·unfold doneOf; rw [hu,hse]; rfl
  ·show M1.room.1 = _; omega
  ·show M1.room.2 = _; omega
  ·show ({ err:=8 } : BAns) = _;unfold wantOf;rw [hu,hse]; rfl
 | takeI hn hk1 hll a nn q M1 em nd pd sdd =>
  refine ⟨_,rfl,hb,?_⟩;obtain ⟨p0,p1,p2,p3⟩:=h.p8 hn;have hu:=h.u7 (.inr hn);have hTk : Took P t:=⟨hn,.inl hk1,hll⟩;obtain ⟨r1,r2,r3⟩:=hI.tookRows ht hb hTk;rw [p2,p3,h.op.1,h.op.2.1] at r1;have k1 : kd = 1:=by rw [<- h.op.1]; exact hk1
  rw [h.op.2.2 k1] at r1;have rr:=rs (by omega) (fun _=>hll);have dn : Dn L n e c ps kd ky va (nextG g P i t) { P with mem:=M1,clock:=P.clock + 1,ts:=P.ts.set i { t with work:={ t.work with ans:={ did:=true,stamp:=P.clock + 1 },next:=10 } } } { did:=true,stamp:=P.clock + 1 }:=by
   refine ⟨hu,⟨p0.1,p0.2,by omega⟩,?_,by show P.clock + 1 = _; rw [p2],r1,?_⟩
   ·have rr : M1.room = P.mem.room:=rr;show M1.room.1 = _/\M1.room.2 = _;rw [rr]; exact p1
   ·rw [if_neg (by omega),p2]
  exact ⟨h.op,fun q=>absurd q (by show ¬ 10<=7; omega),fun q=>absurd q (by show ¬ (10 = 7\/10 = 8); omega),fun q=>absurd q (by show ¬ 10 = 8; omega),fun _ _=>dn,fun q=>absurd q (by show ¬ 12<=10; omega)⟩
 | takeR hn hk2 hll =>
  refine ⟨_,rfl,hb,?_⟩;obtain ⟨p0,p1,p2,p3⟩:=h.p8 hn;have hu:=h.u7 (.inr hn);have hTk : Took P t:=⟨hn,.inr hk2,hll⟩;obtain ⟨r1,r2,r3⟩:=hI.tookRows ht hb hTk;rw [p2,p3,h.op.1,h.op.2.1] at r1;have k2 : kd = 2:=by rw [<- h.op.1]; exact hk2
  have r3:=r3 hk2;rw [p2,p3,h.op.2.1] at r3;have hsv : shNew ps kd ky t.work.value = shNew ps kd ky va:=by
   unfold shNew;rw [hu,if_pos rfl,if_pos rfl,if_neg (by omega),if_neg (by omega)]
  rw [hsv] at r1;have dn : Dn L n e c ps kd ky va (nextG g P i t) { P with clock:=P.clock + 1,ts:=P.ts.set i { t with work:={ t.work with ans:={ did:=true,stamp:=P.clock + 1,value:=(P.mem.node t.work.ahead).value },next:=9 } } } { did:=true,stamp:=P.clock + 1,value:=(P.mem.node t.work.ahead).value }:=by
   refine ⟨hu,⟨p0.1,p0.2,by omega⟩,p1,by show P.clock + 1 = _; rw [p2],r1,?_⟩;rw [if_pos k2,p2,r3]
  exact ⟨h.op,fun q=>absurd q (by show ¬ 9<=7; omega),fun q=>absurd q (by show ¬ (9 = 7\/9 = 8); omega),fun q=>absurd q (by show ¬ 9 = 8; omega),fun _ _=>dn,fun q=>absurd q (by show ¬ 12<=9; omega)⟩
 | kill hn=>exact ⟨_,rfl,hb,later (by omega) (by omega) ⟨rfl,rfl,rfl⟩ (by show 10 = _; omega) rfl⟩
 | link hn=>exact ⟨_,rfl,hb,later (by omega) (by omega) ⟨rfl,rfl,rfl⟩ (by show 11 = _; omega) rfl⟩
 | stamp hn=>exact ⟨_,rfl,hb,later (by omega) (by omega) ⟨rfl,rfl,rfl⟩ (by show 12 = _; omega) rfl⟩
 | unlock hn=>exact ⟨_,rfl,hb,later (by omega) (by omega) ⟨rfl,rfl,rfl⟩ (by show 13 = _; omega) rfl⟩
end
end T
end
section
namespace T
structure QT (N E L : Int) (P : PSt) (ps : List (Int × Int)) (n e c : Int) : Prop where
 ex : ∃ g,All g P/\Rt g c = ps
 uq : UQ P.mem
 idle : Idle P
 sw : P.sweep = PSweep.zero
 len : P.mem.ns.length = N.toNat + 2/\P.mem.es.length = E.toNat
 rm : P.mem.room.1 = n/\P.mem.room.2 = e
 ck : P.clock = c/\P.limit = L/\c<=L
section
variable {g g' : Gh} {i j : Nat} {t t' u : PThread} {P P' Q : PSt} {T N E L n e c kd ky va : Int} {ps sp : List (Int × Int)} {k : PWork}
theorem QT.room (h : QT N E L P ps n e c) (hN : 0<=N/\N<=64) (hE : 1<=E/\E<=256) (hL : 0<=L/\L<=1099511627776) : P.mem.room.1 = n/\P.mem.room.2 = e/\P.clock = c/\(0<=n/\n<=64)/\(0<=e/\e<=256)/\(0<=c/\c<=2 ^ 41)/\ps.length<=64:=by
 obtain ⟨g,hA,hr⟩:=h.ex;have e1 : P.mem.room.1 = (count (fun x : PNode=>!x.used) P.mem.ns : Nat):=rfl;have e2 : P.mem.room.2 = (count (fun x : PEntry=>!x.used) P.mem.es : Nat):=rfl;have c2:=filt_len (fun x : PEntry=>!x.used) P.mem.es;have hl:=h.len;have hrm:=h.rm;have hck:=h.ck;have h0:=hA.i.o.sc.2;have hsz:=hA.v.now.size hA.i.n.gt.dj hA.i.n.gt.z;have hlen:=Rt_len hA.i.n.gt;rw [hck.1,hr] at hlen;rw [Tr.size_is,hck.1] at hsz
 -- two of the nodes are used
 have c1 : count (fun x : PNode=>!x.used) P.mem.ns + 2<=P.mem.ns.length:=by
  have h3:=count_not (fun x : PNode=>x.used) P.mem.ns;have h4 : 2<=count (fun x : PNode=>x.used) P.mem.ns:=by
   obtain ⟨k0,x0,a1,a2,a3⟩:=node_at (hasN_used hA.i.n.n0.1);obtain ⟨k1,x1,b1,b2,b3⟩:=node_at (hasN_used hA.i.n.one.2.1);have u0 : x0.used = true:=by rw [<- a3]; exact hA.i.n.n0.1
   have u1 : x1.used = true:=by rw [<- b3]; exact hA.i.n.one.2.1
   have z0 : k0 = 0:=by omega
   have z1 : k1 = 1:=by omega
   subst z0; subst z1
   match hns : P.mem.ns with
   | []=>rw [hns] at a2; simp at a2
   | [a]=>rw [hns] at b2; simp at b2
   | a :: b :: r =>
    rw [hns] at a2 b2;simp at a2 b2;subst a2; subst b2;unfold count;simp [u0,u1]
  omega
 refine ⟨hrm.1,hrm.2,hck.1,by omega,by omega,⟨by omega,by omega⟩,by omega⟩
theorem QT.sweeps (h : QT N E L P ps n e c) (hN : 0<=N) (hE : 1<=E) : (∀ j,j < P.ts.length + 2->P.swHow j = 1)/\P.swHow (P.ts.length + 2) = 3/\QT N E L (P.swIter (P.ts.length + 3)) ps (N - ps.length * (1 + 1)) (E - ps.length * (1 + 1) - 1) c:=by
 obtain ⟨g,hA,hr⟩:=h.ex;obtain ⟨s1,s2,s3⟩:=sweep_run h.sw (hA.i.slot0 h.idle);refine ⟨s1,s2,?_⟩;obtain ⟨g',a1,a2⟩:=hA.sweeps (P.ts.length + 3);rw [s3] at a1 ⊢;obtain ⟨r1,r2,r3,r4⟩:=hA.sweptRoom h.uq h.idle rfl ⟨g',a1.v.now,a2⟩;have hck:=h.ck;rw [hck.1,hr] at r1 r2;rw [h.len.1] at r1 r3;rw [h.len.2] at r2 r4;refine ⟨⟨g',a1,by unfold Rt at hr ⊢; rw [a2]; exact hr⟩,?_,h.idle,rfl,⟨?_,?_⟩,⟨?_,?_⟩,hck⟩
 ·exact uq_freesIf _ _ _ (uq_drop h.uq _)
 ·show ((P.mem.drop P.clock).freesIf false 0 (retiredFrom P.mem.ns 0)).ns.length = _;exact r3
 ·show ((P.mem.drop P.clock).freesIf false 0 (retiredFrom P.mem.ns 0)).es.length = _;exact r4
 ·show ((P.mem.drop P.clock).freesIf false 0 (retiredFrom P.mem.ns 0)).room.1 = _;rw [hck.1,r1]; omega
 ·show ((P.mem.drop P.clock).freesIf false 0 (retiredFrom P.mem.ns 0)).room.2 = _;rw [hck.1,r2]; omega
structure Run1 (N E L : Int) (i : Nat) (P : PSt) (g : Gh) (t : PThread) : Prop where
 a : All g P
 uq : UQ P.mem
 sw : P.sweep = PSweep.zero
 len : P.mem.ns.length = N.toNat + 2/\P.mem.es.length = E.toNat
 lim : P.limit = L
 at_ : P.ts[i]? = some t
 b : t.busy = true
theorem Run1.step (h : Run1 N E L i P g t) (h1 : (P.step i t).2 = 1) : ∃ t',(P.step i t).1.ts = P.ts.set i t'/\Run1 N E L i (P.step i t).1 (nextG g P i t) t':=by
 have hi:=(List.getElem?_eq_some_iff.1 h.at_).1;obtain ⟨e1,e2,e3⟩:=h.a.i.elen h.at_ h.b;rcases h.a.i.outs h.at_ h.b with ⟨_,t',o2,o3,_⟩ | o | ⟨o,_⟩
 ·exact ⟨t',o2,h.a.step h.at_ h.b,h.a.i.uqStep h.uq h.at_ h.b,by rw [e3]; exact h.sw,⟨by rw [step_len]; exact h.len.1,by rw [e1]; exact h.len.2⟩,by rw [e2]; exact h.lim,by rw [o2]; simp [hi],o3⟩
 ·rw [o] at h1; exact absurd h1 (by decide)
 ·rw [o] at h1; exact absurd h1 (by decide)
theorem Run1.last (h : Run1 N E L i P g t) (hn : t.work.next = 13) (hS : Solo P i) {ps' : List (Int × Int)} {n' e' c' : Int} (hr : Rt g c' = ps') (hrm : P.mem.room.1 = n'/\P.mem.room.2 = e') (hc : P.clock = c'/\c'<=L) : QT N E L (P.iter i 1) ps' n' e' c'/\(P.th i).work.ans = t.work.ans:=by
 have hi:=(List.getElem?_eq_some_iff.1 h.at_).1;have hth : P.th i = t:=by unfold PSt.th; rw [h.at_]; rfl
 refine ⟨?_,by rw [hth]⟩;rw [iter_succ h.at_ 0];show QT N E L (P.step i t).1 ps' n' e' c';have hs : (P.step i t).1 = { P with ts:=P.ts.set i t.leave }:=by unfold PSt.step; simp only [hn]; rfl
 have hA:=h.a.step h.at_ h.b;rw [nextG_no (fun q=>by have:=q.1; omega)] at hA;have huq:=h.a.i.uqStep h.uq h.at_ h.b;rw [hs] at hA huq ⊢;refine ⟨⟨g,hA,hr⟩,huq,?_,h.sw,h.len,hrm,hc.1,h.lim,hc.2⟩;intro u hu;obtain ⟨j,hj⟩:=List.mem_iff_getElem?.1 hu;have hj : (P.ts.set i t.leave)[j]? = some u:=hj;rw [List.getElem?_set] at hj;by_cases ej : i = j
 ·subst ej; simp [hi] at hj; subst hj; rfl
 ·rw [if_neg ej] at hj; exact hS j u hj (fun e=>ej e.symm)
theorem wantOf_rd {κ n e c kd ky : Int} {sp : List (Int × Int)} (hk : kd = 3\/kd = 4) (k : PWork) (h1 : k.kind = kd) (h2 : kd = 3->k.key = ky) (h3 : kd = 4->k.spans = sp) (h4 : k.time = c) : readAns ps k = wantOf κ L n e c ps kd ky sp:=by
 have hu : shUpd ps kd ky = false:=by
  unfold shUpd;rcases hk with e | e <;> subst e <;> simp
 unfold wantOf readAns shAns;rw [hu,h1,h4];rcases hk with q | q
 ·subst q;simp [h2 rfl]
 ·subst q;simp only [h3 rfl];unfold answerOf;by_cases hl : lensOf (spanLists sp ps) > 64
  ·simp [hl]
  ·simp [hl]
structure RdA (n e c : Int) (ps : List (Int × Int)) (kd ky : Int) (sp : List (Int × Int)) (g : Gh) (P : PSt) (k : PWork) : Prop where
 op : k.kind = kd/\(kd = 3->k.key = ky)/\(kd = 4->k.spans = sp)
 rm : P.mem.room.1 = n/\P.mem.room.2 = e
 ck : P.clock = c
 rt : Rt g c = ps
 tm : 3<=k.next->k.time = c
theorem RdA.step (h : RdA n e c ps kd ky sp g P t.work) (hA : All g P) (hkd : kd = 3\/kd = 4) (ht : P.ts[i]? = some t) (hb : t.busy = true) (h1 : (P.step i t).2 = 1) {t' : PThread} (hts : (P.step i t).1.ts = P.ts.set i t') :
  RdA n e c ps kd ky sp (nextG g P i t) (P.step i t).1 t'.work:=by
 have hI:=hA.i;have hi:=(List.getElem?_eq_some_iff.1 ht).1;have hk : t.work.kind = 3\/t.work.kind = 4:=by rw [h.op.1]; exact hkd
 have hrd:=(hI.th i t ht).rd hb hk;have nT : ¬ Took P t:=fun q=>by have:=q.2.1; omega
 have rs:=hI.roomSame ht hb (by omega) (by omega);have hck:=hI.clockStep ht hb;rw [if_neg nT] at hck;rw [nextG_no nT];have mk : ∀ {k' : PWork},t'.work = k'->k'.kind = t.work.kind->k'.key = t.work.key->k'.spans = t.work.spans->(3<=k'.next->k'.time = c)->RdA n e c ps kd ky sp g (P.step i t).1 t'.work:=by
  intro k' e0 e1 e2 e3 e4;rw [e0];exact ⟨by rw [e1,e2,e3]; exact h.op,by rw [rs]; exact h.rm,by rw [hck]; exact h.ck,h.rt,e4⟩
 have set : ∀ {w : PThread},(P.step i t).1.ts = P.ts.set i w->t' = w:=by
  intro w hw;have : (P.ts.set i t')[i]? = (P.ts.set i w)[i]?:=by rw [<- hts,hw]
  simp [hi] at this; exact this
 obtain ⟨P',m,hs,ho⟩:=hI.out ht hb;have hs1 : (P.step i t).1 = P':=by rw [hs]
 rw [hs] at h1;cases ho with
 | come1 hn=>exact mk (congrArg PThread.work (set (congrArg PSt.ts hs1))) rfl rfl rfl (fun q=>by have : 3<=2:=q; omega)
 | come2 hn=>exact mk (congrArg PThread.work (set (congrArg PSt.ts hs1))) rfl rfl rfl (fun _=>h.ck)
 | come3 hn=>exact mk (congrArg PThread.work (set (congrArg PSt.ts hs1))) rfl rfl rfl (fun _=>h.tm (by omega))
 | leave=>exact absurd h1 (show ¬ (3 : Int) = 1 by decide)
 | rwait=>exact absurd h1 (show ¬ (2 : Int) = 1 by decide)
 | lwait=>exact absurd h1 (show ¬ (2 : Int) = 1 by decide)
 | rgo hn hk' hp k ek hsk=>exact mk (congrArg PThread.work (set (congrArg PSt.ts hs1))) hsk.1 hsk.2.2.2.1 hsk.2.2.2.2.2.1 (fun _=>hsk.2.2.1.trans (h.tm (by omega)))
 | walkOn hn hk'=>omega
 | walkEnd hn hk'=>omega
 | lock hn hk'=>omega
 | home hn hk'=>omega
 | same hn hk'=>omega
 | right hn hk'=>omega
 | full hn hk'=>omega
 | prepI hn hk'=>omega
 | prepR hn hk'=>omega
 | late hn hk'=>omega
 | takeI hn hk'=>omega
 | takeR hn hk'=>omega
 | kill hn hk'=>omega
 | link hn hk'=>omega
 | stamp hn hk'=>omega
 | unlock hn hk'=>omega
end
end T
end
section
namespace T
section
variable {g g' : Gh} {i j : Nat} {t t' u : PThread} {P P' Q : PSt} {T N E L n e c kd ky va : Int} {ps sp : List (Int × Int)} {k : PWork}
theorem newWork_key (h : kd = 1\/kd = 2\/kd = 3) : (newWork kd ky va sp).key = ky:=by
 rcases h with e | e | e <;> subst e <;> simp [newWork]
theorem newWork_value {ky va : Int} {sp : List (Int × Int)} : (newWork 1 ky va sp).value = va:=by simp [newWork]
theorem newWork_spans : (newWork 4 ky va sp).spans = sp:=by simp [newWork]
theorem QT.op (h : QT N E L P ps n e c) (hN : 0<=N/\N<=64) (ht : P.ts[i]? = some t) (hp : properB kd ky sp = true) :
  ∃ m : Nat,(m : Int) < N + 16/\(∀ j,j < m->(P.setT i { t with busy:=true,work:=newWork kd ky va sp }).how i j = 1)/\(P.setT i { t with busy:=true,work:=newWork kd ky va sp }).how i m = 3 /\
   (((P.setT i { t with busy:=true,work:=newWork kd ky va sp }).iter i m).th i).work.ans = wantOf 1 L n e c ps kd ky sp /\
   QT N E L ((P.setT i { t with busy:=true,work:=newWork kd ky va sp }).iter i (m + 1)) (if doneOf 1 L n e c ps kd ky then shNew ps kd ky va else ps) (if doneOf 1 L n e c ps kd ky then n - spendN 1 kd else n) (if doneOf 1 L n e c ps kd ky then e - spendE 1 kd else e) (if doneOf 1 L n e c ps kd ky then c + 1 else c):=by
 obtain ⟨g,hA,hr⟩:=h.ex;have hi:=(List.getElem?_eq_some_iff.1 ht).1;have htb:=h.idle t (List.mem_of_getElem? ht);have hA1:=hA.begin (va:=va) ht htb hp;obtain ⟨w1,w2,w3,_⟩:=newWork_ok (va:=va) hp;obtain ⟨P1,hP1⟩ : ∃ P1,P1 = P.setT i { t with busy:=true,work:=newWork kd ky va sp }:=⟨_,rfl⟩;rw [<- hP1] at hA1 ⊢;have e1 : P1.mem = P.mem/\P1.clock = P.clock/\P1.limit = P.limit/\P1.sweep = P.sweep/\P1.ts = P.ts.set i { t with busy:=true,work:=newWork kd ky va sp }:=by rw [hP1]; exact ⟨rfl,rfl,rfl,rfl,rfl⟩
 obtain ⟨f1,f2,f3,f4,f5⟩:=e1;have ht1 : P1.ts[i]? = some { t with busy:=true,work:=newWork kd ky va sp }:=by rw [f5]; simp [hi]
 have hS : Solo P1 i:=by
  intro j u hj hne;rw [f5,List.getElem?_set_ne (Ne.symm hne)] at hj;exact h.idle u (List.mem_of_getElem? hj)
 have hck:=h.ck;have hrun : Run1 N E L i P1 g { t with busy:=true,work:=newWork kd ky va sp }:=⟨hA1,by rw [f1]; exact h.uq,by rw [f4]; exact h.sw,by rw [f1]; exact h.len,by rw [f3]; exact hck.2.1,ht1,rfl⟩;have hlen : P1.mem.ns.length = N.toNat + 2:=by rw [f1]; exact h.len.1
 -- the measure at its beginning
 have hphi : phi (N.toNat + 2) g P1.mem P1.clock P1.ts 0 { t with busy:=true,work:=newWork kd ky va sp }<=N.toNat + 16:=by
  by_cases hk : kd = 3\/kd = 4
  ·rw [phi_r3 (t:={ t with busy:=true,work:=newWork kd ky va sp }) rfl (by show (newWork kd ky va sp).kind = 3\/(newWork kd ky va sp).kind = 4; rw [w2]; exact hk) (by show (newWork kd ky va sp).next<=3; omega)];show N.toNat + 2 + 7 - (newWork kd ky va sp).next<=_
   omega
  ·rw [phi_u3 (t:={ t with busy:=true,work:=newWork kd ky va sp }) rfl (by show ¬ ((newWork kd ky va sp).kind = 3\/(newWork kd ky va sp).kind = 4); rw [w2]; exact hk) (by show (newWork kd ky va sp).next<=3; omega)];show N.toNat + 2 + 15 - (newWork kd ky va sp).next + 0 * _<=_
   omega
 by_cases hk : kd = 3\/kd = 4
 ·-- a read
  obtain ⟨m,m1,m2,m3,⟨g2,t2,z1,z2⟩,g',t',a1,a2,a3,a4,a5⟩:=solo_end (i:=i) (fun Q=>∃ g t,Run1 N E L i Q g t/\RdA n e c ps kd ky sp g Q t.work) (by
   rintro Q t ⟨g,t0,q1,q2⟩ hQ hb h1;have e0 : t0 = t:=by have:=q1.at_; rw [hQ] at this; injection this with this; exact this.symm
   subst e0;obtain ⟨t',o1,o2⟩:=q1.step h1;exact ⟨_,t',o2,q2.step q1.a hk q1.at_ q1.b h1 o1⟩) (N.toNat + 16) P1 g _ hA1 hS ht1 rfl hlen hphi ⟨g,_,hrun,by
    refine ⟨⟨w2,fun e=>?_,fun e=>?_⟩,by rw [f1]; exact h.rm,by rw [f2]; exact hck.1,hr,fun q=>?_⟩
    ·show (newWork kd ky va sp).key = ky; exact newWork_key (by omega)
    ·subst e; exact newWork_spans (ky:=ky) (va:=va)
    ·have : 3<=(newWork kd ky va sp).next:=q; omega⟩
  have et : t2 = t':=by have:=z1.at_; rw [a3] at this; injection this with this; exact this.symm
  subst et;have han:=(z1.a.r i t2 z1.at_).an a4 (by rw [z2.op.1]; exact hk) a5;rw [z2.tm (by omega),z2.rt] at han;have hwant:=wantOf_rd (κ:=1) (L:=L) (n:=n) (e:=e) (ps:=ps) hk t2.work z2.op.1 z2.op.2.1 z2.op.2.2 (z2.tm (by omega));have hdn : doneOf 1 L n e c ps kd ky = false:=by
   unfold doneOf shUpd;rcases hk with q | q <;> subst q <;> simp
  obtain ⟨l1,l2⟩:=z1.last a5 a2 z2.rt z2.rm ⟨z2.ck,hck.2.2⟩;refine ⟨m,by omega,m2,m3,by rw [l2,han,hwant],?_⟩;rw [hdn];have e2 : (P1.iter i m).iter i 1 = P1.iter i (m + 1):=rfl;rw [<- e2]; exact l1
 ·-- an update
  have hkd : kd = 1\/kd = 2:=by omega
  obtain ⟨m,m1,m2,m3,⟨g2,t2,z1,z2⟩,g',t',a1,a2,a3,a4,a5⟩:=solo_end (i:=i) (fun Q=>∃ g t,Run1 N E L i Q g t/\Ph L n e c ps kd ky va g Q t.work) (by
   rintro Q t ⟨g,t0,q1,q2⟩ hQ hb h1;have e0 : t0 = t:=by have:=q1.at_; rw [hQ] at this; injection this with this; exact this.symm
   subst e0;obtain ⟨t',o1,o2⟩:=q1.step h1;obtain ⟨t'',o3,_,o5⟩:=q2.step q1.a hkd q1.at_ q1.b q1.lim hck.2.2 h1;have hi':=(List.getElem?_eq_some_iff.1 hQ).1;have ee : t'' = t':=by
    have : (Q.ts.set i t'')[i]? = (Q.ts.set i t')[i]?:=by rw [<- o3,o1]
    simp [hi'] at this; exact this
   subst ee;exact ⟨_,t'',o2,o5⟩) (N.toNat + 16) P1 g _ hA1 hS ht1 rfl hlen hphi ⟨g,_,hrun,by
    refine ⟨⟨w2,newWork_key (by omega),fun e=>by subst e; exact newWork_value (ky:=ky) (va:=va) (sp:=sp)⟩,fun _=>⟨by rw [f1]; exact h.rm,by rw [f2]; exact hck.1,hr⟩,fun q=>?_,fun q=>?_,fun q=>?_,fun q=>?_⟩
    ·have : (newWork kd ky va sp).next = 7\/(newWork kd ky va sp).next = 8:=q; omega
    ·have : (newWork kd ky va sp).next = 8:=q; omega
    ·have : 9<=(newWork kd ky va sp).next:=q; omega
    ·have : 12<=(newWork kd ky va sp).next:=q; omega⟩
  have et : t2 = t':=by have:=z1.at_; rw [a3] at this; injection this with this; exact this.symm
  subst et;have e2 : (P1.iter i m).iter i 1 = P1.iter i (m + 1):=rfl;have hspn : wantOf 1 L n e c ps kd ky sp = wantOf 1 L n e c ps kd ky []:=by
   unfold wantOf shAns;rcases hkd with q | q <;> subst q <;> simp
  rcases z2.p12 (by omega) with z | z
  ·have hse : spendErr 1 L kd n e c = 0:=by
    have:=z.en
    unfold spendErr; rw [if_neg (by omega),if_neg (by omega)]
   have hdn : doneOf 1 L n e c ps kd ky = true:=by unfold doneOf; rw [z.u,hse]; rfl
   obtain ⟨l1,l2⟩:=z1.last a5 a2 z.rt z.rm ⟨z.ck,by have:=z.en; omega⟩;refine ⟨m,by omega,m2,m3,?_,?_⟩
   ·rw [l2,z.an];unfold wantOf shAns;rw [z.u,hse];rcases hkd with q | q <;> subst q <;> simp
   ·rw [hdn,<- e2]; exact l1
  ·obtain ⟨l1,l2⟩:=z1.last a5 a2 z.rt z.rm ⟨z.ck,hck.2.2⟩;refine ⟨m,by omega,m2,m3,by rw [l2,z.an,hspn],?_⟩;rw [z.d,<- e2]; exact l1
theorem QT.fresh (hN : 0<=N) (hE : 1<=E) (hL : 0<=L) : QT N E L (freshP 1 T N E L) [] N (E - 1) 0:=by
 obtain ⟨h1,h2,h3,h4⟩:=inv_fresh (T:=T) (N:=N) (L:=L) hE;have hel : (freshP 1 T N E L).mem.es.length = E.toNat:=by
  show (freshMem N.toNat E.toNat).es.length = _;unfold freshMem PMem.stampNew;rw [stamp_elen,stamp_elen,addLink_elen]
  simp
 have hw:=fresh_seen N.toNat E.toNat (by omega);have hm : (freshP 1 T N E L).mem = freshMem N.toNat E.toNat:=rfl;refine ⟨⟨newG,⟨h1,h2,h3⟩,?_⟩,uq_fresh hE,?_,rfl,⟨h4,hel⟩,⟨?_,?_⟩,rfl,rfl,hL⟩
 ·show Rt newG 0 = [];unfold Rt newG;simp [Tr.rows]
 ·intro t ht; rw [(List.mem_replicate.1 ht).2]; rfl
 ·have:=room1_of (M:=(freshP 1 T N E L).mem) [0,1] (by simp) (by
   intro x;rw [hm];simp only [Us];rw [hw.2.2.1];by_cases e0 : x = 0
   ·subst e0; simp [linked,anchorNode]
   ·by_cases e1 : x = 1
    ·subst e1; simp [endNode]
    ·simp [e0,e1,PNode.zero])
  rw [this,h4];show ((N.toNat + 2 : Nat) : Int) - 2 = N;omega
 ·have hsl : ∀ x s,SL (freshP 1 T N E L).mem x s≠[] ↔ (x,s) ∈ [((0 : Int),false)]:=by
   intro x s;simp only [List.mem_singleton,Prod.mk.injEq];constructor
   ·intro hne;obtain ⟨st,hst⟩:=List.exists_mem_of_ne_nil _ hne;obtain ⟨d,hd⟩:=mem_SL.1 hst;rw [hm] at hd
    have:=(hw.2.2.2.2 _ _ _ _).1 hd
    exact ⟨this.1,this.2.1⟩
   ·rintro ⟨rfl,rfl⟩ e0;have : (0 : Int) ∈ SL (freshP 1 T N E L).mem 0 false:=mem_SL.2 ⟨1,by rw [hm]; exact (hw.2.2.2.2 _ _ _ _).2 ⟨rfl,rfl,rfl,rfl⟩⟩;rw [e0] at this; cases this
  have:=room2_of (M:=(freshP 1 T N E L).mem) (fun x s=>by rw [hm]; exact hw.2.2.2.1 x s) [((0 : Int),false)] (by simp) hsl (by
   intro x s;refine nodup_one (uq_fresh hE x s) ?_;intro a ha b hb;obtain ⟨da,ha⟩:=mem_SL.1 ha;obtain ⟨db,hb⟩:=mem_SL.1 hb;rw [hm] at ha hb;have e1:=((hw.2.2.2.2 _ _ _ _).1 ha).2.2.1;have e2:=((hw.2.2.2.2 _ _ _ _).1 hb).2.2.1;rw [e1,e2])
  rw [this,hel];show ((E.toNat : Nat) : Int) - 1 = E - 1;omega
theorem tquiets (hN : 0<=N/\N<=64) (hE : 1<=E/\E<=256) (hL : 0<=L/\L<=1099511627776) : Quiets 1 T N E L (QT N E L) where
 fresh:=QT.fresh hN.1 hE.1 hL.1
 room:=fun h=>h.room hN hE hL
 idle:=fun h=>h.idle
 op:=fun _ _ _ _ h ht hp=>h.op hN ht hp
 sweep:=fun h=>h.sweeps hN.1 hE.1
end
end T
end
end Go.Proofs.YtfccelbmacjifabGreat
