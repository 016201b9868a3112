import Derived.Test.YtfccelbmacjifabGreatP0
import Derived.Test.YtfccelbmacjifabGreatP19
set_option linter.unusedSimpArgs false
set_option maxRecDepth 100000
set_option maxHeartbeats 4000000
namespace Go.Proofs.YtfccelbmacjifabGreat
section
namespace T
section
variable {g g' : Gh} {M M' : PMem} {c c' : Int} {r : PSweep} {i j : Nat} {t t' u : PThread} {ts ts' : List PThread} {P : PSt} {x : Int} {s : Bool} {key : Int} {k : PWork}
structure Gro (g g' : Gh) (M M' : PMem) (c c' : Int) (ts ts' : List PThread) (i : Nat) : Prop where
 cc : c<=c'
 ga : ∀ x,Gd g c ts x->Gd g' c' ts' x
 gn : ∀ x,x = 0\/Gd g c ts x->Us M' x/\Ky M' x = Ky M x/\Ln M' x = Ln M x/\g'.B x = g.B x/\(∀ k,g.R x k->g'.R x k)/\(Re M' x->(Re M x/\Ra M' x = Ra M x)\/c<=Ra M' x)
 gc : ∀ x,Us M' x->(Ho M' x = i ↔ Us M x/\Ho M x = i)
theorem Gro.wk (f : Gro g g' M M' c c' ts ts' i) (h : Wk g M c ts key x) : Wk g' M' c' ts' key x:=by
 rcases h with e | ⟨w1,w2,w3⟩
 ·exact .inl e
 ·have:=f.gn x (.inr w3)
  exact .inr ⟨by rw [this.2.2.1]; exact w1,this.2.2.2.2.1 _ w2,f.ga x w3⟩
theorem Wk.z (h : Wk g M c ts key x) : x = 0\/Gd g c ts x:=by
 rcases h with e | ⟨_,_,e⟩
 ·exact .inl e
 ·exact .inr e
theorem Th.own (h : Th g M c r ts i t) (h1 : Ky M 1 = 1099511627777) (hb : t.busy = true) (h6 : 6<=t.work.next) (h12 : t.work.next<=12) (f : Gro g g' M M' c c' ts ts' i)
  (hk : k.kind = t.work.kind/\k.key = t.work.key/\k.spans = t.work.spans/\k.time = t.work.time/\k.stand = t.work.stand/\k.ahead = t.work.ahead/\k.above = t.work.above/\k.locks = t.work.locks/\k.links = t.work.links)
  (k6 : 6<=k.next) (k12 : k.next<=12) (m7 : k.next<=7->k.made = []) (n9 : k.next = 9->k.kind = 2)
  (c7 : 7<=k.next->k.next<=11->(Ky M' k.ahead = k.key ↔ k.kind = 2))
  (e7 : 7<=k.next->k.next<=8->A (g'.V c') k.stand (sd M' k.stand k.key) k.ahead/\Ld M' k.stand (sd M' k.stand k.key) = k.ahead/\(k.kind = 2->A (g'.V c') k.above (sd M' k.above k.key) k.stand/\Ld M' k.above (sd M' k.above k.key) = k.stand))
  (tt : 8<=k.next->k.next<=11->k.tsrc = (if k.kind = 2 then k.above else k.stand)/\k.tside = sd M' k.tsrc k.key)
  (f8 : k.kind = 1->k.next = 8->∃ a n,New g' M' c' k a n)
  (f10 : k.kind = 1->k.next = 10->∃ a n,Made g' M' c' k a n)
  (q8 : k.kind = 2->8<=k.next->k.next<=10->Pd M' k.above (sd M' k.above k.key) = [Ld M' k.stand (!sd M' k.stand k.key)]/\Ld M' k.above (sd M' k.above k.key) = k.stand/\k.made = [])
  (q9 : k.kind = 2->(k.next = 9\/k.next = 10\/k.next = 11\/(k.next = 12/\k.ans.did = true))->Outs g' M' c' k/\(k.next≠9->De M' k.stand/\De M' k.ahead))
  (p11 : k.next = 11->Pd M' k.tsrc k.tside = [Ld M' k.tsrc k.tside])
  (s9 : 9<=k.next->k.next<=11->k.ans.did = true/\k.time < k.ans.stamp/\0<=k.ans.stamp/\k.ans.stamp<=c'/\∀ s d,Sd M' k.tsrc k.tside s d->s < k.ans.stamp) :
  Th g' M' c' r ts' i { t with work:=k }:=by
 obtain ⟨k1,k2,k3,k4,k5,k7,k8,k9,k10⟩:=hk;have hup:=h.upd hb (by omega) h12;have hah : Ky M' t.work.ahead = Ky M t.work.ahead:=(f.gn _ (.inr (h.cs hb (by omega) h12).1)).2.1;have hhl : hl M' k = hl M t.work:=by
  have : Mt M' k ↔ Mt M t.work:=by unfold Mt; rw [k1,k2,k7,hah]
  unfold hl; simp only [this,k5,k8]
 have htm:=h.tm hb (by omega);constructor
 case kd=>intro _; show k.kind = 1\/_; rw [k1]; exact h.kd hb
 case nx=>intro _; show 1<=k.next/\k.next<=13; omega
 case rd=>intro _ q; have : k.kind = 3\/k.kind = 4:=q; omega
 case sl =>
  show t.slot = if t.busy = true/\k.next≠1 then (if k.next<=3 then 1 else 2) else 0
  have e1 : t.work.next≠1:=by omega
  have e2 : ¬ t.work.next<=3:=by omega
  have e3 : k.next≠1:=by omega
  have e4 : ¬ k.next<=3:=by omega
  rw [h.sl]; simp [hb,e1,e2,e3,e4]
 case tm=>intro _ _; show k.time<=c'/\(_->_\/_<=k.time); have:=f.cc; rw [k4]; exact ⟨by omega,htm.2⟩
 case hd =>
  intro x hx;show Ho M' x = i ↔ t.busy = true/\x ∈ (hl M' k).take k.locks;rw [f.gc x hx,hhl,k9];constructor
  ·rintro ⟨a1,a2⟩; exact (h.hd x a1).1 a2
  ·rintro ⟨a1,a2⟩;have hux : Us M x:=by
    rcases hl_mem a2 with rfl | ⟨hm,rfl⟩
    ·exact (h.xs hb hup (by omega) h12).2.1
    ·exact (h.xa hb hup (by omega) h12 (h.ns h1 hb (by omega) h12 hm)).2.1.1
   exact ⟨hux,(h.hd x hux).2 ⟨a1,a2⟩⟩
 case l4=>intro _ q; have : k.next<=4\/k.next = 13:=q; omega
 case l5=>intro _ q; have : k.next = 5:=q; omega
 case l6=>intro _ _ _; show k.locks = (hl M' k).length; rw [hhl,k9]; exact h.l6 hb h6 h12
 case ky=>intro _ q; show 0<=k.key/\k.key<=_; rw [k2]; exact h.ky hb (by rw [<- k1]; exact q)
 case hi=>intro _ q; have : k.kind = 4:=q; omega
 case lk=>intro _ q; have : k.kind = 4:=q; omega
 case l3=>intro _ q; show k.links = []; rw [k10]; exact h.l3 hb (by rw [<- k1]; exact q)
 case m7=>exact fun _=>m7
 case xs =>
  intro _ _ _ _;obtain ⟨q1,q2⟩:=h.xs hb hup (by omega) h12
  have:=f.gn _ q1.z
  show Wk g' M' c' ts' k.key k.stand/\Safe M' r i k.time k.stand;rw [k2,k4,k5];exact ⟨f.wk q1,q2.rely htm.1 this.1 this.2.2.2.2.2⟩
 case xa =>
  intro _ _ _ _ hs;have hs' : t.work.stand≠0:=by rw [<- k5]; exact hs
  obtain ⟨q1,q2,q3⟩:=h.xa hb hup (by omega) h12 hs';have e1:=f.gn _ q1.z;have e2:=f.gn _ (h.xs hb hup (by omega) h12).1.z;show Wk g' M' c' ts' k.key k.above/\Safe M' r i k.time k.above/\g'.B k.above < g'.B k.stand;rw [k2,k4,k5,k8];exact ⟨f.wk q1,q2.rely htm.1 e1.1 e1.2.2.2.2.2,by rw [e1.2.2.2.1,e2.2.2.2.1]; exact q3⟩
 case cs =>
  intro _ _ _;obtain ⟨q1,q2,q3,q4⟩:=h.cs hb (by omega) h12;have e1:=f.gn _ (.inr q1);show Gd g' c' ts' k.ahead/\Safe M' r i k.time k.ahead/\Ln M' k.ahead = 0/\(k.stand = 0->k.ahead = 1);rw [k4,k5,k7];exact ⟨f.ga _ q1,q2.rely htm.1 e1.1 e1.2.2.2.2.2,by rw [e1.2.2.1]; exact q3,q4⟩
 case n9=>exact fun _=>n9
 case c7=>exact fun _=>c7
 case e7=>exact fun _=>e7
 case tt=>exact fun _=>tt
 case f8=>exact fun _=>f8
 case f10=>exact fun _=>f10
 case q8=>exact fun _=>q8
 case q9=>exact fun _=>q9
 case p11=>exact fun _=>p11
 case s9=>exact fun _=>s9
theorem Inv.groSame (h : Inv g P) (hs : Same P.ts ts') (i : Nat) : Gro g g P.mem P.mem P.clock P.clock P.ts ts' i :=
 ⟨Int.le_refl _,fun x hx=>(hs.gd x).2 hx,fun _ hx=>⟨h.usedGd hx,rfl,rfl,rfl,fun _ q=>q,fun q=>.inl ⟨q,rfl⟩⟩,fun _ hu=>⟨fun h=>⟨hu,h⟩,fun h=>h.2⟩⟩
theorem Inv.settle (h : Inv g P) (ht : P.ts[i]? = some t) (hb : t.busy = true) (hn : t.work.next = 6\/t.work.next = 7) {a : BAns} (hd : a.did = false) : Inv g (P.setW i (t.work.settle a)):=by
 have hT:=h.th i t ht;rw [setW_to P ht];have h12 : (t.work.settle a).next = 12:=rfl
 have hct : Calm t:=calm7 fun _=>by omega
 have hct' : Calm { t with work:=t.work.settle a }:=fun _ _=>.inr (.inr ⟨h12,by rintro ⟨_,h2⟩; have : a.did = true:=h2; rw [hd] at this; cases this⟩)
 refine h.calm ht hct hct' ?_;refine hT.own h.n.one.1 hb (by omega) (by omega) (h.groSame (Same.calm ht hct hct') i) ⟨rfl,rfl,rfl,rfl,rfl,rfl,rfl,rfl,rfl⟩ (by rw [h12]; omega) (by rw [h12]; omega) ?_ ?_ ?_ ?_ ?_ ?_ ?_ ?_ ?_ ?_ ?_
 all_goals (rw [h12])
 ·omega
 ·omega
 ·omega
 ·omega
 ·omega
 ·intros; omega
 ·intros; omega
 ·intros; omega
 ·rintro _ (h2 | h2 | h2 | h2)
  ·omega
  ·omega
  ·omega
  ·have : a.did = true:=h2.2; rw [hd] at this; cases this
 ·omega
 ·omega
theorem Inv.outd (h : Inv g P) (ht : P.ts[i]? = some t) (hb : t.busy = true) (h5 : 5<=t.work.next) (h12 : t.work.next<=12) : P.outdated t.work = true ↔ ¬ ((P.mem.node t.work.stand).dead = false/\Ld P.mem t.work.stand (sd P.mem t.work.stand t.work.key) = t.work.ahead/\(Mt P.mem t.work->(P.mem.node t.work.above).dead = false/\Ld P.mem t.work.above (sd P.mem t.work.above t.work.key) = t.work.stand)):=by
 have hT:=h.th i t ht;have hk:=hT.upd hb h5 h12;have l1:=h.leads (hT.xs hb hk (by omega) h12).1.sn t.work.key;unfold PSt.outdated PSt.asFound;rw [l1,if_neg (show ¬ P.kind = 0 by rw [h.kind]; decide),Inv.takes];by_cases hm : Mt P.mem t.work
 ·have l2:=h.leads (hT.xa hb hk (by omega) h12 (hT.ns h.n.one.1 hb h5 h12 hm)).1.sn t.work.key;rw [l2];simp only [hm,decide_true,Bool.true_and,forall_const];cases (P.mem.node t.work.stand).dead <;> cases (P.mem.node t.work.above).dead <;> simp <;> grind
 ·simp only [hm,decide_false,Bool.false_and,false_implies,and_true];cases (P.mem.node t.work.stand).dead <;> simp
theorem Inv.inTree (h : Inv g P) (ht : P.ts[i]? = some t) (hx : Us P.mem x) (hh : Ho P.mem x = i) (h8 : t.work.next<=8) (hd : (P.mem.node x).dead = false) : x = 0\/((g.V P.clock).Inn x/\∀ k,g.R x k->(g.V P.clock).Pth k x):=by
 rcases h.heldGd ht hx hh with e | ⟨e1,e2⟩
 ·exact .inl e
 ·right;rcases e2.1 with hO | hH
  ·exfalso;rcases h.n.ot x hO with q | ⟨j,u,hj,b,hk,hn,hu⟩
   ·simp only [De] at q; rw [hd] at q; cases q
   ·have hTj:=h.th j u hj;rcases hu with rfl | rfl
    ·have:=(hTj.hStand b (by omega) (by omega)).2
     have hij : i = j:=by rw [hh] at this; omega
     subst hij;rw [ht] at hj; injection hj with hj; subst hj
     omega
    ·have:=(hTj.cs b (by omega) (by omega)).2.2.1; omega
  ·rcases Tr.has_or hH with ⟨q,hq⟩ | ⟨q,w,hq⟩
   ·have hi:=Tr.nod_inn hq;exact ⟨hi,fun k hk=>(h.n.rg x k hi).1 hk⟩
   ·have:=(h.n.ag.l x q w hq).2.1; omega
theorem Inv.edge (h : Inv g P) (ht : P.ts[i]? = some t) (hx : Us P.mem x) (hh : Ho P.mem x = i) (h8 : t.work.next<=8) (hi : x = 0/\s = false\/(g.V P.clock).Inn x) : A (g.V P.clock) x s (Ld P.mem x s):=by
 obtain ⟨d,hd⟩ : ∃ d,A (g.V P.clock) x s d:=by
  rcases hi with ⟨rfl,rfl⟩ | hi
  ·exact ⟨_,Tr.ed_pl 0 false _⟩
  ·exact Tr.inn_ed 0 false s hi
 rcases h.n.lk x s d hd with e | ⟨j,u,hj,b,hk,hn,e1,e2⟩
 ·rw [e]; exact hd
 ·exfalso;have hTj:=h.th j u hj;have q:=(hTj.tt b (by omega) (by omega)).1;have : Ho P.mem x = j:=by
   rw [<- e1,q];split
   ·next hk2=>exact (hTj.hAbove h.n.one.1 b (by omega) (by omega) ⟨hk2,(hTj.c7 b (by omega) (by omega)).2 hk2⟩).2
   ·exact (hTj.hStand b (by omega) (by omega)).2
  have hij : i = j:=by rw [hh] at this; omega
  subst hij;rw [ht] at hj; injection hj with hj; subst hj
  omega
theorem Inv.check (h : Inv g P) (ht : P.ts[i]? = some t) (hb : t.busy = true) (hn : t.work.next = 6) : Inv g (P.check i t.work):=by
 have hT:=h.th i t ht;have hk:=hT.upd hb (by omega) (by omega);have htm:=hT.tm hb (by omega);have hsl:=hT.sl;rw [hn] at hsl;simp [hb] at hsl;have hout:=h.outd ht hb (by omega) (by omega);unfold PSt.check;by_cases ho : P.outdated t.work = true
 ·rw [if_pos ho,setMW_to P ht];refine h.unlocked ht (calm7 fun _=>by omega) (calm7 fun _=>.inl (by show 4<=7; omega)) ?_;refine Th.low (fun _=>.inl (by show 4<=4; omega)) hT.kd (fun _=>by show 1<=4/\4<=13; omega) (by simpa [hb,PWork.home] using hsl) (fun _ _=>htm) (fun x hx=>unlock_free _ _ _ (by omega) hx) (fun _=>rfl) hT.ky hT.hi (fun _ _ q=>by have : 4<=3:=q; omega) hT.l3 (fun _ _=>hT.m7 hb (by omega)) (fun _ _ _=>⟨.inl rfl,(h.safe0 htm.2 (.inl rfl)).hold (unlock_hold _ _)⟩) (fun _ _ _ q=>absurd rfl q)
 ·rw [if_neg ho];have hfi:=Classical.not_not.1 (fun hh=>ho (hout.2 hh));obtain ⟨f1,f2,f3⟩:=hfi;have hmk : P.meetsKey t.work = decide (Ky P.mem t.work.ahead = t.work.key):=by unfold PSt.meetsKey; rw [Bool.eq_iff_iff]; simp
  rw [hmk];by_cases hm : (decide (Ky P.mem t.work.ahead = t.work.key) == (t.work.kind == 1)) = true
  ·rw [if_pos hm];exact h.settle ht hb (.inl hn) rfl
  ·rw [if_neg hm];have hm' : Ky P.mem t.work.ahead = t.work.key ↔ t.work.kind = 2:=by
    rcases hk with e | e <;> rw [e] at hm ⊢ <;> by_cases q : Ky P.mem t.work.ahead = t.work.key <;> simp [q] at hm ⊢
   have hS:=hT.hStand hb (by omega) (by omega);have x0:=h.inTree ht hS.1 hS.2 (by omega) f1;have s0 : t.work.stand = 0->sd P.mem t.work.stand t.work.key = false:=fun e=>by rw [e]; exact sd0 h.n.n0.2.1 _
   have ed1:=h.edge (s:=sd P.mem t.work.stand t.work.key) ht hS.1 hS.2 (by omega) (by rcases x0 with e | e; exact .inl ⟨e,s0 e⟩; exact .inr e.1);rw [f2] at ed1;rw [setW_to P ht];have hct : Calm t:=calm7 fun _=>by omega
   have hct' : Calm { t with work:={ t.work with next:=7 } }:=calm7 fun _=>.inl (by show 7<=7; omega)
   refine h.calm ht hct hct' ?_;refine hT.own (k:={ t.work with next:=7 }) h.n.one.1 hb (by omega) (by omega) (h.groSame (Same.calm ht hct hct') i) ⟨rfl,rfl,rfl,rfl,rfl,rfl,rfl,rfl,rfl⟩ (by show 6<=7; omega) (by show 7<=12; omega) (fun _=>hT.m7 hb (by omega)) (fun q=>by have : 7 = 9:=q; omega) (fun _ _=>hm') ?_ (fun q=>by have : 8<=7:=q; omega) (fun _ q=>by have : 7 = 8:=q; omega) (fun _ q=>by have : 7 = 10:=q; omega) (fun _ q=>by have : 8<=7:=q; omega) (fun _ q=>by have : 7 = 9\/7 = 10\/7 = 11\/(7 = 12/\_):=q; omega) (fun q=>by have : 7 = 11:=q; omega) (fun q=>by have : 9<=7:=q; omega);intro _ _;refine ⟨ed1,f2,?_⟩;intro k2;have hM : Mt P.mem t.work:=⟨k2,hm'.2 k2⟩;obtain ⟨f4,f5⟩:=f3 hM;have hA:=hT.hAbove h.n.one.1 hb (by omega) (by omega) hM;have a0:=h.inTree ht hA.1 hA.2 (by omega) f4;have sa : t.work.above = 0->sd P.mem t.work.above t.work.key = false:=fun e=>by rw [e]; exact sd0 h.n.n0.2.1 _
   have ed2:=h.edge (s:=sd P.mem t.work.above t.work.key) ht hA.1 hA.2 (by omega) (by rcases a0 with e | e; exact .inl ⟨e,sa e⟩; exact .inr e.1);rw [f5] at ed2;exact ⟨ed2,f5⟩
theorem Inv.unlock0 (h : Inv g P) (ht : P.ts[i]? = some t) (hb : t.busy = true) (hn : t.work.next = 12) (hno : ¬ (t.work.kind = 2/\t.work.ans.did = true)) : Inv g { P with mem:=P.mem.unlock i,ts:=P.ts.set i { t with work:={ t.work with locks:=0,next:=13 } } }:=by
 have hT:=h.th i t ht;have hsl:=hT.sl;rw [hn] at hsl;simp [hb] at hsl;have hk:=hT.upd hb (by omega) (by omega);refine h.unlocked ht (fun _ _=>.inr (.inr ⟨hn,hno⟩)) (calm7 fun _=>.inr rfl) ?_;exact Th.low (fun _=>.inr rfl) hT.kd (fun _=>by show 1<=13/\13<=13; omega) (by simpa [hb] using hsl) (fun b _=>hT.tm b (by omega)) (fun x hx=>unlock_free _ _ _ (by omega) hx) (fun _=>rfl) hT.ky hT.hi (fun _ _ q=>by have : 13<=3:=q; omega) hT.l3 (fun _ q=>by have : 13<=7:=q; omega) (fun _ _ q=>by have : 13 = 4:=q; omega) (fun _ _ q=>by have : 13 = 4:=q; omega)
end
end T
end
section
namespace T
section
variable {g g' : Gh} {M M' : PMem} {c c' : Int} {r : PSweep} {i j : Nat} {t t' u : PThread} {ts ts' : List PThread} {P : PSt} {x : Int} {s : Bool} {key : Int} {k : PWork}
theorem Inv.build (h : Inv g P) (ht : P.ts[i]? = some t) (f : ∀ j u,j≠i->P.ts[j]? = some u->Rel g g' P.mem M' P.clock c' P.ts (P.ts.set i t') j u) (hw : Wm M') (hn : InvN g' M' c' P.sweep (P.ts.set i t')) (he : InvE M' c' (P.ts.set i t')) (ho : InvO M' c' P.sweep (P.ts.set i t')) (hth : Th g' M' c' P.sweep (P.ts.set i t') i t') : Inv g' { P with mem:=M',clock:=c',ts:=P.ts.set i t' }:=by
 have hi:=(List.getElem?_eq_some_iff.1 ht).1;refine ⟨h.kind,hw,hn,he,ho,?_⟩;intro j u hj;rw [List.getElem?_set] at hj;by_cases ej : i = j
 ·subst ej; simp [hi] at hj; subst hj; exact hth
 ·rw [if_neg ej] at hj;exact (h.th j u hj).rely h.n.one.1 (f j u (fun e=>ej e.symm) hj)
structure Mine (g : Gh) (P : PSt) (i : Nat) (t : PThread) : Prop where
 kd : t.work.kind = 1\/t.work.kind = 2
 us : Us P.mem t.work.stand
 hs : Ho P.mem t.work.stand = i
 ah : Gd g P.clock P.ts t.work.ahead
 al : Ln P.mem t.work.ahead = 0
 a0 : t.work.ahead≠0
 mt : t.work.kind = 2->t.work.next<=11\/t.work.ans.did = true->Mt P.mem t.work
 ab : Mt P.mem t.work->Us P.mem t.work.above/\Ho P.mem t.work.above = i/\t.work.stand≠0/\t.work.above≠t.work.stand/\Ln P.mem t.work.stand = 2
 ts : t.work.next<=11->8<=t.work.next->Us P.mem t.work.tsrc/\Ho P.mem t.work.tsrc = i/\t.work.tsrc≠t.work.ahead/\t.work.tside = sd P.mem t.work.tsrc t.work.key/\(t.work.kind = 1->t.work.tsrc = t.work.stand)/\(t.work.kind = 2->t.work.tsrc = t.work.above)
theorem Inv.mine (h : Inv g P) (ht : P.ts[i]? = some t) (hb : t.busy = true) (h7 : 7<=t.work.next) (h12 : t.work.next<=12) : Mine g P i t:=by
 have hT:=h.th i t ht;have hk:=hT.upd hb (by omega) h12;have h1:=h.n.one.1;obtain ⟨c1,c2,c3,c4⟩:=hT.cs hb (by omega) h12;have a0 : t.work.ahead≠0:=fun e=>h.gd0 (e ▸ c1)
 have hS:=hT.hStand hb (by omega) h12;have mt : t.work.kind = 2->t.work.next<=11\/t.work.ans.did = true->Mt P.mem t.work:=by
  intro k2 hn;by_cases h11 : t.work.next<=11
  ·exact ⟨k2,(hT.c7 hb h7 h11).2 k2⟩
  ·exact ⟨k2,(hT.q9 hb k2 (.inr (.inr (.inr ⟨by omega,by rcases hn with q | q; omega; exact q⟩)))).1.ky⟩
 have hh : ∀ x,Us P.mem x->Ho P.mem x = i->x≠t.work.ahead:=by
  intro x hu hx e;rcases h.heldGd ht hu hx with q | q
  ·exact a0 (e.symm.trans q)
  ·rw [e,c3] at q; omega
 refine ⟨hk,hS.1,hS.2,c1,c3,a0,mt,?_,?_⟩
 ·intro hm;have hA:=hT.hAbove h1 hb (by omega) h12 hm;have hz:=hT.ns h1 hb (by omega) h12 hm;refine ⟨hA.1,hA.2,hz,hT.sap h1 hb (by omega) h12 hm,?_⟩;rcases (hT.xs hb hk (by omega) h12).1 with e | e
  ·exact absurd e hz
  ·exact e.1
 ·intro h11 h8;obtain ⟨q1,q2⟩:=hT.tt hb h8 h11;by_cases k2 : t.work.kind = 2
  ·rw [if_pos k2] at q1;have hA:=hT.hAbove h1 hb (by omega) h12 (mt k2 (.inl h11));rw [q1];exact ⟨hA.1,hA.2,hh _ hA.1 hA.2,by rw [<- q1]; exact q2,by omega,fun _=>rfl⟩
  ·rw [if_neg k2] at q1;rw [q1];exact ⟨hS.1,hS.2,hh _ hS.1 hS.2,by rw [<- q1]; exact q2,fun _=>rfl,by omega⟩
theorem Inv.notOther (h : Inv g P) (_ht : P.ts[i]? = some t) (hj : P.ts[j]? = some u) (hne : j≠i) (hx : Us P.mem x/\Ho P.mem x = i) : ¬ ((Us P.mem x/\Ho P.mem x = j)\/Fr x u):=by
 rintro (q | q)
 ·rw [hx.2] at q; omega
 ·have:=(h.freshUs hj q).2.2
  rw [hx.2] at this; omega
theorem Inv.leafNot (h : Inv g P) (hj : P.ts[j]? = some u) (hx : Gd g P.clock P.ts x) (hl : Ln P.mem x = 0) : ¬ ((Us P.mem x/\Ho P.mem x = j)\/Fr x u):=by
 rintro (q | q)
 ·rcases h.heldGd hj q.1 q.2 with e | e
  ·exact h.gd0 (e ▸ hx)
  ·omega
 ·exact hx.2 ⟨j,u,hj,q⟩
theorem Inv.freshNot (h : Inv g P) (ht : P.ts[i]? = some t) (hj : P.ts[j]? = some u) (hne : j≠i) (hx : Fr x t) : ¬ ((Us P.mem x/\Ho P.mem x = j)\/Fr x u):=by
 rintro (q | q)
 ·have:=(h.freshUs ht hx).2.2
  rw [q.2] at this; omega
 ·exact hne (h.o.pw j i u t x hj ht q hx)
theorem Inv.pairNot (h : Inv g P) (ht : P.ts[i]? = some t) (hj : P.ts[j]? = some u) {y z : Int} (hp : Pair y z u) : ¬ (Us P.mem z/\Ho P.mem z = i)/\¬ Fr z t/\Gd g P.clock P.ts z/\Ln P.mem z = 0/\g.O z/\Us P.mem z:=by
 obtain ⟨b,hk,hn,e1,e2⟩:=hp;have hT:=h.th j u hj;obtain ⟨c1,c2,c3,c4⟩:=hT.cs b (by omega) (by omega);rw [e2] at c1 c2 c3;have ho:=(hT.q9 b hk hn).1.o.2;rw [e2] at ho;refine ⟨?_,?_,c1,c3,ho,c2.1⟩
 ·rintro ⟨h1,h2⟩;rcases h.heldGd ht h1 h2 with e | e
  ·exact h.gd0 (e ▸ c1)
  ·omega
 ·intro hf; exact c1.2 ⟨i,t,ht,hf⟩
theorem Inv.rel (h : Inv g P) (hj : P.ts[j]? = some u) (hfr : ∀ x,Ex ts' (Fr x)->Ex P.ts (Fr x)\/¬ Us P.mem x)
  (gn : ∀ x,x = 0\/Gd g P.clock P.ts x->Us M' x/\Ky M' x = Ky P.mem x/\Ln M' x = Ln P.mem x/\(Re M' x->(Re P.mem x/\Ra M' x = Ra P.mem x)\/P.clock<=Ra M' x))
  (gb : ∀ x,(Us P.mem x/\Ho P.mem x = j)\/Fr x u->M'.node x = P.mem.node x/\(∀ s,Pd M' x s = Pd P.mem x s)/\(∀ s st d,Sd M' x s st d->Sd P.mem x s st d))
  (gp : ∀ x y,Pair x y u->M'.node y = P.mem.node y)
  (gc : ∀ x,Us M' x->(Ho M' x = j ↔ Us P.mem x/\Ho P.mem x = j)) : Rel g g P.mem M' P.clock P.clock P.ts ts' j u:=by
 refine ⟨Int.le_refl _,?_,?_,fun _ h=>h,?_,?_,gp,gc,h.n.gt.z⟩
 ·intro x hx;refine ⟨hx.1,fun hh=>?_⟩;rcases hfr x hh with q | q
  ·exact hx.2 q
  ·exact q (h.usedGd (.inr hx))
 ·intro x hx;obtain ⟨a1,a2,a3,a4⟩:=gn x hx;exact ⟨a1,a2,a3,rfl,fun _ h=>h,a4⟩
 ·intro x hx;obtain ⟨a1,a2,a3⟩:=gb x hx;exact ⟨a1,a2,a3,fun _ _ h=>h,rfl⟩
 ·rintro x ⟨b,hk,hn,hm⟩;obtain ⟨a,n,q⟩:=(h.th j u hj).f8 b hk hn;rw [q.md] at hm
  have:=q.h
  simp at hm; grind
theorem InvO.keep (h : InvO M c r ts) (ht : ts[i]? = some t) (hc : c<=c') (h1 : ∀ x,Fr x t'->Fr x t\/∀ (j : Nat) u,ts[j]? = some u->¬ Fr x u) (h2 : ∀ x y,Pair x y t'->Pair x y t\/∀ (j : Nat) u x',ts[j]? = some u->¬ Pair x' y u)
  (hu : ∀ x,Us M' x->Ho M' x = -1\/(Us M x/\Ho M' x = Ho M x)) (hr : ∀ x,InSw r x->Re M x->Re M' x/\Ra M' x = Ra M x) : InvO M' c' r (ts.set i t'):=by
 have hi:=(List.getElem?_eq_some_iff.1 ht).1;obtain ⟨ho,pw,pq,sw,sc,sm,sz⟩:=h;refine ⟨?_,?_,?_,?_,by omega,by simpa using sm,sz⟩
 ·intro x hx;rcases hu x hx with q | ⟨q1,q2⟩
  ·exact .inl q
  ·rw [q2,List.length_set]; exact ho x q1
 ·intro a b u v x ha hb hu hv;rw [List.getElem?_set] at ha hb
  have:=h1 x
  grind
 ·intro a b u v x x' y ha hb hu hv;rw [List.getElem?_set] at ha hb
  have:=h2 x y
  have:=h2 x' y
  grind
 ·intro x hx
  have:=sw x hx
  have:=hr x hx this.1
  grind
end
end T
end
section
namespace T
section
variable {g g' : Gh} {M M' : PMem} {c c' : Int} {r : PSweep} {i j : Nat} {t t' u : PThread} {ts ts' : List PThread} {P : PSt} {x : Int} {s : Bool} {key : Int} {k : PWork}
theorem kill_node (M : PMem) {n : Int} (hn : M.hasNode n = true) (x : Int) : (M.kill n).node x = if x = n then { M.node n with dead:=true } else M.node x:=node_modN hn _ x
theorem kills_two {M : PMem} {a b : Int} (ha : Us M a) (hb : Us M b) (hw : Wm M) : Wm (M.kills [a,b])/\(M.kills [a,b]).es = M.es/\∀ x,(M.kills [a,b]).node x = { M.node x with dead:=(M.node x).dead || decide (x = a\/x = b) }:=by
 show Wm ((M.kill a).kill b)/\((M.kill a).kill b).es = M.es/\_;have h1 : ∀ x,(M.kill a).node x = { M.node x with dead:=(M.node x).dead || decide (x = a) }:=by
  intro x;rw [kill_node M (hasN_used ha)];split
  ·next e=>subst e; simp
  ·next e=>simp [e]
 have hb' : Us (M.kill a) b:=by simp only [Us]; rw [h1]; exact hb
 refine ⟨?_,?_,?_⟩
 ·refine Wm.modN (Wm.modN hw ha _ ha) hb' _ ?_;exact hb'
 ·show ((M.kill a).modN b _).es = _;rw [modN_ents]; exact modN_ents _ _ _
 ·intro x;show ((M.kill a).kill b).node x = _;rw [kill_node _ (hasN_used hb'),h1,h1];split
  ·next e=>subst e; simp
  ·next e=>simp [e]
theorem Inv.kill (h : Inv g P) (ht : P.ts[i]? = some t) (hb : t.busy = true) (hn : t.work.next = 9) : Inv g { P with mem:=P.mem.kills (P.takenOut t.work),ts:=P.ts.set i { t with work:={ t.work with next:=10 } } }:=by
 have hT:=h.th i t ht;have k2:=hT.n9 hb hn;have m:=h.mine ht hb (by omega) (by omega);obtain ⟨q,_⟩:=hT.q9 hb k2 (.inl hn);have hM:=m.mt k2 (.inl (by omega));have hA:=m.ab hM;have hto : P.takenOut t.work = [t.work.ahead,t.work.stand]:=by unfold PSt.takenOut; rw [if_pos h.kind]
 rw [hto];obtain ⟨w1,w2,w3⟩:=kills_two (a:=t.work.ahead) (b:=t.work.stand) (h.usedGd (.inr m.ah)) m.us h.wm;generalize P.mem.kills [t.work.ahead,t.work.stand] = M1 at *;have u1 : ∀ x,(M1.node x).used = (P.mem.node x).used:=fun x=>by rw [w3]
 have u2 : ∀ x,(M1.node x).retired = (P.mem.node x).retired:=fun x=>by rw [w3]
 have u3 : ∀ x,(M1.node x).retiredAt = (P.mem.node x).retiredAt:=fun x=>by rw [w3]
 have u4 : ∀ x,(M1.node x).key = (P.mem.node x).key:=fun x=>by rw [w3]
 have u5 : ∀ x,(M1.node x).leads = (P.mem.node x).leads:=fun x=>by rw [w3]
 have u6 : ∀ x,(M1.node x).links = (P.mem.node x).links:=fun x=>by rw [w3]
 have u7 : ∀ x,(M1.node x).value = (P.mem.node x).value:=fun x=>by rw [w3]
 have u8 : ∀ x,(M1.node x).holder = (P.mem.node x).holder:=fun x=>by rw [w3]
 have u9 : ∀ x,De M1 x ↔ De P.mem x\/x = t.work.ahead\/x = t.work.stand:=fun x=>by simp only [De]; rw [w3]; simp
 have usd : ∀ x k,sd M1 x k = sd P.mem x k:=fun x k=>sd_congr (u4 x) (u6 x)
 have hpd:=fun x s=>pd_es (M:=P.mem) (M':=M1) w2 x s
 have hsd:=fun x s st d=>sd_es (M:=P.mem) (M':=M1) w2 x s st d
 have fr8 : ∀ x,Ex (P.ts.set i { t with work:={ t.work with next:=10 } }) (Fr8 x) ↔ Ex P.ts (Fr8 x):=fun x=>ex_iff ht (iff_of_false (by rintro ⟨_,_,e,_⟩; have : (10 : Nat) = 8:=e; omega) (by rintro ⟨_,_,e,_⟩; omega))
 have fr : ∀ x,Ex (P.ts.set i { t with work:={ t.work with next:=10 } }) (Fr x) ↔ Ex P.ts (Fr x):=fun x=>ex_iff ht (iff_of_false (by rintro ⟨_,e,_⟩; have : t.work.kind = 1:=e; omega) (by rintro ⟨_,e,_⟩; omega))
 have pair : ∀ x y,Ex (P.ts.set i { t with work:={ t.work with next:=10 } }) (Pair x y) ↔ Ex P.ts (Pair x y):=fun x y=>ex_iff ht ⟨fun ⟨a1,a2,a3,a4⟩=>⟨a1,a2,.inl hn,a4⟩,fun ⟨a1,a2,a3,a4⟩=>⟨a1,a2,.inr (.inl rfl),a4⟩⟩
 have xl : ∀ x s,Ex (P.ts.set i { t with work:={ t.work with next:=10 } }) (Xl x s) ↔ Ex P.ts (Xl x s):=fun x s=>ex_iff ht ⟨fun ⟨a1,a2,a3,a4⟩=>⟨a1,a2,.inl hn,a4⟩,fun ⟨a1,a2,a3,a4⟩=>⟨a1,a2,.inr rfl,a4⟩⟩
 have pn : ∀ x s,Ex (P.ts.set i { t with work:={ t.work with next:=10 } }) (fun t=>Pn x s t\/Fr8 x t) ↔ Ex P.ts (fun t=>Pn x s t\/Fr8 x t):=by
  intro x s;refine ex_iff ht ⟨?_,?_⟩
  ·rintro (⟨a1,a2,a3,a4,a5⟩ | ⟨_,_,e,_⟩)
   ·exact .inl ⟨a1,a2,by omega,by omega,a5⟩
   ·have : (10 : Nat) = 8:=e; omega
  ·rintro (⟨a1,a2,a3,a4,a5⟩ | ⟨_,_,e,_⟩)
   ·exact .inl ⟨a1,a2,by show 8<=10; omega,by show 10<=11; omega,a5⟩
   ·omega
 have hgd : ∀ x,Gd g P.clock (P.ts.set i { t with work:={ t.work with next:=10 } }) x ↔ Gd g P.clock P.ts x:=fun x=>by unfold Gd; rw [fr]
 refine h.build (c':=P.clock) ht ?_ w1 ?_ ?_ ?_ ?_
 ·-- the others
  intro j u hne hj;have nd : ∀ x,(Us P.mem x/\Ho P.mem x = j)\/Fr x u->M1.node x = P.mem.node x:=by
   intro x hx;have e1 : x≠t.work.ahead:=fun e=>h.leafNot hj m.ah m.al (e ▸ hx)
   have e2 : x≠t.work.stand:=fun e=>h.notOther ht hj hne ⟨m.us,m.hs⟩ (e ▸ hx)
   rw [w3]; simp [e1,e2]
  refine h.rel hj (fun x hx=>.inl ((fr x).1 hx)) ?_ ?_ ?_ ?_
  ·intro x hx;simp only [Us,Ky,Ln,Re,Ra,u1,u2,u3,u4,u6];exact ⟨h.usedGd hx,trivial,trivial,fun hr=>.inl ⟨hr,trivial⟩⟩
  ·intro x hx;exact ⟨nd x hx,fun s=>hpd x s,fun s st d=>(hsd x s st d).1⟩
  ·intro x y hp;have e2 : y≠t.work.stand:=fun e=>(h.pairNot ht hj hp).1 (e ▸ ⟨m.us,m.hs⟩)
   have e1 : y≠t.work.ahead:=fun e=>hne (h.o.pq j i u t x t.work.stand y hj ht hp ⟨hb,k2,.inl hn,rfl,e.symm⟩)
   rw [w3]; simp [e1,e2]
  ·intro x hx;simp only [Us,Ho,u1,u8] at hx ⊢;exact ⟨fun h=>⟨hx,h⟩,fun h=>h.2⟩
 ·-- the nodes
  obtain ⟨gt,⟨ag1,ag2⟩,n0,tn,us,ou,od,ot,re,ro,lk,ph,pr,pp,rg,bd⟩:=h.n;have hOs : g.O t.work.stand/\g.O t.work.ahead:=q.o;refine ⟨gt,⟨?_,?_⟩,?_,?_,?_,?_,?_,?_,?_,?_,?_,?_,?_,?_,rg,bd⟩
  ·simp only [Us,Ln,Ky,u1,u4,u6] at *; exact ag1
  ·simp only [Us,Ln,Ky,u1,u4,u6,u7] at *; exact ag2
  ·refine ⟨by simp only [Us,u1]; exact n0.1,by simp only [Ln,u6]; exact n0.2.1,?_,by rw [u2]; exact n0.2.2.2⟩
   have:=u9 0
   have e1:=m.a0; have e2:=hA.2.2.1
   have:=n0.2.2.1
   simp only [De] at *
   grind
  ·intro x hx;rw [u2];refine ⟨?_,(tn x hx).2⟩;have e1:=(ou _ hOs.1).2.1; have e2:=(ou _ hOs.2).2.1
   have:=u9 x; have:=tn x hx
   simp only [De] at *
   grind
  ·intro x hx;simp only [Us,u1] at hx;rw [fr8]; exact us x hx
  ·intro x hx;simp only [Us,Ln,u1,u6]; exact ou x hx
  ·intro x hx;rcases (u9 x).1 hx with e | e | e
   ·exact od x e
   ·rw [e]; exact hOs.2
   ·rw [e]; exact hOs.1
  ·intro x hx;rcases ot x hx with e | e
   ·exact .inl ((u9 x).2 (.inl e))
   ·rcases e.or ht with ⟨_,_,_,e⟩ | ⟨j,u,e1,e2,e3⟩
    ·exact .inl ((u9 x).2 (by rcases e with e | e; exact .inr (.inr e); exact .inr (.inl e)))
    ·exact .inr (Ex.other e2 e3 e1)
  ·intro x hx;simp only [Re,Ra,u2,u3] at hx ⊢
   have:=re x hx
   exact ⟨(u9 x).2 (.inl this.1),this.2⟩
  ·intro x hx;simp only [Re,u2];rcases (u9 x).1 hx with e | e
   ·rcases ro x e with e | e
    ·exact .inl e
    ·exact .inr (e.set ht (fun ⟨a1,a2,a3,a4⟩=>⟨a1,a2,.inl rfl,a4⟩))
   ·exact .inr (Ex.new ht ⟨hb,k2,.inl rfl,by rcases e with e | e; exact .inr e; exact .inl e⟩)
  ·intro x s d hd;simp only [Ld,u5]; rw [xl]; exact lk x s d hd
  ·intro x s;simp only [Ld,Ln,Re,Ra,u5,u6,u2,u3,hgd] at *; exact ph x s
  ·intro x s k;simp only [Ld,Ln,u5,u6,usd,hgd] at *; exact pr x s k
  ·intro x s;simp only [Ld,Ln,Re,u5,u6,u2,pair] at *; exact pp x s
 ·refine ⟨?_,?_⟩
  ·intro x s st d hd;simp only [Us,Ln,u1,u6]; exact h.e.ms x s st d ((hsd _ _ _ _).1 hd)
  ·intro x s d hd;rw [hpd] at hd;exact (pn x s).2 (h.e.pd x s d hd)
 ·refine h.o.keep ht (Int.le_refl _) (fun x hx=>?_) (fun x y hx=>?_) ?_ ?_
  ·obtain ⟨_,e,_⟩:=hx; have : t.work.kind = 1:=e; omega
  ·obtain ⟨a1,a2,a3,a4⟩:=hx; exact .inl ⟨a1,a2,.inl hn,a4⟩
  ·intro x hx; simp only [Us,Ho,u1,u8] at hx ⊢; exact .inr ⟨hx,trivial⟩
  ·intro x _ hr; simp only [Re,Ra,u2,u3] at *; exact ⟨hr,trivial⟩
 ·have hq8:=hT.q8 hb k2 (by omega) (by omega);have hs9:=hT.s9 hb (by omega) (by omega);have htt:=hT.tt hb (by omega) (by omega);refine hT.own (k:={ t.work with next:=10 }) h.n.one.1 hb (by omega) (by omega) ?_ ⟨rfl,rfl,rfl,rfl,rfl,rfl,rfl,rfl,rfl⟩ (by show 6<=10; omega) (by show 10<=12; omega) (fun e=>by have : 10<=7:=e; omega) (fun e=>by have : 10 = 9:=e; omega) ?_ (fun _ e=>by have : 10<=8:=e; omega) ?_ (fun _ e=>by have : 10 = 8:=e; omega) (fun e=>by have : t.work.kind = 1:=e; omega) ?_ ?_ (fun e=>by have : 10 = 11:=e; omega) ?_
  ·refine ⟨Int.le_refl _,fun x hx=>(hgd x).2 hx,?_,?_⟩
   ·intro x hx;simp only [Us,Ky,Ln,Re,Ra,u1,u2,u3,u4,u6];exact ⟨h.usedGd hx,trivial,trivial,trivial,fun _ h=>h,fun hr=>.inl ⟨hr,trivial⟩⟩
   ·intro x hx;simp only [Us,Ho,u1,u8] at hx ⊢;exact ⟨fun h=>⟨hx,h⟩,fun h=>h.2⟩
  ·intro _ _; simp only [Ky,u4]; exact hT.c7 hb (by omega) (by omega)
  ·intro _ _; simp only [usd]; exact htt
  ·intro _ _ _; simp only [usd,hpd,Ld,u5]; exact hq8
  ·intro _ _;refine ⟨⟨q.o,?_,?_,?_,?_,?_⟩,fun _=>⟨(u9 _).2 (.inr (.inr rfl)),(u9 _).2 (.inr (.inl rfl))⟩⟩
   ·simp only [u2]; exact q.re
   ·simp only [usd,Ld,u5]; exact q.ld
   ·simp only [usd,Ld,u5]; exact q.a
   ·simp only [Ky,u4]; exact q.ky
   ·simp only [Ln,u6]; exact q.ln
  ·intro _ _; exact ⟨hs9.1,hs9.2.1,hs9.2.2.1,hs9.2.2.2.1,fun s d hh=>hs9.2.2.2.2 s d ((hsd _ _ _ _).1 hh)⟩
end
end T
end
section
namespace T
section
variable {g g' : Gh} {M M' : PMem} {c c' : Int} {r : PSweep} {i j : Nat} {t t' u : PThread} {ts ts' : List PThread} {P : PSt} {x : Int} {s : Bool} {key : Int} {k : PWork}
theorem node_ns {M M' : PMem} (h : M'.ns = M.ns) (x : Int) : M'.node x = M.node x:=by unfold PMem.node PMem.hasNode; rw [h]
theorem InvN.same (h : InvN g M c r ts) (hn : ∀ x,M'.node x = M.node x) (s1 : ∀ x,Ex ts' (Fr8 x) ↔ Ex ts (Fr8 x)) (s2 : ∀ x,Ex ts' (Fr x) ↔ Ex ts (Fr x)) (s3 : ∀ x,Ex ts' (Tk x) ↔ Ex ts (Tk x)) (s4 : ∀ x,Ex ts' (Own x) ↔ Ex ts (Own x)) (s5 : ∀ x y,Ex ts' (Pair x y) ↔ Ex ts (Pair x y)) (s6 : ∀ x s,Ex ts' (Xl x s) ↔ Ex ts (Xl x s)) : InvN g M' c r ts':=by
 have hgd : ∀ x,Gd g c ts' x ↔ Gd g c ts x:=fun x=>by unfold Gd; rw [s2]
 have hsd : ∀ x k,sd M' x k = sd M x k:=fun x k=>sd_congr (by simp only [Ky]; rw [hn]) (by simp only [Ln]; rw [hn])
 obtain ⟨gt,⟨ag1,ag2⟩,n0,tn,us,ou,od,ot,re,ro,lk,ph,pr,pp,rg,bd⟩:=h;refine ⟨gt,⟨?_,?_⟩,?_,?_,?_,?_,?_,?_,?_,?_,?_,?_,?_,?_,rg,bd⟩ <;> simp only [Us,De,Re,Ra,Ky,Ld,Ln,hn,hgd,hsd,s1,s2,s3,s4,s5,s6] at * <;> assumption
theorem Inv.pdOwn (h : Inv g P) (ht : P.ts[i]? = some t) (hb : t.busy = true) (h8 : 8<=t.work.next) (h11 : t.work.next<=11) : ∃ d,Pd P.mem t.work.tsrc t.work.tside = [d]:=by
 have hT:=h.th i t ht;obtain ⟨q1,q2⟩:=hT.tt hb h8 h11;rcases hT.upd hb (by omega) (by omega) with hk | hk
 ·rw [if_neg (by omega)] at q1;rw [q2,q1];rcases (show t.work.next = 8\/t.work.next = 9\/t.work.next = 10\/t.work.next = 11 by omega) with e | e | e | e
  ·obtain ⟨a,n,q⟩:=hT.f8 hb hk e; exact ⟨n,q.ps⟩
  ·have:=hT.n9 hb e; omega
  ·obtain ⟨a,n,q⟩:=hT.f10 hb hk e; exact ⟨n,q.ps⟩
  ·have:=hT.p11 hb e; rw [q2,q1] at this; exact ⟨_,this⟩
 ·rw [if_pos hk] at q1;rw [q2,q1];rcases (show t.work.next<=10\/t.work.next = 11 by omega) with e | e
  ·exact ⟨_,(hT.q8 hb hk h8 e).1⟩
  ·have:=hT.p11 hb e; rw [q2,q1] at this; exact ⟨_,this⟩
theorem Inv.stamp (h : Inv g P) (ht : P.ts[i]? = some t) (hb : t.busy = true) (hn : t.work.next = 11) : Inv g { P with mem:=P.mem.stamp t.work.tsrc t.work.tside t.work.ans.stamp,ts:=P.ts.set i { t with work:={ t.work with next:=12 } } }:=by
 have hT:=h.th i t ht;have m:=h.mine ht hb (by omega) (by omega);obtain ⟨d0,hp⟩:=h.pdOwn ht hb (by omega) (by omega);obtain ⟨m1,m2,m3,m4,m5,m6⟩:=m.ts (by omega) (by omega);obtain ⟨s1,s2,s3,s4,s5⟩:=hT.s9 hb (by omega) (by omega);obtain ⟨w1,w2,w3,w4⟩:=stamp_e t.work.ans.stamp h.wm hp;have hnd:=node_ns w1;generalize P.mem.stamp t.work.tsrc t.work.tside t.work.ans.stamp = M1 at *;have usd : ∀ x k,sd M1 x k = sd P.mem x k:=fun x k=>sd_congr (by simp only [Ky]; rw [hnd]) (by simp only [Ln]; rw [hnd])
 have fr8 : ∀ x,Ex (P.ts.set i { t with work:={ t.work with next:=12 } }) (Fr8 x) ↔ Ex P.ts (Fr8 x):=fun x=>ex_iff ht (iff_of_false (by rintro ⟨_,_,e,_⟩; have : (12 : Nat) = 8:=e; omega) (by rintro ⟨_,_,e,_⟩; omega))
 have fr : ∀ x,Ex (P.ts.set i { t with work:={ t.work with next:=12 } }) (Fr x) ↔ Ex P.ts (Fr x):=fun x=>ex_iff ht (iff_of_false (by rintro ⟨_,_,e,_⟩; have : (12 : Nat) = 8\/(12 : Nat) = 10:=e; omega) (by rintro ⟨_,_,e,_⟩; omega))
 have tk : ∀ x,Ex (P.ts.set i { t with work:={ t.work with next:=12 } }) (Tk x) ↔ Ex P.ts (Tk x):=fun x=>ex_iff ht (iff_of_false (by rintro ⟨_,_,e,_⟩; have : (12 : Nat) = 9:=e; omega) (by rintro ⟨_,_,e,_⟩; omega))
 have own : ∀ x,Ex (P.ts.set i { t with work:={ t.work with next:=12 } }) (Own x) ↔ Ex P.ts (Own x):=fun x=>ex_iff ht ⟨fun ⟨a1,a2,a3,a4⟩=>⟨a1,a2,.inr (.inl hn),a4⟩,fun ⟨a1,a2,a3,a4⟩=>⟨a1,a2,.inr (.inr ⟨rfl,s1⟩),a4⟩⟩
 have pair : ∀ x y,Ex (P.ts.set i { t with work:={ t.work with next:=12 } }) (Pair x y) ↔ Ex P.ts (Pair x y):=fun x y=>ex_iff ht ⟨fun ⟨a1,a2,a3,a4⟩=>⟨a1,a2,.inr (.inr (.inl hn)),a4⟩,fun ⟨a1,a2,a3,a4⟩=>⟨a1,a2,.inr (.inr (.inr ⟨rfl,s1⟩)),a4⟩⟩
 have xl : ∀ x s,Ex (P.ts.set i { t with work:={ t.work with next:=12 } }) (Xl x s) ↔ Ex P.ts (Xl x s):=fun x s=>ex_iff ht (iff_of_false (by rintro ⟨_,_,e,_⟩; have : (12 : Nat) = 9\/(12 : Nat) = 10:=e; omega) (by rintro ⟨_,_,e,_⟩; omega))
 have hgd : ∀ x,Gd g P.clock (P.ts.set i { t with work:={ t.work with next:=12 } }) x ↔ Gd g P.clock P.ts x:=fun x=>by unfold Gd; rw [fr]
 have hlk : b2i t.work.tside < Ln P.mem t.work.tsrc:=by
  have:=h.hasLink (x:=t.work.tsrc) (s:=t.work.tside) (h.heldGd ht m1 m2) (by intro e; rw [m4,e]; exact sd0 h.n.n0.2.1 _)
  exact (hasLink_iff.1 this).2
 refine h.build (c':=P.clock) ht ?_ w2 ?_ ?_ ?_ ?_
 ·intro j u hne hj;have ne : ∀ x,(Us P.mem x/\Ho P.mem x = j)\/Fr x u->x≠t.work.tsrc:=fun x hx e=>h.notOther ht hj hne ⟨m1,m2⟩ (e ▸ hx)
  refine h.rel hj (fun x hx=>.inl ((fr x).1 hx)) ?_ ?_ (fun x y _=>hnd y) ?_
  ·intro x hx;simp only [Us,Ky,Ln,Re,Ra,hnd];exact ⟨h.usedGd hx,trivial,trivial,fun hr=>.inl ⟨hr,trivial⟩⟩
  ·intro x hx;refine ⟨hnd x,fun s=>?_,fun s st d hd=>?_⟩
   ·rw [w3,if_neg (fun e=>ne x hx e.1)]
   ·rcases (w4 x s st d).1 hd with e | e
    ·exact e
    ·exact absurd e.1 (ne x hx)
  ·intro x hx;simp only [Us,Ho,hnd] at hx ⊢;exact ⟨fun h=>⟨hx,h⟩,fun h=>h.2⟩
 ·exact h.n.same hnd fr8 fr tk own pair xl
 ·refine ⟨?_,?_⟩
  ·intro x s st d hd;simp only [Us,Ln,hnd];rcases (w4 x s st d).1 hd with e | ⟨rfl,rfl,rfl,rfl⟩
   ·exact h.e.ms x s st d e
   ·exact ⟨m1,s3,s4,hlk⟩
  ·intro x s d hd;rw [w3] at hd;by_cases e : x = t.work.tsrc/\s = t.work.tside
   ·rw [if_pos e] at hd; simp at hd
   ·rw [if_neg e] at hd;rcases (h.e.pd x s d hd).or ht with (q | q) | ⟨j,u,q1,q2,q3⟩
    ·obtain ⟨_,_,_,_,e1,e2⟩:=q; exact absurd ⟨e1.symm,e2.symm⟩ e
    ·obtain ⟨_,_,e,_⟩:=q; omega
    ·exact Ex.other q2 q3 q1
 ·refine h.o.keep ht (Int.le_refl _) (fun x hx=>?_) (fun x y hx=>?_) ?_ ?_
  ·obtain ⟨_,_,e,_⟩:=hx; have : (12 : Nat) = 8\/(12 : Nat) = 10:=e; omega
  ·obtain ⟨a1,a2,a3,a4⟩:=hx; exact .inl ⟨a1,a2,.inr (.inr (.inl hn)),a4⟩
  ·intro x hx; simp only [Us,Ho,hnd] at hx ⊢; exact .inr ⟨hx,trivial⟩
  ·intro x _ hr; simp only [Re,Ra,hnd] at *; exact ⟨hr,trivial⟩
 ·refine hT.own (k:={ t.work with next:=12 }) h.n.one.1 hb (by omega) (by omega) ?_ ⟨rfl,rfl,rfl,rfl,rfl,rfl,rfl,rfl,rfl⟩ (by show 6<=12; omega) (by show 12<=12; omega) (fun e=>by have : 12<=7:=e; omega) (fun e=>by have : 12 = 9:=e; omega) (fun _ e=>by have : 12<=11:=e; omega) (fun _ e=>by have : 12<=8:=e; omega) (fun _ e=>by have : 12<=11:=e; omega) (fun _ e=>by have : 12 = 8:=e; omega) (fun _ e=>by have : 12 = 10:=e; omega) (fun _ _ e=>by have : 12<=10:=e; omega) ?_ (fun e=>by have : 12 = 11:=e; omega) (fun _ e=>by have : 12<=11:=e; omega)
  ·refine ⟨Int.le_refl _,fun x hx=>(hgd x).2 hx,?_,?_⟩
   ·intro x hx;simp only [Us,Ky,Ln,Re,Ra,hnd];exact ⟨h.usedGd hx,trivial,trivial,trivial,fun _ h=>h,fun hr=>.inl ⟨hr,trivial⟩⟩
   ·intro x hx;simp only [Us,Ho,hnd] at hx ⊢;exact ⟨fun h=>⟨hx,h⟩,fun h=>h.2⟩
  ·intro k2 _;have k2 : t.work.kind = 2:=k2;obtain ⟨q,qd⟩:=hT.q9 hb k2 (.inr (.inr (.inl hn)));have qd:=qd (by omega);refine ⟨⟨q.o,?_,?_,?_,?_,?_⟩,fun _=>?_⟩
   ·simp only [hnd]; exact q.re
   ·simp only [usd,Ld,hnd]; exact q.ld
   ·simp only [usd,Ld,hnd]; exact q.a
   ·simp only [Ky,hnd]; exact q.ky
   ·simp only [Ln,hnd]; exact q.ln
   ·simp only [De,hnd]; exact qd
end
end T
end
end Go.Proofs.YtfccelbmacjifabGreat
