import Derived.Test.YtfccelbmacjifabGreatP0
import Derived.Test.YtfccelbmacjifabGreatP21
set_option linter.unusedSimpArgs false
set_option maxRecDepth 100000
set_option maxHeartbeats 4000000
namespace Go.Proofs.YtfccelbmacjifabGreat
section
namespace T
section
variable {g g' : Gh} {M M' : PMem} {c c' : Int} {r : PSweep} {i j : Nat} {t t' u : PThread} {ts ts' : List PThread} {P : PSt} {x d : Int} {s : Bool} {key : Int} {k : PWork}
theorem Inv.noPend (h : Inv g P) (ht : P.ts[i]? = some t) (h7 : t.work.next<=7) (_hx : Us P.mem x) (hh : Ho P.mem x = i) (s : Bool) : Pd P.mem x s = []:=by
 cases hp : Pd P.mem x s with
 | nil=>rfl
 | cons d l =>
  exfalso;obtain ⟨j,u,hj,q | q⟩:=h.e.pd x s d (by rw [hp]; simp)
  ·obtain ⟨b,hk,h8,h11,e1,e2⟩:=q
   have:=(h.mine hj b (by omega) (by omega)).ts h11 h8
   rw [e1] at this;have e : i = j:=by have:=this.2.1; omega
   subst e;rw [ht] at hj; injection hj with hj; subst hj
   omega
  ·obtain ⟨b,hk,hn,hm⟩:=q
   have:=(h.freshUs hj ⟨b,hk,.inl hn,hm⟩).2.2
   omega
theorem Inv.prepRemove (h : Inv g P) (ht : P.ts[i]? = some t) (hb : t.busy = true) (hn : t.work.next = 7) (k2 : t.work.kind = 2) (hr : 0 < P.mem.room.2) : Inv g ((P.setM (P.prepareRemove t.work).1).setW i { (P.prepareRemove t.work).2 with next:=8 }):=by
 have hT:=h.th i t ht;have m:=h.mine ht hb (by omega) (by omega);have hM:=m.mt k2 (.inl (by omega));have hA:=m.ab hM;obtain ⟨e1,e2,e3⟩:=hT.e7 hb (by omega) (by omega);obtain ⟨e4,e5⟩:=e3 k2;have hSt:=h.heldGd ht m.us m.hs;have hAb:=h.heldGd ht hA.1 hA.2.1;have hl1:=h.hasLink (s:=!sd P.mem t.work.stand t.work.key) hSt (fun e=>absurd e hA.2.2.1);have hl2:=h.hasLink (s:=sd P.mem t.work.above t.work.key) hAb (by intro e; rw [e]; exact sd0 h.n.n0.2.1 _);have hpr : P.prepareRemove t.work = (P.mem.pend t.work.above (sd P.mem t.work.above t.work.key) (Ld P.mem t.work.stand (!sd P.mem t.work.stand t.work.key)),{ t.work with tsrc:=t.work.above,tside:=sd P.mem t.work.above t.work.key }):=by
  unfold PSt.prepareRemove;simp only;rw [if_neg (show ¬ P.kind = 0 by rw [h.kind]; decide)];unfold PMem.leadsTo;unfold sd at hl1 ⊢;rw [hl1]; rfl
 rw [hpr];obtain ⟨e,he,hue⟩:=count_some (l:=P.mem.es) (p:=fun x=>!x.used) (by unfold PMem.room at hr; simpa using hr);have hp0:=h.noPend ht (by omega) hA.1 hA.2.1 (sd P.mem t.work.above t.work.key);obtain ⟨_,_,w0,w2,w3,w4⟩:=pend_e (to:=Ld P.mem t.work.stand (!sd P.mem t.work.stand t.work.key)) h.wm ⟨e,he,by simpa using hue⟩ hl2 hp0;have hns : (P.mem.pend t.work.above (sd P.mem t.work.above t.work.key) (Ld P.mem t.work.stand (!sd P.mem t.work.stand t.work.key))).ns = P.mem.ns:=by rw [w0]
 have hnd:=node_ns hns;simp only;generalize P.mem.pend t.work.above (sd P.mem t.work.above t.work.key) (Ld P.mem t.work.stand (!sd P.mem t.work.stand t.work.key)) = M1 at *;rw [setMW_to P ht];have usd : ∀ x k,sd M1 x k = sd P.mem x k:=fun x k=>sd_congr (by simp only [Ky]; rw [hnd]) (by simp only [Ln]; rw [hnd])
 have nk1 : ∀ {p : Prop},t.work.kind = 1->p:=fun e=>by omega
 obtain ⟨k',hk'⟩ : ∃ k' : PWork,k' = { t.work with tsrc:=t.work.above,tside:=sd P.mem t.work.above t.work.key,next:=8 }:=⟨_,rfl⟩;have hkk : k'.kind = 2:=by rw [hk']; exact k2
 have hkn : k'.next = 8:=by rw [hk']
 rw [show ({ t.work with tsrc:=t.work.above,tside:=sd P.mem t.work.above t.work.key,next:=8 } : PWork) = k' from hk'.symm];have off : ∀ {p : PThread->Prop},(p { t with work:=k' }->False)->(p t->False)->(Ex (P.ts.set i { t with work:=k' }) p ↔ Ex P.ts p):=fun a b=>ex_iff ht (iff_of_false a b)
 have fr8 : ∀ x,Ex (P.ts.set i { t with work:=k' }) (Fr8 x) ↔ Ex P.ts (Fr8 x):=fun x=>off (by rintro ⟨_,e,_⟩; have : k'.kind = 1:=e; omega) (by rintro ⟨_,e,_⟩; omega)
 have fr : ∀ x,Ex (P.ts.set i { t with work:=k' }) (Fr x) ↔ Ex P.ts (Fr x):=fun x=>off (by rintro ⟨_,e,_⟩; have : k'.kind = 1:=e; omega) (by rintro ⟨_,e,_⟩; omega)
 have tk : ∀ x,Ex (P.ts.set i { t with work:=k' }) (Tk x) ↔ Ex P.ts (Tk x):=fun x=>off (by rintro ⟨_,_,e,_⟩; have : k'.next = 9:=e; omega) (by rintro ⟨_,_,e,_⟩; omega)
 have own : ∀ x,Ex (P.ts.set i { t with work:=k' }) (Own x) ↔ Ex P.ts (Own x):=fun x=>off (by rintro ⟨_,_,e,_⟩; have : k'.next = 10\/k'.next = 11\/(k'.next = 12/\_):=e; omega) (by rintro ⟨_,_,e,_⟩; omega)
 have pair : ∀ x y,Ex (P.ts.set i { t with work:=k' }) (Pair x y) ↔ Ex P.ts (Pair x y):=fun x y=>off (by rintro ⟨_,_,e,_⟩; have : k'.next = 9\/k'.next = 10\/k'.next = 11\/(k'.next = 12/\_):=e; omega) (by rintro ⟨_,_,e,_⟩; omega)
 have xl : ∀ x s,Ex (P.ts.set i { t with work:=k' }) (Xl x s) ↔ Ex P.ts (Xl x s):=fun x s=>off (by rintro ⟨_,_,e,_⟩; have : k'.next = 9\/k'.next = 10:=e; omega) (by rintro ⟨_,_,e,_⟩; omega)
 have hgd : ∀ x,Gd g P.clock (P.ts.set i { t with work:=k' }) x ↔ Gd g P.clock P.ts x:=fun x=>by unfold Gd; rw [fr]
 refine h.build (c':=P.clock) ht ?_ w2 ?_ ?_ ?_ ?_
 ·intro j u hne hj;have ne : ∀ x,(Us P.mem x/\Ho P.mem x = j)\/Fr x u->x≠t.work.above:=fun x hx e=>h.notOther ht hj hne ⟨hA.1,hA.2.1⟩ (e ▸ hx)
  refine h.rel hj (fun x hx=>.inl ((fr x).1 hx)) ?_ ?_ (fun x y _=>hnd y) ?_
  ·intro x hx;simp only [Us,Ky,Ln,Re,Ra,hnd];exact ⟨h.usedGd hx,trivial,trivial,fun hr=>.inl ⟨hr,trivial⟩⟩
  ·intro x hx;exact ⟨hnd x,fun s=>by rw [w3,if_neg (fun e=>ne x hx e.1)],fun s st d=>(w4 x s st d).1⟩
  ·intro x hx;simp only [Us,Ho,hnd] at hx ⊢;exact ⟨fun h=>⟨hx,h⟩,fun h=>h.2⟩
 ·exact h.n.same hnd fr8 fr tk own pair xl
 ·refine ⟨?_,?_⟩
  ·intro x s st d hd;simp only [Us,Ln,hnd];exact h.e.ms x s st d ((w4 x s st d).1 hd)
  ·intro x s d hd;rw [w3] at hd;by_cases e : x = t.work.above/\s = sd P.mem t.work.above t.work.key
   ·exact Ex.new ht (.inl ⟨hb,.inr hkk,by show 8<=k'.next; omega,by show k'.next<=11; omega,by rw [hk',e.1],by rw [hk',e.2]⟩)
   ·rw [if_neg e] at hd;exact (h.e.pd x s d hd).set ht (by rintro (⟨_,_,e,_⟩ | ⟨_,_,e,_⟩) <;> omega)
 ·refine h.o.keep ht (Int.le_refl _) (fun x hx=>?_) (fun x y hx=>?_) ?_ ?_
  ·obtain ⟨_,e,_⟩:=hx; have : k'.kind = 1:=e; omega
  ·obtain ⟨_,_,e,_⟩:=hx; have : k'.next = 9\/k'.next = 10\/k'.next = 11\/(k'.next = 12/\_):=e; omega
  ·intro x hx; simp only [Us,Ho,hnd] at hx ⊢; exact .inr ⟨hx,trivial⟩
  ·intro x _ hr; simp only [Re,Ra,hnd] at *; exact ⟨hr,trivial⟩
 ·refine hT.own (k:=k') h.n.one.1 hb (by omega) (by omega) ?_ (by rw [hk']; exact ⟨rfl,rfl,rfl,rfl,rfl,rfl,rfl,rfl,rfl⟩) (by omega) (by omega) (by omega) (by omega) ?_ ?_ ?_ (by omega) (by omega) ?_ (by omega) (by omega) (by omega)
  ·refine ⟨Int.le_refl _,fun x hx=>(hgd x).2 hx,?_,?_⟩
   ·intro x hx;simp only [Us,Ky,Ln,Re,Ra,hnd];exact ⟨h.usedGd hx,trivial,trivial,trivial,fun _ h=>h,fun hr=>.inl ⟨hr,trivial⟩⟩
   ·intro x hx;simp only [Us,Ho,hnd] at hx ⊢;exact ⟨fun h=>⟨hx,h⟩,fun h=>h.2⟩
  ·intro _ _; simp only [Ky,hnd]; rw [hk']; exact hT.c7 hb (by omega) (by omega)
  ·intro _ _; simp only [usd,Ld,hnd]; rw [hk']; exact ⟨e1,e2,e3⟩
  ·intro _ _; simp only [usd]; rw [hk']; simp [k2]
  ·intro _ _ _; simp only [usd,Ld,hnd]; rw [hk',w3,if_pos ⟨rfl,rfl⟩]; exact ⟨rfl,e5,hT.m7 hb (by omega)⟩
theorem make_room {M : PMem} (hf : 0 < M.room.1) (key value : Int) : M.room.1 = (M.make key value).1.room.1 + 1/\(M.make key value).1.room.2 = M.room.2:=by
 obtain ⟨e,he,hu⟩:=count_some (l:=M.ns) (p:=fun x=>!x.used) (by unfold PMem.room at hf; simpa using hf);obtain ⟨k,y,h1,h2,h3⟩:=found (p:=fun x : PNode=>!x.used) he hu;have h4 : M.freeNode = (k : Int):=h3;obtain ⟨h5,h6⟩:=node_get h1;have heq : M.make key value = ({ M with ns:=M.ns.set k (PNode.made key value) },(k : Int)):=by
  unfold PMem.make;rw [h4,if_pos h6]; rfl
 rw [heq]
 have:=count_set_e (p:=fun x : PNode=>!x.used) (y:=PNode.made key value) h1 h2 rfl
 unfold PMem.room;simp only;constructor
 ·omega
 ·trivial
theorem modN_used (M : PMem) (n : Int) (f : PNode->PNode) (hf : ∀ e,(f e).used = e.used) : (M.modN n f).room.1 = M.room.1:=by
 unfold PMem.modN;split
 ·unfold PMem.room;simp only
  congr 1
  have : ∀ (l : List PNode) (k : Nat),count (fun x=>!x.used) (l.modify k f) = count (fun x=>!x.used) l:=by
   intro l
   induction l with
   | nil=>intro k; cases k <;> simp [count]
   | cons a r ih =>
    intro k;cases k with
    | zero =>
     show (List.filter (fun x : PNode=>!x.used) (f a :: r)).length = (List.filter (fun x : PNode=>!x.used) (a :: r)).length;rw [List.filter_cons,List.filter_cons,hf];split <;> rfl
    | succ k =>
     have:=ih k
     simp only [count,List.modify_succ_cons,List.filter_cons] at this ⊢;split <;> simp [this]
  exact this _ _
 ·rfl
theorem addLink_room1 (M : PMem) (n to : Int) : (M.addLink n to).room.1 = M.room.1:=by
 have hp : ∀ (M : PMem) (n : Int) (s : Bool) (to : Int),(M.pend n s to).room.1 = M.room.1:=by
  intro M n s to; unfold PMem.pend; split <;> rfl
 unfold PMem.addLink;split
 ·split
  ·rw [hp]; exact modN_used _ _ _ (fun _=>rfl)
  ·rw [hp]; exact modN_used _ _ _ (fun _=>rfl)
  ·rfl
 ·rfl
theorem Inv.grownR (h : Inv g P) (ht : P.ts[i]? = some t) (hb : t.busy = true) (hn : t.work.next = 7) (_k1 : t.work.kind = 1) (hr1 : 2<=P.mem.room.1) (hr2 : 3<=P.mem.room.2) :
  ∃ a n M1,P.prepareInsert t.work = (M1,{ t.work with made:=[a,n],tsrc:=t.work.stand,tside:=sd P.mem t.work.stand t.work.key })/\¬ Us P.mem a/\¬ Us P.mem n/\a≠n/\Wm M1 /\
   (∀ x,x≠a->x≠n->M1.node x = P.mem.node x)/\M1.node a = PNode.made t.work.key t.work.value/\M1.node n = linked true (kid P.mem t.work a true) (linked false (kid P.mem t.work a false) (PNode.made (if Ky P.mem t.work.ahead < t.work.key then t.work.key else Ky P.mem t.work.ahead) 0)) /\
   (∀ x s,Pd M1 x s = if x = t.work.stand/\s = sd P.mem t.work.stand t.work.key then [n] else if x = n then [kid P.mem t.work a s] else Pd P.mem x s)/\(∀ x s st d,Sd M1 x s st d ↔ Sd P.mem x s st d)/\M1.room.1 + 2 = P.mem.room.1/\M1.room.2 + 3 = P.mem.room.2:=by
 have hT:=h.th i t ht;have m:=h.mine ht hb (by omega) (by omega);have hm7:=hT.m7 hb (by omega);have hus:=h.usedGd (.inr m.ah);obtain ⟨a,p1,p2,p3,p4,p5,p6,p7⟩:=make_e h.wm t.work.key t.work.value (by omega);obtain ⟨r1,r2⟩:=make_room (M:=P.mem) (by omega) t.work.key t.work.value;obtain ⟨M0,hM0⟩ : ∃ M0,M0 = (P.mem.make t.work.key t.work.value).1:=⟨_,rfl⟩;rw [<- hM0] at p4 p5 p6 p7 r1 r2;have haa : t.work.ahead≠a:=fun e=>by rw [e] at hus; simp only [Us] at hus; rw [p1] at hus; cases hus
 have hsa : t.work.stand≠a:=fun e=>by have:=m.us; rw [e] at this; simp only [Us] at this; rw [p1] at this; cases this
 have kA : (M0.node a).key = t.work.key:=by rw [p7,if_pos rfl]; rfl
 have kO : (M0.node t.work.ahead).key = Ky P.mem t.work.ahead:=by rw [p7,if_neg haa]
 obtain ⟨kg,hkg⟩ : ∃ kg,kg = (if Ky P.mem t.work.ahead < t.work.key then t.work.key else Ky P.mem t.work.ahead):=⟨_,rfl⟩;obtain ⟨n,q1,q2,q3,q4,q5,q6,q7⟩:=make_e p6 kg 0 (by omega);obtain ⟨s1,s2⟩:=make_room (M:=M0) (by omega) kg 0;obtain ⟨M2,hM2⟩ : ∃ M2,M2 = (M0.make kg 0).1:=⟨_,rfl⟩;rw [<- hM2] at q4 q5 q6 q7 s1 s2;have hna : n≠a:=fun e=>by rw [e,p7,if_pos rfl] at q1; cases q1
 have hnu : (P.mem.node n).used = false:=by rw [p7,if_neg hna] at q1; exact q1
 have hsn : t.work.stand≠n:=fun e=>by have:=m.us; rw [e] at this; simp only [Us] at this; rw [hnu] at this; cases this
 have pdn : ∀ s,Pd P.mem n s = []:=by
  intro s;cases hp : Pd P.mem n s with
  | nil=>rfl
  | cons d l =>
   exfalso;obtain ⟨j,u,hj,q | q⟩:=h.e.pd n s d (by rw [hp]; simp)
   ·obtain ⟨b,hk,h8,h11,e1,e2⟩:=q
    have:=((h.mine hj b (by omega) (by omega)).ts h11 h8).1
    rw [e1] at this; simp only [Us] at this; rw [hnu] at this; cases this
   ·obtain ⟨b,hk,hn,hm⟩:=q
    have:=(h.freshUs hj ⟨b,hk,.inl hn,hm⟩).1
    simp only [Us] at this; rw [hnu] at this; cases this
 have es2 : M2.es = P.mem.es:=q4.trans p4;have n2 : M2.node n = PNode.made kg 0:=by rw [q7,if_pos rfl]
 obtain ⟨a1,a2,a3,a4,a5,a6⟩:=addLink_e (M:=M2) (n:=n) (to:=kid P.mem t.work a false) (s:=false) q6 (by rw [n2]; rfl) (by rw [n2]; rfl) (by rw [pd_es es2]; exact pdn false) (by omega);obtain ⟨M3,hM3⟩ : ∃ M3,M3 = M2.addLink n (kid P.mem t.work a false):=⟨_,rfl⟩;rw [<- hM3] at a1 a2 a3 a4 a5 a6;have n3 : M3.node n = linked false (kid P.mem t.work a false) (PNode.made kg 0):=by rw [a3,if_pos rfl,n2]
 obtain ⟨b1,b2,b3,b4,b5,b6⟩:=addLink_e (M:=M3) (n:=n) (to:=kid P.mem t.work a true) (s:=true) a2 (by rw [n3]; rfl) (by rw [n3]; rfl) (by rw [a4,if_neg (by simp),pd_es es2]; exact pdn true) (by omega);obtain ⟨M4,hM4⟩ : ∃ M4,M4 = M3.addLink n (kid P.mem t.work a true):=⟨_,rfl⟩;rw [<- hM4] at b1 b2 b3 b4 b5 b6;have nd4 : ∀ x,x≠a->x≠n->M4.node x = P.mem.node x:=by
  intro x e1 e2;rw [b3,if_neg e2,a3,if_neg e2,q7,if_neg e2,p7,if_neg e1]
 have hSt:=h.heldGd ht m.us m.hs;have hlk : M4.hasLink t.work.stand (sd P.mem t.work.stand t.work.key) = true:=by
  have:=h.hasLink (s:=sd P.mem t.work.stand t.work.key) hSt (by intro e; rw [e]; exact sd0 h.n.n0.2.1 _)
  rw [hasLink_iff] at this ⊢;rw [nd4 _ hsa hsn,hasN_len (M:=P.mem) (M':=M4) (by rw [b1,a1,q5,p5])]; exact this
 have hp0:=h.noPend ht (by omega) m.us m.hs (sd P.mem t.work.stand t.work.key);obtain ⟨e,he,hue⟩:=count_some (l:=M4.es) (p:=fun x=>!x.used) (by
  have : 0 < M4.room.2:=by omega
  unfold PMem.room at this; simpa using this)
 obtain ⟨k5,g5,w0,w2,w3,w4⟩:=pend_e (M:=M4) (n:=t.work.stand) (s:=sd P.mem t.work.stand t.work.key) (to:=n) b2 ⟨e,he,by simpa using hue⟩ hlk (by rw [b4,if_neg (fun q=>hsn q.1),a4,if_neg (fun q=>hsn q.1),pd_es es2]; exact hp0);refine ⟨a,n,M4.pend t.work.stand (sd P.mem t.work.stand t.work.key) n,?_,by simp only [Us]; rw [p1]; simp,by simp only [Us]; rw [hnu]; simp,fun e=>hna e.symm,w2,?_,?_,?_,?_,?_,?_,?_⟩
 ·-- what it does
  have hjoin : M0.join a t.work.ahead = (M4,n):=by
   unfold PMem.join;simp only;rw [kA,kO];by_cases hlt : Ky P.mem t.work.ahead < t.work.key
   ·have eg : kg = t.work.key:=by rw [hkg,if_pos hlt]
    have k0 : kid P.mem t.work a false = t.work.ahead:=by unfold kid; rw [if_neg (by simpa using hlt)]
    have k1 : kid P.mem t.work a true = a:=by unfold kid; rw [if_pos (by simpa using hlt)]
    rw [if_pos hlt,if_pos hlt,kA,<- eg,q3,<- hM2,hM4,hM3,k0,k1]
   ·have eg : kg = Ky P.mem t.work.ahead:=by rw [hkg,if_neg hlt]
    have k0 : kid P.mem t.work a false = a:=by unfold kid; rw [if_pos (by simpa using hlt)]
    have k1 : kid P.mem t.work a true = t.work.ahead:=by unfold kid; rw [if_neg (by simpa using hlt)]
    rw [if_neg hlt,if_neg hlt,kO,<- eg,q3,<- hM2,hM4,hM3,k0,k1]
  have hside : M0.sideFor t.work.stand t.work.key = sd P.mem t.work.stand t.work.key:=by
   show sd M0 _ _ = _;exact sd_congr (by simp only [Ky]; rw [p7,if_neg hsa]) (by simp only [Ln]; rw [p7,if_neg hsa])
  unfold PSt.prepareInsert;simp only;rw [if_neg (show ¬ P.kind = 0 by rw [h.kind]; decide),p3,<- hM0,hjoin,hside,hm7]
  rfl
 ·intro x e1 e2;rw [w0]; exact nd4 x e1 e2
 ·rw [w0];show M4.node a = _;rw [b3,if_neg (fun e=>hna e.symm),a3,if_neg (fun e=>hna e.symm),q7,if_neg (fun e=>hna e.symm),p7,if_pos rfl]
 ·rw [w0];show M4.node n = _;rw [b3,if_pos rfl,n3,hkg]
 ·intro x s;rw [w3];split
  ·rfl
  ·rw [b4,a4,pd_es es2];cases s <;> grind
 ·intro x s st d;rw [w4,b5,a5,sd_es es2]
 ·have n3 : M3.room.1 = M2.room.1:=by rw [hM3]; exact addLink_room1 _ _ _
  have n4 : M4.room.1 = M3.room.1:=by rw [hM4]; exact addLink_room1 _ _ _
  rw [w0];show (M4.room).1 + 2 = _;omega
 ·rw [w0];have c5:=count_set_e (p:=fun x : PEntry=>!x.used) (y:=⟨true,true,t.work.stand,sd P.mem t.work.stand t.work.key,n,0⟩) g5 rfl rfl;have e6 : M4.room.2 = (count (fun x : PEntry=>!x.used) M4.es : Nat):=rfl;show ((count (fun x : PEntry=>!x.used) (M4.es.set k5 _) : Nat) : Int) + 3 = _;omega
theorem Inv.grown (h : Inv g P) (ht : P.ts[i]? = some t) (hb : t.busy = true) (hn : t.work.next = 7) (k1 : t.work.kind = 1) (hr1 : 2<=P.mem.room.1) (hr2 : 3<=P.mem.room.2) :
  ∃ a n M1,P.prepareInsert t.work = (M1,{ t.work with made:=[a,n],tsrc:=t.work.stand,tside:=sd P.mem t.work.stand t.work.key })/\¬ Us P.mem a/\¬ Us P.mem n/\a≠n/\Wm M1 /\
   (∀ x,x≠a->x≠n->M1.node x = P.mem.node x)/\M1.node a = PNode.made t.work.key t.work.value/\M1.node n = linked true (kid P.mem t.work a true) (linked false (kid P.mem t.work a false) (PNode.made (if Ky P.mem t.work.ahead < t.work.key then t.work.key else Ky P.mem t.work.ahead) 0)) /\
   (∀ x s,Pd M1 x s = if x = t.work.stand/\s = sd P.mem t.work.stand t.work.key then [n] else if x = n then [kid P.mem t.work a s] else Pd P.mem x s)/\(∀ x s st d,Sd M1 x s st d ↔ Sd P.mem x s st d):=by
 obtain ⟨a,n,M1,q0,q1,q2,q3,q4,q5,q6,q7,q8,q9,_⟩:=h.grownR ht hb hn k1 hr1 hr2;exact ⟨a,n,M1,q0,q1,q2,q3,q4,q5,q6,q7,q8,q9⟩
end
end T
end
section
namespace T
section
variable {g g' : Gh} {M M' : PMem} {c c' : Int} {r : PSweep} {i j : Nat} {t t' u : PThread} {ts ts' : List PThread} {P : PSt} {x d : Int} {s : Bool} {key : Int} {k : PWork}
theorem InvN.two (h : InvN g M c r ts) {a n : Int} (hab : ¬ g.O a/\¬ g.O n/\¬ (g.V c).Has a/\¬ (g.V c).Has n/\a≠0/\n≠0) (hn : ∀ x,x≠a->x≠n->M'.node x = M.node x)
  (ha : (M'.node a).dead = false/\(M'.node a).retired = false) (hb : (M'.node n).dead = false/\(M'.node n).retired = false)
  (us : ∀ x,Us M' x->x = 0\/(g.V c).Has x\/g.O x\/Ex ts' (Fr8 x)) (gd : ∀ x,Gd g c ts' x ↔ Gd g c ts x) (s3 : ∀ x,Ex ts' (Tk x) ↔ Ex ts (Tk x)) (s4 : ∀ x,Ex ts' (Own x) ↔ Ex ts (Own x)) (s5 : ∀ x y,Ex ts' (Pair x y) ↔ Ex ts (Pair x y)) (s6 : ∀ x s,Ex ts' (Xl x s) ↔ Ex ts (Xl x s)) : InvN g M' c r ts':=by
 have nH : ∀ x,(g.V c).Has x->M'.node x = M.node x:=fun x hx=>hn x (fun e=>hab.2.2.1 (e ▸ hx)) (fun e=>hab.2.2.2.1 (e ▸ hx))
 have nO : ∀ x,g.O x->M'.node x = M.node x:=fun x hx=>hn x (fun e=>hab.1 (e ▸ hx)) (fun e=>hab.2.1 (e ▸ hx))
 have n0' : M'.node 0 = M.node 0:=hn 0 (fun e=>hab.2.2.2.2.1 e.symm) (fun e=>hab.2.2.2.2.2 e.symm);have nG : ∀ x,x = 0\/Gd g c ts x->M'.node x = M.node x:=by
  rintro x (rfl | ⟨e | e,_⟩)
  ·exact n0'
  ·exact nO x e
  ·exact nH x e
 have nD : ∀ x,De M' x->De M x/\M'.node x = M.node x:=by
  intro x hx;by_cases e1 : x = a
  ·subst e1; simp only [De] at hx; rw [ha.1] at hx; cases hx
  ·by_cases e2 : x = n
   ·subst e2; simp only [De] at hx; rw [hb.1] at hx; cases hx
   ·have:=hn x e1 e2
    exact ⟨by simp only [De] at hx ⊢; rw [<- this]; exact hx,this⟩
 have nR : ∀ x,Re M' x->M'.node x = M.node x:=by
  intro x hx;by_cases e1 : x = a
  ·subst e1; simp only [Re] at hx; rw [ha.2] at hx; cases hx
  ·by_cases e2 : x = n
   ·subst e2; simp only [Re] at hx; rw [hb.2] at hx; cases hx
   ·exact hn x e1 e2
 obtain ⟨gt,⟨ag1,ag2⟩,n0,tn,_,ou,od,ot,re,ro,lk,ph,pr,pp,rg,bd⟩:=h;refine ⟨gt,⟨?_,?_⟩,?_,?_,us,?_,?_,?_,?_,?_,?_,?_,?_,?_,rg,bd⟩
 ·intro x q hq; simp only [Us,Ln,Ky]; rw [nH x (Tr.nod_has hq)]; exact ag1 x q hq
 ·intro x q w hq; simp only [Us,Ln,Ky]; rw [nH x (Tr.lea_has hq)]; exact ag2 x q w hq
 ·simp only [Us,Ln]; rw [n0']; exact n0
 ·intro x hx; rw [nH x hx]; exact tn x hx
 ·intro x hx; simp only [Us,Ln]; rw [nO x hx]; exact ou x hx
 ·intro x hx; exact od x (nD x hx).1
 ·intro x hx; simp only [De]; rw [nO x hx,s3]; exact ot x hx
 ·intro x hx;have e:=nR x hx;simp only [Re,Ra,De] at hx ⊢;rw [e] at hx ⊢; exact re x hx
 ·intro x hx;obtain ⟨e1,e2⟩:=nD x hx;simp only [Re]; rw [e2,s4]; exact ro x e1
 ·intro x s d hd;have e : M'.node x = M.node x:=by
   rcases (Tr.ed_has hd).2 with rfl | e
   ·exact n0'
   ·exact nH x (Tr.inn_has e)
  simp only [Ld]; rw [e,s6]; exact lk x s d hd
 ·intro x s hx hs;rw [gd] at hx;have e : M'.node x = M.node x:=by
   rcases hx with hx | hx
   ·exact nG x (.inl hx)
   ·exact nG x (.inr hx.2)
  simp only [Ln,Ld] at hx ⊢;rw [e] at hx ⊢
  have:=ph x s hx hs
  have e2:=nG _ (.inr this.1);simp only [Re,Ra];simp only [Ld] at e2;rw [gd,e2,e]; exact this
 ·intro x s k hx hR hsd;rw [gd] at hx;have e : M'.node x = M.node x:=by
   rcases hx with hx | hx
   ·exact nG x (.inl hx)
   ·exact nG x (.inr hx.2)
  have esd : sd M' x k = sd M x k:=sd_congr (by simp only [Ky]; rw [e]) (by simp only [Ln]; rw [e]);rw [esd] at hsd;simp only [Ln,Ld] at hx ⊢;rw [e] at hx ⊢;have hs0 : x = 0->s = false:=fun e0=>by rw [<- hsd,e0]; exact sd0 n0.2.1 k
  have:=ph x s hx hs0
  have e2:=nG _ (.inr this.1);simp only [Ld] at e2;rw [e2]; exact pr x s k hx hR hsd
 ·intro x s hO;have e:=nO x hO;simp only [Ln,Ld,Re];rw [e];intro hl hd;rw [s5]; exact pp x s hO hl hd
theorem Inv.prepInsert (h : Inv g P) (ht : P.ts[i]? = some t) (hb : t.busy = true) (hn : t.work.next = 7) (k1 : t.work.kind = 1) (hr1 : 2<=P.mem.room.1) (hr2 : 3<=P.mem.room.2) : Inv g ((P.setM (P.prepareInsert t.work).1).setW i { (P.prepareInsert t.work).2 with next:=8 }):=by
 have hT:=h.th i t ht;have m:=h.mine ht hb (by omega) (by omega);obtain ⟨e1,e2,_⟩:=hT.e7 hb (by omega) (by omega);obtain ⟨a,n,M1,hpr,ua,un,ne,w1,nd,na,nn,w3,w4⟩:=h.grown ht hb hn k1 hr1 hr2;rw [hpr];simp only;rw [setMW_to P ht];obtain ⟨k',hk'⟩ : ∃ k' : PWork,k' = { t.work with made:=[a,n],tsrc:=t.work.stand,tside:=sd P.mem t.work.stand t.work.key,next:=8 }:=⟨_,rfl⟩;have hkk : k'.kind = 1:=by rw [hk']; exact k1
 have hkn : k'.next = 8:=by rw [hk']
 have hkm : k'.made = [a,n]:=by rw [hk']
 rw [show ({ t.work with made:=[a,n],tsrc:=t.work.stand,tside:=sd P.mem t.work.stand t.work.key,next:=8 } : PWork) = k' from hk'.symm];have usd : ∀ x,Us P.mem x->x≠a/\x≠n/\M1.node x = P.mem.node x:=fun x hx=>⟨fun e=>ua (e ▸ hx),fun e=>un (e ▸ hx),nd x (fun e=>ua (e ▸ hx)) (fun e=>un (e ▸ hx))⟩
 have gU : ∀ x,x = 0\/Gd g P.clock P.ts x->Us P.mem x:=fun x hx=>h.usedGd hx
 have hOH : ¬ g.O a/\¬ g.O n/\¬ (g.V P.clock).Has a/\¬ (g.V P.clock).Has n/\a≠0/\n≠0:=by
  refine ⟨fun q=>ua (h.n.ou a q).1,fun q=>un (h.n.ou n q).1,fun q=>ua (h.n.inn q).2.1,fun q=>un (h.n.inn q).2.1,fun e=>ua (e ▸ h.n.n0.1),fun e=>un (e ▸ h.n.n0.1)⟩
 have off : ∀ {p : PThread->Prop},(p { t with work:=k' }->False)->(p t->False)->(Ex (P.ts.set i { t with work:=k' }) p ↔ Ex P.ts p):=fun a b=>ex_iff ht (iff_of_false a b)
 have nFr : ∀ x,¬ Fr x t:=by rintro x ⟨_,_,e,_⟩; omega
 have fr : ∀ x,Ex (P.ts.set i { t with work:=k' }) (Fr x)->Ex P.ts (Fr x)\/¬ Us P.mem x:=by
  intro x hx;rcases (Ex.get ht).1 hx with ⟨_,_,_,e⟩ | ⟨j,u,q1,q2,q3⟩
  ·right;have e : x ∈ k'.made:=e;rw [hkm] at e; simp at e;rcases e with rfl | rfl
   ·exact ua
   ·exact un
  ·exact .inl ⟨j,u,q2,q3⟩
 have tk : ∀ x,Ex (P.ts.set i { t with work:=k' }) (Tk x) ↔ Ex P.ts (Tk x):=fun x=>off (by rintro ⟨_,_,e,_⟩; have : k'.next = 9:=e; omega) (by rintro ⟨_,_,e,_⟩; omega)
 have own : ∀ x,Ex (P.ts.set i { t with work:=k' }) (Own x) ↔ Ex P.ts (Own x):=fun x=>off (by rintro ⟨_,e,_⟩; have : k'.kind = 2:=e; omega) (by rintro ⟨_,e,_⟩; omega)
 have pair : ∀ x y,Ex (P.ts.set i { t with work:=k' }) (Pair x y) ↔ Ex P.ts (Pair x y):=fun x y=>off (by rintro ⟨_,e,_⟩; have : k'.kind = 2:=e; omega) (by rintro ⟨_,e,_⟩; omega)
 have xl : ∀ x s,Ex (P.ts.set i { t with work:=k' }) (Xl x s) ↔ Ex P.ts (Xl x s):=fun x s=>off (by rintro ⟨_,_,e,_⟩; have : k'.next = 9\/k'.next = 10:=e; omega) (by rintro ⟨_,_,e,_⟩; omega)
 have hgd : ∀ x,Gd g P.clock (P.ts.set i { t with work:=k' }) x ↔ Gd g P.clock P.ts x:=by
  intro x;constructor
  ·rintro ⟨q1,q2⟩; exact ⟨q1,fun q=>q2 (q.set ht (fun e=>absurd e (nFr x)))⟩
  ·intro q; exact ⟨q.1,fun q2=>by rcases fr x q2 with e | e; exact q.2 e; exact e (gU x (.inr q))⟩
 have hgr : Gro g g P.mem M1 P.clock P.clock P.ts (P.ts.set i { t with work:=k' }) i:=by
  refine ⟨Int.le_refl _,fun x hx=>(hgd x).2 hx,?_,?_⟩
  ·intro x hx;have hu:=gU x hx;have e:=(usd x hu).2.2;simp only [Us,Ky,Ln,Re,Ra]; rw [e];exact ⟨hu,by first | rfl | trivial,by first | rfl | trivial,by first | rfl | trivial,fun _ h=>h,fun hr=>.inl ⟨hr,by first | rfl | trivial⟩⟩
  ·intro x hx;by_cases ea : x = a
   ·subst ea;simp only [Ho]; rw [na];exact ⟨fun e=>by have : (-1 : Int) = i:=e; omega,fun e=>absurd e.1 ua⟩
   ·by_cases en : x = n
    ·subst en;simp only [Ho]; rw [nn];exact ⟨fun e=>by have : (-1 : Int) = i:=e; omega,fun e=>absurd e.1 un⟩
    ·have e:=nd x ea en;simp only [Us,Ho] at hx ⊢; rw [e] at hx ⊢;exact ⟨fun h=>⟨hx,h⟩,fun h=>h.2⟩
 have hdist : t.work.stand≠a/\t.work.stand≠n/\t.work.ahead≠a/\t.work.ahead≠n:=by
  have q1:=usd _ m.us; have q2:=usd _ (gU _ (.inr m.ah)); exact ⟨q1.1,q1.2.1,q2.1,q2.2.1⟩
 have nst:=nd _ hdist.1 hdist.2.1;have nah:=nd _ hdist.2.2.1 hdist.2.2.2;have esd : sd M1 t.work.stand t.work.key = sd P.mem t.work.stand t.work.key:=sd_congr (by simp only [Ky]; rw [nst]) (by simp only [Ln]; rw [nst]);refine h.build (c':=P.clock) ht ?_ w1 ?_ ?_ ?_ ?_
 ·intro j u hne hj;refine h.rel hj fr ?_ ?_ ?_ ?_
  ·intro x hx
   have:=hgr.gn x hx
   exact ⟨this.1,this.2.1,this.2.2.1,this.2.2.2.2.2⟩
  ·intro x hx;have hu : Us P.mem x:=by
    rcases hx with e | e
    ·exact e.1
    ·exact (h.freshUs hj e).1
   have e:=usd x hu;have hns : x≠t.work.stand:=fun e=>h.notOther ht hj hne ⟨m.us,m.hs⟩ (e ▸ hx)
   exact ⟨e.2.2,fun s=>by rw [w3,if_neg (fun q=>hns q.1),if_neg e.2.1],fun s st d=>(w4 x s st d).1⟩
  ·intro x y hp;exact (usd y (h.pairNot ht hj hp).2.2.2.2.2).2.2
  ·intro x hx;by_cases ea : x = a
   ·subst ea;simp only [Ho]; rw [na];exact ⟨fun e=>by have : (-1 : Int) = j:=e; omega,fun e=>absurd e.1 ua⟩
   ·by_cases en : x = n
    ·subst en;simp only [Ho]; rw [nn];exact ⟨fun e=>by have : (-1 : Int) = j:=e; omega,fun e=>absurd e.1 un⟩
    ·have e:=nd x ea en;simp only [Us,Ho] at hx ⊢; rw [e] at hx ⊢;exact ⟨fun h=>⟨hx,h⟩,fun h=>h.2⟩
 ·refine h.n.two hOH nd (by rw [na]; exact ⟨rfl,rfl⟩) (by rw [nn]; exact ⟨rfl,rfl⟩) ?_ hgd tk own pair xl;intro x hx;by_cases ea : x = a\/x = n
  ·right; right; right;refine Ex.new ht ⟨hb,hkk,hkn,?_⟩;show x ∈ k'.made;rw [hkm]; simp; exact ea
  ·simp only [not_or] at ea;have e:=nd x ea.1 ea.2;simp only [Us] at hx; rw [e] at hx;rcases h.n.us x hx with q | q | q | q
   ·exact .inl q
   ·exact .inr (.inl q)
   ·exact .inr (.inr (.inl q))
   ·exact .inr (.inr (.inr (q.set ht (by rintro ⟨_,_,e,_⟩; omega))))
 ·refine ⟨?_,?_⟩
  ·intro x s st d hd
   have:=h.e.ms x s st d ((w4 x s st d).1 hd)
   simp only [Us,Ln];rw [(usd x this.1).2.2]; exact this
  ·intro x s d hd;rw [w3] at hd;by_cases e : x = t.work.stand/\s = sd P.mem t.work.stand t.work.key
   ·exact Ex.new ht (.inl ⟨hb,.inl hkk,by show 8<=k'.next; omega,by show k'.next<=11; omega,by rw [hk',e.1],by rw [hk',e.2]⟩)
   ·rw [if_neg e] at hd;by_cases en : x = n
    ·exact Ex.new ht (.inr ⟨hb,hkk,hkn,by show x ∈ k'.made; rw [hkm]; simp [en]⟩)
    ·rw [if_neg en] at hd;exact (h.e.pd x s d hd).set ht (by rintro (⟨_,_,e,_⟩ | ⟨_,_,e,_⟩) <;> omega)
 ·refine h.o.keep ht (Int.le_refl _) (fun x hx=>?_) (fun x y hx=>?_) ?_ ?_
  ·right;intro j u hj hf;have hu:=(h.freshUs hj hf).1;obtain ⟨_,_,_,e⟩:=hx;have e : x ∈ k'.made:=e;rw [hkm] at e; simp at e;rcases e with rfl | rfl
   ·exact ua hu
   ·exact un hu
  ·obtain ⟨_,e,_⟩:=hx; have : k'.kind = 2:=e; omega
  ·intro x hx;by_cases ea : x = a
   ·left; subst ea; simp only [Ho]; rw [na]; rfl
   ·by_cases en : x = n
    ·left; subst en; simp only [Ho]; rw [nn]; rfl
    ·right;have e:=nd x ea en;simp only [Us,Ho] at hx ⊢; rw [e] at hx ⊢; exact ⟨hx,rfl⟩
  ·intro x _ hr;have hu : Us P.mem x:=by
    have:=(h.n.od x (h.n.re x hr).1)
    exact (h.n.ou x this).1
   simp only [Re,Ra] at *; rw [(usd x hu).2.2]; exact ⟨hr,rfl⟩
 ·refine hT.own (k:=k') h.n.one.1 hb (by omega) (by omega) hgr (by rw [hk']; exact ⟨rfl,rfl,rfl,rfl,rfl,rfl,rfl,rfl,rfl⟩) (by omega) (by omega) (by omega) (by omega) ?_ ?_ ?_ ?_ (by omega) (by omega) (by omega) (by omega) (by omega)
  ·intro _ _; rw [hk']; show Ky M1 t.work.ahead = t.work.key ↔ t.work.kind = 2; simp only [Ky]; rw [nah]; exact hT.c7 hb (by omega) (by omega)
  ·intro _ _; rw [hk'];show A _ t.work.stand (sd M1 t.work.stand t.work.key) t.work.ahead/\Ld M1 t.work.stand (sd M1 t.work.stand t.work.key) = t.work.ahead/\(t.work.kind = 2->_);rw [esd];simp only [Ld]; rw [nst];exact ⟨e1,e2,fun e=>by omega⟩
  ·intro _ _; rw [hk'];show t.work.stand = (if t.work.kind = 2 then _ else t.work.stand)/\sd P.mem t.work.stand t.work.key = sd M1 t.work.stand t.work.key;rw [esd,if_neg (by omega)]; exact ⟨rfl,rfl⟩
  ·intro _ _;have hkid : ∀ b,kid M1 k' a b = kid P.mem t.work a b:=by
    intro b;have e : Ky M1 t.work.ahead = Ky P.mem t.work.ahead:=by simp only [Ky]; rw [nah]
    rw [hk']; unfold kid;show (if decide (Ky M1 t.work.ahead < t.work.key) = b then a else t.work.ahead) = _;rw [e]
   have hpn : ∀ b,Pd M1 n b = [kid P.mem t.work a b]:=fun b=>by rw [w3,if_neg (fun q=>hdist.2.1 q.1.symm),if_pos rfl]
   have nsd : ∀ y,¬ Us P.mem y->∀ b s d,¬ Sd P.mem y b s d:=fun y hy b s d hh=>hy (h.e.ms y b s d hh).1
   refine ⟨a,n,hkm,ne,⟨hOH.2.2.2.2.1,hOH.2.2.2.2.2,fun e=>ua (e ▸ h.n.one.2.1),fun e=>un (e ▸ h.n.one.2.1)⟩,?_,⟨hOH.2.2.1,hOH.2.2.2.1,hOH.1,hOH.2.1⟩,?_,?_,?_,?_,?_,?_,?_,?_⟩
   ·simp only [Us]; rw [na,nn]; exact ⟨rfl,rfl⟩
   ·simp only [Ln,Ky,Ho]; rw [na,hk']; exact ⟨rfl,rfl,rfl,rfl,rfl,rfl⟩
   ·rw [hk'];show _/\_/\Ln M1 n = 2/\Ky M1 n = (if Ky M1 t.work.ahead < t.work.key then t.work.key else Ky M1 t.work.ahead)/\Ho M1 n = -1;simp only [Ln,Ky,Ho]; rw [nn,nah]; exact ⟨rfl,rfl,rfl,rfl,rfl⟩
   ·intro b;rw [hkid];simp only [Ld]; rw [nn];cases b <;> rfl
   ·intro b; rw [hkid]; exact hpn b
   ·intro b;rw [w3,if_neg (fun q=>hdist.1 q.1.symm),if_neg ne];cases hp : Pd P.mem a b with
    | nil=>rfl
    | cons d l =>
     exfalso;obtain ⟨j,u,hj,q | q⟩:=h.e.pd a b d (by rw [hp]; simp)
     ·obtain ⟨b',hk,h8,h11,e1,e2⟩:=q;exact ua (e1 ▸ ((h.mine hj b' (by omega) (by omega)).ts h11 h8).1)
     ·obtain ⟨b',hk,hn',hm⟩:=q;exact ua (h.freshUs hj ⟨b',hk,.inl hn',hm⟩).1
   ·intro b s d hh; exact nsd n un b s d ((w4 _ _ _ _).1 hh)
   ·intro b s d hh; exact nsd a ua b s d ((w4 _ _ _ _).1 hh)
   ·rw [hk'];show Pd M1 t.work.stand (sd M1 t.work.stand t.work.key) = [n];rw [esd,w3,if_pos ⟨rfl,rfl⟩]
theorem Inv.prepare (h : Inv g P) (ht : P.ts[i]? = some t) (hb : t.busy = true) (hn : t.work.next = 7) : Inv g (P.prepare i t.work):=by
 have hT:=h.th i t ht;have hk:=hT.upd hb (by omega) (by omega);unfold PSt.prepare;split
 ·exact h.settle ht hb (.inr hn) rfl
 ·next hroom =>
  rcases hk with hk | hk
  ·have hne : P.needs t.work.kind = (2,3):=by unfold PSt.needs; rw [hk,if_neg (by decide),if_pos h.kind]
   rw [hne] at hroom;simp only [hk,if_true];simp only at hroom;exact h.prepInsert ht hb hn hk (by omega) (by omega)
  ·have hne : P.needs t.work.kind = (0,1):=by unfold PSt.needs; rw [hk,if_pos rfl]
   rw [hne] at hroom;simp only [hk,show ¬ ((2 : Int) = 1) by decide,if_false];simp only at hroom;exact h.prepRemove ht hb hn hk (by omega)
end
end T
end
section
namespace T
section
variable {g g' : Gh} {M M' : PMem} {c c' : Int} {r : PSweep} {i j : Nat} {t t' u : PThread} {ts ts' : List PThread} {P : PSt} {x d : Int} {s : Bool} {key : Int} {k : PWork}
instance (x : Int) (t : PThread) : Decidable (Fr8 x t):=inferInstanceAs (Decidable (_/\_))
theorem Inv.unprep (h : Inv g P) (ht : P.ts[i]? = some t) (hb : t.busy = true) (hn : t.work.next = 8) : ∃ M1 a n,(P.mem.unpend t.work.tsrc t.work.tside).frees t.work.made = M1/\Wm M1 /\
  (∀ x,Fr8 x t ↔ t.work.kind = 1/\(x = a\/x = n))/\(t.work.kind = 1->New g P.mem P.clock t.work a n) /\
  (∀ x,M1.node x = if Fr8 x t then PNode.zero else P.mem.node x)/\(∀ x s,Pd M1 x s = if (x = t.work.tsrc/\s = t.work.tside)\/Fr8 x t then [] else Pd P.mem x s)/\(∀ x s st d,Sd M1 x s st d ↔ Sd P.mem x s st d):=by
 have hT:=h.th i t ht;have m:=h.mine ht hb (by omega) (by omega);obtain ⟨d0,hp⟩:=h.pdOwn ht hb (by omega) (by omega);obtain ⟨w1,w2,w3,w4⟩:=unpend_e h.wm hp;have hnd:=node_ns w1;obtain ⟨M0,hM0⟩ : ∃ M0,M0 = P.mem.unpend t.work.tsrc t.work.tside:=⟨_,rfl⟩;rw [<- hM0] at w1 w2 w3 w4 hnd ⊢;rcases m.kd with k1 | k2
 ·obtain ⟨a,n,q⟩:=hT.f8 hb k1 hn;have hF : ∀ x,Fr8 x t ↔ t.work.kind = 1/\(x = a\/x = n):=by
   intro x;unfold Fr8;rw [q.md]; simp [hb,k1,hn]
  have ua : M0.hasNode a = true:=hasN_used (by rw [hnd]; exact q.ua.1);obtain ⟨a1,a2,a3,a4,a5⟩:=free_e (n:=a) w2 ua ⟨q.z.1,q.z.2.2.1⟩;have un : (M0.free a).hasNode n = true:=by rw [hasN_len a1]; exact hasN_used (by rw [hnd]; exact q.ua.2)
  obtain ⟨b1,b2,b3,b4,b5⟩:=free_e (n:=n) a2 un ⟨q.z.2.1,q.z.2.2.2⟩;refine ⟨(M0.free a).free n,a,n,by rw [q.md]; rfl,b2,hF,fun _=>q,?_,?_,?_⟩
  ·intro x
   have:=hF x
   rw [b3,a3,hnd]
   grind
  ·intro x s
   have:=hF x
   rw [b4,a4,w3]
   grind
  ·intro x s st d;rw [b5,a5,w4];constructor
   ·exact fun h=>h.2.2
   ·intro hh;exact ⟨fun e=>q.sn s st d (e ▸ hh),fun e=>q.sa s st d (e ▸ hh),hh⟩
 ·have hF : ∀ x,¬ Fr8 x t:=by rintro x ⟨_,e,_⟩; omega
  refine ⟨M0,0,0,?_,w2,fun x=>?_,fun e=>by omega,?_,?_,w4⟩
  ·rw [(hT.q8 hb k2 (by omega) (by omega)).2.2]; rfl
  ·exact iff_of_false (hF x) (fun e=>by omega)
  ·intro x; rw [if_neg (hF x)]; exact hnd x
  ·intro x s; rw [w3]; simp [hF]
theorem Inv.takeLate (h : Inv g P) (ht : P.ts[i]? = some t) (hb : t.busy = true) (hn : t.work.next = 8) : Inv g ((P.setM ((P.mem.unpend t.work.tsrc t.work.tside).frees t.work.made)).setW i (t.work.settle { err:=8 })):=by
 have hT:=h.th i t ht;have m:=h.mine ht hb (by omega) (by omega);obtain ⟨m1,m2,m3,m4,m5,m6⟩:=m.ts (by omega) (by omega);obtain ⟨M1,a,n,hM,w1,hF,hNew,nd,w3,w4⟩:=h.unprep ht hb hn;rw [hM,setMW_to P ht];obtain ⟨k',hk'⟩ : ∃ k' : PWork,k' = t.work.settle { err:=8 }:=⟨_,rfl⟩;have hkk : k'.kind = t.work.kind:=by rw [hk']; rfl
 have hkn : k'.next = 12:=by rw [hk']; rfl
 have hkd : k'.ans.did = false:=by rw [hk']; rfl
 rw [show t.work.settle { err:=8 } = k' from hk'.symm];have hct' : Calm { t with work:=k' }:=fun _ _=>.inr (.inr ⟨hkn,fun e=>by have : k'.ans.did = true:=e.2; rw [hkd] at this; cases this⟩)
 have gF : ∀ x,x = 0\/Gd g P.clock P.ts x->¬ Fr8 x t:=by
  intro x hx hf;have hf' : Fr x t:=⟨hf.1,hf.2.1,.inl hf.2.2.1,hf.2.2.2⟩;rcases hx with e | e
  ·exact (h.freshUs ht hf').2.1 e
  ·exact e.2 ⟨i,t,ht,hf'⟩
 have off : ∀ {p : PThread->Prop},(p { t with work:=k' }->False)->(p t->False)->(Ex (P.ts.set i { t with work:=k' }) p ↔ Ex P.ts p):=fun a b=>ex_iff ht (iff_of_false a b)
 have frS : ∀ x,Ex (P.ts.set i { t with work:=k' }) (Fr x)->Ex P.ts (Fr x)/\¬ Fr8 x t:=by
  intro x hx;rcases (Ex.get ht).1 hx with e | ⟨j,u,q1,q2,q3⟩
  ·exact absurd e hct'.fr
  ·exact ⟨⟨j,u,q2,q3⟩,fun hf=>q1 (h.o.pw j i u t x q2 ht q3 ⟨hf.1,hf.2.1,.inl hf.2.2.1,hf.2.2.2⟩)⟩
 have tk : ∀ x,Ex (P.ts.set i { t with work:=k' }) (Tk x) ↔ Ex P.ts (Tk x):=fun x=>off hct'.tk (by rintro ⟨_,_,e,_⟩; omega)
 have own : ∀ x,Ex (P.ts.set i { t with work:=k' }) (Own x) ↔ Ex P.ts (Own x):=fun x=>off hct'.own (by rintro ⟨_,_,e,_⟩; omega)
 have pair : ∀ x y,Ex (P.ts.set i { t with work:=k' }) (Pair x y) ↔ Ex P.ts (Pair x y):=fun x y=>off hct'.pair (by rintro ⟨_,_,e,_⟩; omega)
 have xl : ∀ x s,Ex (P.ts.set i { t with work:=k' }) (Xl x s) ↔ Ex P.ts (Xl x s):=fun x s=>off hct'.xl (by rintro ⟨_,_,e,_⟩; omega)
 have hNO : ∀ x,Fr8 x t->¬ g.O x/\¬ (g.V P.clock).Has x:=by
  intro x hf;obtain ⟨k1,e⟩:=(hF x).1 hf;have q:=(hNew k1).h;rcases e with rfl | rfl
  ·exact ⟨q.2.2.1,q.1⟩
  ·exact ⟨q.2.2.2,q.2.1⟩
 have hgd : ∀ x,Gd g P.clock (P.ts.set i { t with work:=k' }) x ↔ Gd g P.clock P.ts x:=by
  intro x;constructor
  ·rintro ⟨q1,q2⟩;refine ⟨q1,fun q=>?_⟩;rcases q.or ht with q | ⟨j,u,e1,e2,e3⟩
   ·have hf8 : Fr8 x t:=⟨q.1,q.2.1,hn,q.2.2.2⟩
    have:=hNO x hf8
    rcases q1 with e | e
    ·exact this.1 e
    ·exact this.2 e
   ·exact q2 (Ex.other e2 e3 e1)
  ·intro q; exact ⟨q.1,fun q2=>q.2 (frS x q2).1⟩
 have hgr : Gro g g P.mem M1 P.clock P.clock P.ts (P.ts.set i { t with work:=k' }) i:=by
  refine ⟨Int.le_refl _,fun x hx=>(hgd x).2 hx,?_,?_⟩
  ·intro x hx;have hu:=h.usedGd hx;have e:=nd x;rw [if_neg (gF x hx)] at e;simp only [Us,Ky,Ln,Re,Ra]; rw [e];exact ⟨hu,by first | rfl | trivial,by first | rfl | trivial,by first | rfl | trivial,fun _ h=>h,fun hr=>.inl ⟨hr,by first | rfl | trivial⟩⟩
  ·intro x hx;have e:=nd x;by_cases hf : Fr8 x t
   ·rw [if_pos hf] at e; simp only [Us] at hx; rw [e] at hx; cases hx
   ·rw [if_neg hf] at e;simp only [Us,Ho] at hx ⊢; rw [e] at hx ⊢;exact ⟨fun h=>⟨hx,h⟩,fun h=>h.2⟩
 refine h.build (c':=P.clock) ht ?_ w1 ?_ ?_ ?_ ?_
 ·intro j u hne hj;refine h.rel hj (fun x hx=>.inl (frS x hx).1) ?_ ?_ ?_ ?_
  ·intro x hx
   have:=hgr.gn x hx
   exact ⟨this.1,this.2.1,this.2.2.1,this.2.2.2.2.2⟩
  ·intro x hx;have hf : ¬ Fr8 x t:=fun hf=>h.freshNot ht hj hne ⟨hf.1,hf.2.1,.inl hf.2.2.1,hf.2.2.2⟩ hx
   have hns : x≠t.work.tsrc:=fun e=>h.notOther ht hj hne ⟨m1,m2⟩ (e ▸ hx)
   exact ⟨by rw [nd,if_neg hf],fun s=>by rw [w3,if_neg (by rintro (q | q); exact hns q.1; exact hf q)],fun s st d=>(w4 x s st d).1⟩
  ·intro x y hp;rw [nd,if_neg (gF y (.inr (h.pairNot ht hj hp).2.2.1))]
  ·intro x hx;have e:=nd x;by_cases hf : Fr8 x t
   ·rw [if_pos hf] at e; simp only [Us] at hx; rw [e] at hx; cases hx
   ·rw [if_neg hf] at e;simp only [Us,Ho] at hx ⊢; rw [e] at hx ⊢;exact ⟨fun h=>⟨hx,h⟩,fun h=>h.2⟩
 ·have usN : ∀ x,Us M1 x->x = 0\/(g.V P.clock).Has x\/g.O x\/Ex (P.ts.set i { t with work:=k' }) (Fr8 x):=by
   intro x hx;have e:=nd x;by_cases hf : Fr8 x t
   ·rw [if_pos hf] at e; simp only [Us] at hx; rw [e] at hx; cases hx
   ·rw [if_neg hf] at e;simp only [Us] at hx; rw [e] at hx;rcases h.n.us x hx with q | q | q | q
    ·exact .inl q
    ·exact .inr (.inl q)
    ·exact .inr (.inr (.inl q))
    ·exact .inr (.inr (.inr (q.set ht (fun e=>absurd e hf))))
  rcases m.kd with k1 | k2
  ·have q:=hNew k1;refine h.n.two (a:=a) (n:=n) ⟨q.h.2.2.1,q.h.2.2.2,q.h.1,q.h.2.1,q.z.1,q.z.2.1⟩ (fun x e1 e2=>by rw [nd,if_neg (by rw [hF]; rintro ⟨_,e | e⟩; exact e1 e; exact e2 e)]) ?_ ?_ usN hgd tk own pair xl
   ·rw [nd,if_pos ((hF a).2 ⟨k1,.inl rfl⟩)]; exact ⟨rfl,rfl⟩
   ·rw [nd,if_pos ((hF n).2 ⟨k1,.inr rfl⟩)]; exact ⟨rfl,rfl⟩
  ·have hnf : ∀ x,¬ Fr8 x t:=by rintro x ⟨_,e,_⟩; omega
   have hnF : ∀ x,¬ Fr x t:=by rintro x ⟨_,e,_⟩; omega
   exact h.n.same (fun x=>by rw [nd,if_neg (hnf x)]) (fun x=>off hct'.fr8 (hnf x)) (fun x=>off hct'.fr (hnF x)) tk own pair xl
 ·refine ⟨?_,?_⟩
  ·intro x s st d hd
   have:=h.e.ms x s st d ((w4 x s st d).1 hd)
   have hf : ¬ Fr8 x t:=by
    intro hf;obtain ⟨k1,e⟩:=(hF x).1 hf;have q:=hNew k1;have hd:=(w4 x s st d).1 hd;rcases e with rfl | rfl
    ·exact q.sa _ _ _ hd
    ·exact q.sn _ _ _ hd
   simp only [Us,Ln];rw [nd,if_neg hf]; exact this
  ·intro x s d hd;rw [w3] at hd;by_cases e : (x = t.work.tsrc/\s = t.work.tside)\/Fr8 x t
   ·rw [if_pos e] at hd; simp at hd
   ·rw [if_neg e] at hd;rcases (h.e.pd x s d hd).or ht with (q | q) | ⟨j,u,q1,q2,q3⟩
    ·obtain ⟨_,_,_,_,e1,e2⟩:=q; exact absurd (.inl ⟨e1.symm,e2.symm⟩) e
    ·exact absurd (.inr q) e
    ·exact Ex.other q2 q3 q1
 ·refine h.o.keep ht (Int.le_refl _) (fun x hx=>absurd hx hct'.fr) (fun x y hx=>absurd hx hct'.pair) ?_ ?_
  ·intro x hx;have e:=nd x;by_cases hf : Fr8 x t
   ·rw [if_pos hf] at e; simp only [Us] at hx; rw [e] at hx; cases hx
   ·rw [if_neg hf] at e;right; simp only [Us,Ho] at hx ⊢; rw [e] at hx ⊢; exact ⟨hx,rfl⟩
  ·intro x _ hr;have hO:=h.n.od x (h.n.re x hr).1;have hf : ¬ Fr8 x t:=fun hf=>(hNO x hf).1 hO
   simp only [Re,Ra] at *; rw [nd,if_neg hf]; exact ⟨hr,rfl⟩
 ·refine hT.own (k:=k') h.n.one.1 hb (by omega) (by omega) hgr (by rw [hk']; exact ⟨rfl,rfl,rfl,rfl,rfl,rfl,rfl,rfl,rfl⟩) (by omega) (by omega) (by omega) (by omega) (by omega) (by omega) (by omega) (by omega) (by omega) (by omega) ?_ (by omega) (by omega);rintro _ (e | e | e | e)
  ·omega
  ·omega
  ·omega
  ·rw [hkd] at e; exact absurd e.2 (by simp)
end
end T
end
end Go.Proofs.YtfccelbmacjifabGreat
