import Derived.Test.YtfccelbmacjifabGreatP0
import Derived.Test.YtfccelbmacjifabGreatP3
set_option linter.unusedSimpArgs false
set_option maxRecDepth 100000
set_option maxHeartbeats 4000000
namespace Go.Proofs.YtfccelbmacjifabGreat
section
section
variable {C C' : Int->Prop} {M M' : PMem} {c c' : Int} {r : PSweep} {i j : Nat} {t t' : PThread} {ts : List PThread} {P : PSt} {x : Int} {k : PWork}
theorem Inv.blank (h : Inv C P) (hx : ¬ Us P.mem x) : Pd P.mem x = []/\∀ s d,¬ Sd P.mem x s d:=by
 refine ⟨?_,fun s d hs=>hx (h.e.ms x s d hs).1⟩;cases hp : Pd P.mem x with
 | nil=>rfl
 | cons d l =>
  exfalso;obtain ⟨j,u,hj,hu⟩:=h.e.pd x d (by rw [hp]; simp);rcases hu with ⟨b,_,h8,h11,e⟩ | ⟨b,hk1,h8,hm⟩
  ·have h1:=(h.th j u hj).hStand b (by omega) (by omega);rw [e] at h1;exact hx h1.1
  ·obtain ⟨n,f1,f2,f3,f4,f5,f6,_⟩:=(h.th j u hj).f8 b hk1 (.inl h8);rw [f1] at hm;simp at hm;rw [hm] at hx;exact hx f4
theorem mem_one {a b : Int} {l : List Int} (h : l = [b]) (ha : a ∈ l) : a = b:=by rw [h] at ha; simpa using ha
theorem Inv.grown (h : Inv C P) (ht : P.ts[i]? = some t) (hb : t.busy = true) (hn : t.work.next = 7) (hr1 : 0 < P.mem.room.1) (hr2 : 1 < P.mem.room.2) :
  ∃ (n : Int) (M1 : PMem),¬ Us P.mem n/\P.prepareInsert t.work = (M1,{ t.work with made:=[n],tsrc:=t.work.stand,tside:=false })/\Wm M1/\(∀ x,M1.node x = if x = n then linked false t.work.ahead (PNode.made t.work.key t.work.value) else P.mem.node x)/\(∀ x,Pd M1 x = if x = t.work.stand then [n] else if x = n then [t.work.ahead] else Pd P.mem x)/\(∀ x s d,Sd M1 x s d ↔ Sd P.mem x s d):=by
 have hT:=h.th i t ht;obtain ⟨_,m1,m2,m3,m4,m5,m6⟩:=h.mine ht hb (by omega) (by omega);have hp:=h.noPend ht hb hn;obtain ⟨n,n1,n2,n3,n4,n5,n6,n7⟩:=make_e h.wm t.work.key t.work.value hr1;have hnu : ¬ Us P.mem n:=by intro hu; simp only [Us] at hu; rw [n1] at hu; cases hu
 obtain ⟨b1,b2⟩:=h.blank hnu;have hsn : t.work.stand≠n:=by rintro e; rw [e] at m2; exact hnu m2
 unfold PSt.prepareInsert;simp only [if_pos h.kind];rw [n3];generalize hM1 : (P.mem.make t.work.key t.work.value).1 = M1 at *;have hu1 : (M1.node n).used = true:=by rw [n7,if_pos rfl]; rfl
 have hl1 : (M1.node n).links = 0:=by rw [n7,if_pos rfl]; rfl
 have hrm : M1.room.2 = P.mem.room.2:=by unfold PMem.room; rw [n4]
 obtain ⟨l1,l2,l3,l4,l5,l6⟩:=addLink_e (to:=t.work.ahead) n6 hu1 hl1 (by rw [pd_es n4]; exact b1) (by omega);generalize hM2 : M1.addLink n t.work.ahead = M2 at *;have hsd : M1.sideFor t.work.stand t.work.key = false:=by
  unfold PMem.sideFor;rw [n7,if_neg hsn,(h.gdLinks (.inl m1)).1]; rfl
 have hs2 : M2.node t.work.stand = P.mem.node t.work.stand:=by rw [l3,if_neg hsn,n7,if_neg hsn]
 have hlk : M2.hasLink t.work.stand false = true:=by
  rw [hasLink_iff] at m5 ⊢;rw [hs2,hasN_len l1,hasN_len n5]; exact m5
 obtain ⟨e,he,hu⟩:=count_some (l:=M2.es) (p:=fun x=>!x.used) (by
  have : 0 < M2.room.2:=by omega
  unfold PMem.room at this; simpa using this)
 obtain ⟨kk,g1,g2,g3,g4,g5⟩:=pend_e (to:=n) l2 ⟨e,he,by simpa using hu⟩ hlk (by rw [l4,if_neg hsn,pd_es n4]; exact hp);rw [hsd];refine ⟨n,M2.pend t.work.stand false n,hnu,?_,g3,?_,?_,?_⟩
 ·rw [hT.m7 hb (by omega)]; rfl
 ·intro x;have : (M2.pend t.work.stand false n).node x = M2.node x:=by rw [g2]; rfl
  rw [this,l3];by_cases e : x = n
  ·rw [if_pos e,if_pos e,n7,if_pos rfl]
  ·rw [if_neg e,if_neg e,n7,if_neg e]
 ·intro x;rw [g4];by_cases e : x = t.work.stand
  ·rw [if_pos e,if_pos e]
  ·rw [if_neg e,if_neg e,l4];by_cases e2 : x = n
   ·rw [if_pos e2,if_pos e2]
   ·rw [if_neg e2,if_neg e2,pd_es n4]
 ·intro x s d;rw [g5,l5,sd_es n4]
theorem InvN.grow (h : InvN C M c r) {n : Int} (hnu : ¬ Us M n) (nd : PNode) (hk : 0<=nd.key/\nd.key<=1099511627776) (hd : nd.dead = false) (hr : nd.retired = false) (hm : ∀ x,M'.node x = if x = n then nd else M.node x) : InvN C M' c r:=by
 have c1 : ∀ x,C x->x≠n:=fun x hx e=>hnu (e ▸ (h.mc x hx).1)
 have d1 : ∀ x,De M x->x≠n:=fun x hx e=>hnu (e ▸ (h.md x hx).1)
 have o1 : (1 : Int)≠n:=fun e=>hnu (e ▸ h.a1.2.1)
 have o0 : (0 : Int)≠n:=c1 0 h.a0.1;have e0 : ∀ x,x≠n->M'.node x = M.node x:=fun x hx=>by rw [hm,if_neg hx]
 have en : M'.node n = nd:=by rw [hm,if_pos rfl]
 have dn : ∀ x,De M' x->De M x/\x≠n:=by
  intro x hx;by_cases e : x = n
  ·subst e; simp only [De] at hx; rw [en,hd] at hx; cases hx
  ·simp only [De] at hx ⊢; rw [e0 x e] at hx; exact ⟨hx,e⟩
 have rn : ∀ x,Re M' x->Re M x/\x≠n:=by
  intro x hx;by_cases e : x = n
  ·subst e; simp only [Re] at hx; rw [en,hr] at hx; cases hx
  ·simp only [Re] at hx ⊢; rw [e0 x e] at hx; exact ⟨hx,e⟩
 obtain ⟨a0,a1,mc,kr,mi,md,mr,mo⟩:=h;refine ⟨?_,?_,?_,?_,?_,?_,?_,?_⟩
 ·rw [e0 0 o0]; exact a0
 ·simp only [Us,Ky]; rw [e0 1 o1]; exact a1
 ·intro x hx;obtain ⟨q1,q2,q3,q4,q5,q6⟩:=mc x hx;have hxn:=c1 x hx;have hln : Ld M x≠n:=by rcases q4 with q | q; rw [q]; exact o1; exact c1 _ q
  simp only [Us,Ld,Lt,Ky] at *;rw [e0 x hxn,e0 _ hln];exact ⟨q1,q2,q3,q4,q5,q6⟩
 ·intro x hx h0 h1;by_cases e : x = n
  ·subst e; simp only [Ky]; rw [en]; exact hk
  ·simp only [Us,Ky] at hx ⊢; rw [e0 x e] at hx ⊢; exact kr x hx h0 h1
 ·intro x y hx hy he;simp only [Ld] at he;rw [e0 x (c1 x hx),e0 y (c1 y hy)] at he;exact mi x y hx hy he
 ·intro x hx;obtain ⟨hd,hne⟩:=dn x hx;simp only [Us]; rw [e0 x hne]; exact md x hd
 ·intro x hx;obtain ⟨hd,hne⟩:=rn x hx;simp only [De,Ra]; rw [e0 x hne]; exact mr x hd
 ·intro y hy hc;obtain ⟨hd,hne⟩:=dn y hy;obtain ⟨q1,q2,q3⟩:=mo y hd hc;have hln : Ld M y≠n:=by rcases q3 with q | q | q; rw [q]; exact o1; exact c1 _ q; exact d1 _ q.1
  simp only [Ld,Ky,De,Re,Ra] at *;rw [e0 y hne,e0 _ hln];exact ⟨q1,q2,q3⟩
theorem Inv.prepI (h : Inv C P) (ht : P.ts[i]? = some t) (hb : t.busy = true) (hn : t.work.next = 7) (hk : t.work.kind = 1) (hr1 : 0 < P.mem.room.1) (hr2 : 1 < P.mem.room.2) : Inv C ((P.setM (P.prepareInsert t.work).1).setW i { (P.prepareInsert t.work).2 with next:=8 }):=by
 have hT:=h.th i t ht;have hi:=(List.getElem?_eq_some_iff.1 ht).1;obtain ⟨_,m1,m2,m3,m4,m5,_⟩:=h.mine ht hb (by omega) (by omega);obtain ⟨c1,c2,c3⟩:=hT.c7 hb (by omega) (by omega);have c10:=hT.c10 hb (by omega) (by omega);have hky:=hT.ky hb (by omega);obtain ⟨n,M1,hnu,g0,g1,g2,g3,g4⟩:=h.grown ht hb hn hr1 hr2;obtain ⟨b1,b2⟩:=h.blank hnu;rw [g0,setMW_to P ht];have hct : Calm t:=calm6 fun _=>by omega
 have e0 : ∀ x,x≠n->M1.node x = P.mem.node x:=fun x hx=>by rw [g2,if_neg hx]
 have en : M1.node n = linked false t.work.ahead (PNode.made t.work.key t.work.value):=by rw [g2,if_pos rfl]
 have un : ∀ x,Us P.mem x->x≠n:=fun x hx e=>hnu (e ▸ hx)
 have gd : ∀ x,x = 1\/Gd P.mem C x->x≠n:=fun x hx=>un x (h.gdUs hx)
 have hsn:=un _ m2;have hn0 : n≠0:=fun e=>hnu (by rw [e]; exact h.gdUs (.inr (.inl h.n.a0.1)))
 have hn1 : n≠1:=fun e=>hnu (by rw [e]; exact h.n.a1.2.1)
 have hnC : ¬ C n:=fun hc=>hnu (h.n.mc n hc).1
 have hnD : ¬ De P.mem n:=fun hc=>hnu (h.n.md n hc).1
 have han:=gd _ (hT.cs hb (by omega) (by omega)).1;have usb : ∀ x,Us M1 x->x≠n->Us P.mem x:=fun x hx hne=>by simp only [Us] at hx ⊢; rw [e0 x hne] at hx; exact hx
 have hfr' : ∀ x,Fresh x { t with work:={ t.work with made:=[n],tsrc:=t.work.stand,tside:=false,next:=8 } }->x = n:=by
  rintro x ⟨_,_,_,q⟩;have : x ∈ [n]:=q;simpa using this
 have hga : ∀ x,x = 1\/Gd P.mem C x->Us M1 x/\Ky M1 x = Ky P.mem x/\(Gd P.mem C x->Gd M1 C x)/\(Re M1 x->(Re P.mem x/\Ra M1 x = Ra P.mem x)\/P.clock<=Ra M1 x):=by
  intro x hx;have hne:=gd x hx;simp only [Us,Ky,Gd,De,Re,Ra]; rw [e0 x hne];exact ⟨h.gdUs hx,rfl,id,fun hr=>.inl ⟨hr,rfl⟩⟩
 refine h.build (t':={ t with work:={ t.work with made:=[n],tsrc:=t.work.stand,tside:=false,next:=8 } }) ht ⟨Int.le_refl _,hga,?_,?_⟩ g1 (h.n.grow hnu _ hky rfl rfl g2) ?_ ?_ ?_
 ·intro x hu hh hf;refine ⟨e0 x (un x hu),?_,fun s d=>(g4 x s d).1,Iff.rfl⟩;rw [g3,if_neg (by rintro rfl; exact hh m3),if_neg (un x hu)]
 ·intro x hx j hj;by_cases e : x = n
  ·subst e;simp only [Ho];rw [en];constructor
   ·intro hh; have : (-1 : Int) = j:=hh; omega
   ·rintro ⟨hu,_⟩; exact absurd hu hnu
  ·simp only [Ho]; rw [e0 x e];exact ⟨fun hh=>⟨usb x hx e,hh⟩,fun hh=>hh.2⟩
 ·obtain ⟨ms,pd,nw,ol,dr⟩:=h.e;have hvd : ∀ x s,Vd P.mem P.ts x s->Vd M1 (P.ts.set i { t with work:={ t.work with made:=[n],tsrc:=t.work.stand,tside:=false,next:=8 } }) x s:=fun x s hv=>vd_mono ht hv (fun d=>(g4 x s d).2) (fun hh=>absurd hh hct.vs)
  have dne : ∀ x s d,Sd P.mem x s d->d≠n:=by
   intro x s d hs;rcases (ms x s d hs).2.2.2.2.2.1 with q | q | q
   ·rw [q]; exact fun e=>hn1 e.symm
   ·exact fun e=>hnC (e ▸ q)
   ·exact fun e=>hnD (e ▸ q)
  refine ⟨?_,?_,?_,?_,?_⟩
  ·intro x s d hs;have hs:=(g4 x s d).1 hs;obtain ⟨q1,q2,q3,q4,q5,q6,q7⟩:=ms x s d hs;simp only [Us,De,Lt,Ky];rw [e0 x (un x q1),e0 d (dne x s d hs)];exact ⟨q1,q2,q3,q4,q5,q6,q7⟩
  ·intro x d hd;rw [g3] at hd;split at hd
   ·next e=>subst e; exact Ex.new ht (.inl ⟨hb,.inl hk,by show 8<=8; omega,by show 8<=11; omega,rfl⟩)
   ·split at hd
    ·next e=>exact Ex.new ht (.inr ⟨hb,hk,rfl,by show x ∈ [n]; rw [e]; simp⟩)
    ·exact (pd x d hd).set ht (fun hp=>hp.elim (fun h=>absurd h hct.pends) (fun h=>absurd h hct.fresh8))
  ·intro x s d hs;have hs:=(g4 x s d).1 hs;simp only [Ld];rw [e0 x (un x (ms x s d hs).1)];rcases nw x s d hs with q | ⟨s',q1,q2⟩
   ·exact .inl q
   ·exact .inr ⟨s',q1,hvd x s' q2⟩
  ·intro x s d hs hr;have hs:=(g4 x s d).1 hs;simp only [Re,Ra] at hr ⊢;rw [e0 d (dne x s d hs)] at hr ⊢;rw [e0 x (un x (ms x s d hs).1)];rcases ol x s d hs hr with ⟨s',q1,q2,q3⟩ | q
   ·exact .inl ⟨s',q1,q2,hvd x s' q3⟩
   ·exact .inr q
  ·intro hm x s d hs hin hf;have hs:=(g4 x s d).1 hs;simp only [Ra] at hf ⊢;rw [e0 d (dne x s d hs)] at hf ⊢;rw [e0 x (un x (ms x s d hs).1)];exact dr (by simpa using hm) x s d hs hin hf
 ·obtain ⟨us,ki,ou,ho,pw,sw,sc,sm,sz⟩:=h.o;refine ⟨?_,?_,?_,?_,?_,?_,sc,by simpa using sm,sz⟩
  ·intro x hx;by_cases e : x = n
   ·exact .inr (.inr (.inr (Ex.new ht ⟨hb,hk,.inl rfl,by show x ∈ [n]; rw [e]; simp⟩)))
   ·simp only [De];rw [e0 x e];rcases us x (usb x hx e) with q | q | q | q
    ·exact .inl q
    ·exact .inr (.inl q)
    ·exact .inr (.inr (.inl q))
    ·exact .inr (.inr (.inr (q.set ht (fun hf=>absurd hf hct.fresh))))
  ·intro x hx hC;have e:=un x (h.n.mc x hC).1;simp only [De] at hx;rw [e0 x e] at hx;exact (ki x hx hC).set ht (fun hf=>absurd hf hct.killing)
  ·intro x hx hC hr;have e : x≠n:=by
    rintro rfl;simp only [De] at hx;rw [en] at hx;exact nomatch hx
   simp only [De] at hx;rw [e0 x e] at hx hr;exact (ou x hx hC hr).set ht (fun hf=>absurd hf hct.outing)
  ·intro x hx;by_cases e : x = n
   ·left; simp only [Ho]; rw [e,en]; rfl
   ·simp only [Ho]; rw [e0 x e,List.length_set]; exact ho x (usb x hx e)
  ·intro a b u v x ha hb' hu hv;have old : ∀ {w : PThread} {a : Nat},P.ts[a]? = some w->Fresh x w->Us P.mem x:=by
    rintro w a hw ⟨q1,q2,q3,q4⟩;obtain ⟨m,f1,_,_,f4,_⟩:=(h.th a w hw).f8 q1 q2 q3;rw [mem_one f1 q4]; exact f4
   rw [List.getElem?_set] at ha hb';by_cases ea : i = a
   ·subst ea; simp [hi] at ha; subst ha;by_cases eb : i = b
    ·exact eb
    ·rw [if_neg eb] at hb';exact absurd (hfr' x hu) (un x (old hb' hv))
   ·rw [if_neg ea] at ha;by_cases eb : i = b
    ·subst eb; simp [hi] at hb'; subst hb';exact absurd (hfr' x hv) (un x (old ha hu))
    ·rw [if_neg eb] at hb';exact pw a b u v x ha hb' hu hv
  ·intro x hx;have q:=sw x hx;have e:=un x (h.n.md x (h.n.mr x q.1).1).1;simp only [Re,Ra]; rw [e0 x e]; exact q
 ·have hst : Pd M1 t.work.stand = [n]:=by rw [g3,if_pos rfl]
  have hpn : Pd M1 n = [t.work.ahead]:=by rw [g3,if_neg (fun e=>hsn e.symm),if_pos rfl]
  refine hT.own (k:={ t.work with made:=[n],tsrc:=t.work.stand,tside:=false,next:=8 }) hb (by omega) (by omega) (Int.le_refl _) hga ?_ ⟨rfl,rfl,rfl,rfl,rfl,rfl,rfl⟩ (by show 6<=8; omega) (by show 8<=12; omega) ?_ ?_ ?_ ?_ ?_ ?_ ?_ ?_ ?_ ?_ ?_ ?_
  ·intro x hx;by_cases e : x = n
   ·subst e;simp only [Ho];rw [en];constructor
    ·intro hh; have : (-1 : Int) = i:=hh; omega
    ·rintro ⟨hu,_⟩; exact absurd hu hnu
   ·simp only [Ho]; rw [e0 x e];exact ⟨fun hh=>⟨usb x hx e,hh⟩,fun hh=>hh.2⟩
  ·intro hh; have : (8 : Nat)<=7:=hh; omega
  ·intro _ _; simp only [Ky]; rw [e0 _ hsn,e0 _ han]; exact ⟨c1,c2,c3⟩
  ·intro _ _; simp only [Ld]; rw [e0 _ hsn]; exact c10
  ·intro k2; have : t.work.kind = 2:=k2; omega
  ·intro _ hh; have : (8 : Nat) = 10:=hh; omega
  ·intro hh; have : (8 : Nat) = 9:=hh; omega
  ·intro _ hh; have : (8 : Nat) = 11\/((8 : Nat) = 12/\_):=hh; omega
  ·intro _ _; exact ⟨rfl,rfl⟩
  ·intro _ _;refine ⟨n,rfl,hn0,hn1,?_,hnC,?_,?_,?_,?_,hst,fun _=>⟨hpn,fun s d hs=>b2 s d ((g4 n s d).1 hs)⟩⟩
   ·simp only [Us]; rw [en]; rfl
   ·rw [en]; rfl
   ·simp only [Ky]; rw [en]; rfl
   ·rw [en]; rfl
   ·simp only [Ld]; rw [en]; rfl
  ·intro k2; have : t.work.kind = 2:=k2; omega
  ·intro hh; have : (8 : Nat) = 11:=hh; omega
  ·intro hh; have : 9<=(8 : Nat):=hh; omega
end
end
section
section
variable {C C' : Int->Prop} {M M' : PMem} {c c' : Int} {r : PSweep} {i j : Nat} {t t' : PThread} {ts : List PThread} {P : PSt} {x : Int} {k : PWork}
theorem InvN.shrink (h : InvN C M c r) {n : Int} (hC : ¬ C n) (hd : (M.node n).dead = false) (h0 : n≠0/\n≠1) (hm : ∀ x,M'.node x = if x = n then PNode.zero else M.node x) : InvN C M' c r:=by
 have c1 : ∀ x,C x->x≠n:=fun x hx e=>hC (e ▸ hx)
 have d1 : ∀ x,De M x->x≠n:=by rintro x hx rfl; simp only [De] at hx; rw [hd] at hx; cases hx
 have o1 : (1 : Int)≠n:=fun e=>h0.2 e.symm
 have o0 : (0 : Int)≠n:=fun e=>h0.1 e.symm
 have e0 : ∀ x,x≠n->M'.node x = M.node x:=fun x hx=>by rw [hm,if_neg hx]
 have en : M'.node n = PNode.zero:=by rw [hm,if_pos rfl]
 have dn : ∀ x,De M' x->De M x/\x≠n:=by
  intro x hx;by_cases e : x = n
  ·subst e; simp only [De] at hx; rw [en] at hx; exact nomatch hx
  ·simp only [De] at hx ⊢; rw [e0 x e] at hx; exact ⟨hx,e⟩
 have rn : ∀ x,Re M' x->Re M x/\x≠n:=by
  intro x hx;by_cases e : x = n
  ·subst e; simp only [Re] at hx; rw [en] at hx; exact nomatch hx
  ·simp only [Re] at hx ⊢; rw [e0 x e] at hx; exact ⟨hx,e⟩
 obtain ⟨a0,a1,mc,kr,mi,md,mr,mo⟩:=h;refine ⟨?_,?_,?_,?_,?_,?_,?_,?_⟩
 ·rw [e0 0 o0]; exact a0
 ·simp only [Us,Ky]; rw [e0 1 o1]; exact a1
 ·intro x hx;obtain ⟨q1,q2,q3,q4,q5,q6⟩:=mc x hx;have hxn:=c1 x hx;have hln : Ld M x≠n:=by rcases q4 with q | q; rw [q]; exact o1; exact c1 _ q
  simp only [Us,Ld,Lt,Ky] at *;rw [e0 x hxn,e0 _ hln];exact ⟨q1,q2,q3,q4,q5,q6⟩
 ·intro x hx h0 h1;by_cases e : x = n
  ·subst e; simp only [Us] at hx; rw [en] at hx; exact nomatch hx
  ·simp only [Us,Ky] at hx ⊢; rw [e0 x e] at hx ⊢; exact kr x hx h0 h1
 ·intro x y hx hy he;simp only [Ld] at he;rw [e0 x (c1 x hx),e0 y (c1 y hy)] at he;exact mi x y hx hy he
 ·intro x hx;obtain ⟨hd,hne⟩:=dn x hx;simp only [Us]; rw [e0 x hne]; exact md x hd
 ·intro x hx;obtain ⟨hd,hne⟩:=rn x hx;simp only [De,Ra]; rw [e0 x hne]; exact mr x hd
 ·intro y hy hc;obtain ⟨hd,hne⟩:=dn y hy;obtain ⟨q1,q2,q3⟩:=mo y hd hc;have hln : Ld M y≠n:=by rcases q3 with q | q | q; rw [q]; exact o1; exact c1 _ q; exact d1 _ q.1
  simp only [Ld,Ky,De,Re,Ra] at *;rw [e0 y hne,e0 _ hln];exact ⟨q1,q2,q3⟩
theorem Inv.overI (h : Inv C P) (ht : P.ts[i]? = some t) (hb : t.busy = true) (hn : t.work.next = 8) (hk : t.work.kind = 1) (a : BAns) (ha : a.did = false) : Inv C ((P.setM ((P.mem.unpend t.work.stand false).frees t.work.made)).setW i (t.work.settle a)):=by
 have hT:=h.th i t ht;have hi:=(List.getElem?_eq_some_iff.1 ht).1;obtain ⟨_,m1,m2,m3,m4,m5,_⟩:=h.mine ht hb (by omega) (by omega);obtain ⟨n,f1,f2,f3,f4,f5,f6,f7,f8,f9,f10,f11⟩:=hT.f8 hb hk (.inl hn);obtain ⟨f12,f13⟩:=f11 hn;obtain ⟨u1,u2,u3,u4⟩:=unpend_e h.wm f10;have hnd:=node_ns u1;obtain ⟨v1,v2,v3,v4,v5⟩:=free_e (n:=n) u2 (hasN_used (by rw [hnd]; exact f4)) ⟨f2,f3⟩;have hfr : (P.mem.unpend t.work.stand false).frees t.work.made = (P.mem.unpend t.work.stand false).free n:=by rw [f1]; rfl
 rw [hfr,setMW_to P ht];have g2 : ∀ x,((P.mem.unpend t.work.stand false).free n).node x = if x = n then PNode.zero else P.mem.node x:=by
  intro x; rw [v3]; split
  ·rfl
  ·exact hnd x
 have g3 : ∀ x,Pd ((P.mem.unpend t.work.stand false).free n) x = if x = n then [] else if x = t.work.stand then [] else Pd P.mem x:=by
  intro x; rw [v4]; split
  ·rfl
  ·exact u3 x
 have g4 : ∀ x s d,Sd ((P.mem.unpend t.work.stand false).free n) x s d ↔ Sd P.mem x s d:=by
  intro x s d;rw [v5,u4];exact ⟨fun h=>h.2,fun h=>⟨by rintro rfl; exact f13 s d h,h⟩⟩
 generalize hM : (P.mem.unpend t.work.stand false).free n = M1 at *;have e0 : ∀ x,x≠n->M1.node x = P.mem.node x:=fun x hx=>by rw [g2,if_neg hx]
 have en : M1.node n = PNode.zero:=by rw [g2,if_pos rfl]
 have gd : ∀ x,x = 1\/Gd P.mem C x->x≠n:=by
  rintro x hx rfl;rcases hx with q | q | q
  ·exact f3 q
  ·exact f5 q
  ·simp only [De] at q; rw [f6] at q; cases q
 have usb : ∀ x,Us M1 x->x≠n/\Us P.mem x:=by
  intro x hx;by_cases e : x = n
  ·subst e; simp only [Us] at hx; rw [en] at hx; exact nomatch hx
  ·simp only [Us] at hx ⊢; rw [e0 x e] at hx; exact ⟨e,hx⟩
 have h12 : (t.work.settle a).next = 12:=rfl
 have hnd2 : ¬ (t.work.settle a).ans.did = true:=by show ¬ a.did = true; rw [ha]; decide
 have hct' : Calm { t with work:=t.work.settle a }:=calm6 fun _=>.inr (.inr ⟨rfl,fun hh=>hnd2 hh.2⟩)
 have hfx : ∀ x,Fresh x t ↔ x = n:=by
  intro x;constructor
  ·rintro ⟨_,_,_,q⟩; exact mem_one f1 q
  ·rintro rfl; exact ⟨hb,hk,.inl hn,by rw [f1]; simp⟩
 have hga : ∀ x,x = 1\/Gd P.mem C x->Us M1 x/\Ky M1 x = Ky P.mem x/\(Gd P.mem C x->Gd M1 C x)/\(Re M1 x->(Re P.mem x/\Ra M1 x = Ra P.mem x)\/P.clock<=Ra M1 x):=by
  intro x hx;have hne:=gd x hx;simp only [Us,Ky,Gd,De,Re,Ra]; rw [e0 x hne];exact ⟨h.gdUs hx,rfl,id,fun hr=>.inl ⟨hr,rfl⟩⟩
 have hgc : ∀ x,Us M1 x->∀ j : Nat,(Ho M1 x = j ↔ Us P.mem x/\Ho P.mem x = j):=by
  intro x hx j;obtain ⟨q1,q2⟩:=usb x hx;simp only [Ho]; rw [e0 x q1];exact ⟨fun hh=>⟨q2,hh⟩,fun hh=>hh.2⟩
 refine h.build (t':={ t with work:=t.work.settle a }) ht ⟨Int.le_refl _,hga,?_,fun x hx j _=>hgc x hx j⟩ v2 (h.n.shrink f5 f6 ⟨f2,f3⟩ g2) ?_ ?_ ?_
 ·intro x hu hh hf;have hne : x≠n:=fun e=>hf ((hfx x).2 e)
  refine ⟨e0 x hne,?_,fun s d=>(g4 x s d).1,Iff.rfl⟩;rw [g3,if_neg hne,if_neg (by rintro rfl; exact hh m3)]
 ·obtain ⟨ms,pd,nw,ol,dr⟩:=h.e;have hvd : ∀ x s,Vd P.mem P.ts x s->Vd M1 (P.ts.set i { t with work:=t.work.settle a }) x s:=fun x s hv=>vd_mono ht hv (fun d=>(g4 x s d).2) (by rintro ⟨_,_,h9,_⟩; omega)
  have sne : ∀ x s d,Sd P.mem x s d->x≠n:=by rintro x s d hs rfl; exact f13 s d hs
  have dne : ∀ x s d,Sd P.mem x s d->d≠n:=by
   intro x s d hs
   have:=(ms x s d hs).2.2.2.2.2.1
   exact gd d this
  refine ⟨?_,?_,?_,?_,?_⟩
  ·intro x s d hs;have hs:=(g4 x s d).1 hs;simp only [Us,De,Lt,Ky];rw [e0 x (sne x s d hs),e0 d (dne x s d hs)];exact ms x s d hs
  ·intro x d hd;rw [g3] at hd;split at hd
   ·cases hd
   ·next e1 =>
    split at hd
    ·cases hd
    ·next e2 =>
     refine (pd x d hd).set ht ?_;rintro (⟨_,_,_,_,q⟩ | ⟨q1,q2,q3,q4⟩)
     ·exact absurd q.symm e2
     ·exact absurd ((hfx x).1 ⟨q1,q2,.inl q3,q4⟩) e1
  ·intro x s d hs;have hs:=(g4 x s d).1 hs;simp only [Ld];rw [e0 x (sne x s d hs)];rcases nw x s d hs with q | ⟨s',q1,q2⟩
   ·exact .inl q
   ·exact .inr ⟨s',q1,hvd x s' q2⟩
  ·intro x s d hs hr;have hs:=(g4 x s d).1 hs;simp only [Re,Ra] at hr ⊢;rw [e0 d (dne x s d hs)] at hr ⊢;rw [e0 x (sne x s d hs)];rcases ol x s d hs hr with ⟨s',q1,q2,q3⟩ | q
   ·exact .inl ⟨s',q1,q2,hvd x s' q3⟩
   ·exact .inr q
  ·intro hm x s d hs hin hf;have hs:=(g4 x s d).1 hs;simp only [Ra] at hf ⊢;rw [e0 d (dne x s d hs)] at hf ⊢;rw [e0 x (sne x s d hs)];exact dr (by simpa using hm) x s d hs hin hf
 ·obtain ⟨us,ki,ou,ho,pw,sw,sc,sm,sz⟩:=h.o;refine ⟨?_,?_,?_,?_,?_,?_,sc,by simpa using sm,sz⟩
  ·intro x hx;obtain ⟨e,hu⟩:=usb x hx;simp only [De];rw [e0 x e];rcases us x hu with q | q | q | q
   ·exact .inl q
   ·exact .inr (.inl q)
   ·exact .inr (.inr (.inl q))
   ·exact .inr (.inr (.inr (q.set ht (fun hf=>absurd ((hfx x).1 hf) e))))
  ·intro x hx hC;have e:=gd x (.inr (.inl hC));simp only [De] at hx;rw [e0 x e] at hx;exact (ki x hx hC).set ht (by rintro ⟨_,_,q,_⟩; omega)
  ·intro x hx hC hr;have e : x≠n:=by
    rintro rfl;simp only [De] at hx;rw [en] at hx;exact nomatch hx
   simp only [De] at hx;rw [e0 x e] at hx hr;exact (ou x hx hC hr).set ht (by rintro ⟨_,_,q,_⟩; omega)
  ·intro x hx;obtain ⟨e,hu⟩:=usb x hx;simp only [Ho]; rw [e0 x e,List.length_set]; exact ho x hu
  ·intro p q u v x hp hq hu hv;rw [List.getElem?_set] at hp hq;by_cases ea : i = p
   ·subst ea; simp [hi] at hp; subst hp; exact absurd hu hct'.fresh
   ·by_cases eb : i = q
    ·subst eb; simp [hi] at hq; subst hq; exact absurd hv hct'.fresh
    ·rw [if_neg ea] at hp; rw [if_neg eb] at hq;exact pw p q u v x hp hq hu hv
  ·intro x hx;have q:=sw x hx;have e:=gd x (.inr (.inr (h.n.mr x q.1).1));simp only [Re,Ra]; rw [e0 x e]; exact q
 ·refine hT.own (k:=t.work.settle a) hb (by omega) (by omega) (Int.le_refl _) hga (fun x hx=>hgc x hx i) ⟨rfl,rfl,rfl,rfl,rfl,rfl,rfl⟩ (by rw [h12]; omega) (by rw [h12]; omega) ?_ ?_ ?_ ?_ ?_ ?_ ?_ ?_ ?_ ?_ ?_ ?_
  all_goals (rw [h12])
  ·omega
  ·omega
  ·omega
  ·intros; omega
  ·intros; omega
  ·omega
  ·rintro _ (h2 | h2)
   ·omega
   ·exact absurd h2.2 hnd2
  ·omega
  ·intros; omega
  ·intros; omega
  ·omega
  ·omega
theorem Inv.takeI (h : Inv C P) (ht : P.ts[i]? = some t) (hb : t.busy = true) (hn : t.work.next = 8) (hk : t.work.kind = 1) (a : BAns) (ha : a.did = true/\a.stamp = P.clock + 1) : Inv C ((({ P with clock:=P.clock + 1 } : PSt).setM (P.mem.stampsNew (P.clock + 1) t.work.made)).setW i { t.work with ans:=a,next:=10 }):=by
 have hT:=h.th i t ht;obtain ⟨_,m1,m2,m3,m4,m5,_⟩:=h.mine ht hb (by omega) (by omega);obtain ⟨c1,c2,c3⟩:=hT.c7 hb (by omega) (by omega);have c10:=hT.c10 hb (by omega) (by omega);have htm:=hT.tm hb (by omega);have hc0:=h.o.sc.2;obtain ⟨n,f1,f2,f3,f4,f5,f6,f7,f8,f9,f10,f11⟩:=hT.f8 hb hk (.inl hn);obtain ⟨f12,f13⟩:=f11 hn;obtain ⟨g1,g2,g3,g4⟩:=stamp_e (P.clock + 1) h.wm f12;have hsn : P.mem.stampsNew (P.clock + 1) t.work.made = P.mem.stamp n false (P.clock + 1):=by
  rw [f1];show (P.mem.stampNew n (P.clock + 1)) = _;unfold PMem.stampNew;rw [stamp_no g2]
 rw [hsn,setMW_to { P with clock:=P.clock + 1 } ht];have hnd:=node_ns g1;generalize hM : P.mem.stamp n false (P.clock + 1) = M1 at *;have hstn : t.work.stand≠n:=fun e=>f5 (e ▸ m1)
 have hfx : ∀ x,Fresh x t->x = n:=by rintro x ⟨_,_,_,q⟩; exact mem_one f1 q
 have hfn : Fresh n t:=⟨hb,hk,.inl hn,by rw [f1]; simp⟩;refine h.build (M':=M1) (c':=P.clock + 1) (t':={ t with work:={ t.work with ans:=a,next:=10 } }) ht (Frm.ents h hnd (by omega) ?_) g2 (h.n.same hnd (by omega)) ?_ ?_ ?_
 ·intro x hu hh hf;have hx : x≠n:=by rintro rfl; exact hf hfn
  refine ⟨by rw [g3,if_neg hx],fun s d hs=>?_⟩;rcases (g4 x s d).1 hs with q | q
  ·exact q
  ·exact absurd q.1 hx
 ·refine h.e.ents ht hnd (by omega) (fun x s d hs=>(g4 x s d).2 (.inl hs)) ?_ ?_ ?_
  ·rintro x s ⟨_,_,h9,_⟩; omega
  ·intro x d hd;rw [g3] at hd;split at hd
   ·cases hd
   ·next e =>
    refine (h.e.pd x d hd).set ht ?_;rintro (⟨_,_,_,_,q⟩ | ⟨q1,q2,q3,q4⟩)
    ·exact .inl ⟨hb,.inl hk,by show 8<=10; omega,by show 10<=11; omega,q⟩
    ·exact absurd (hfx x ⟨q1,q2,.inl q3,q4⟩) e
  ·intro x s d hs;rcases (g4 x s d).1 hs with q | ⟨rfl,rfl,rfl⟩
   ·exact .inl q
   ·right;obtain ⟨_,_,_,n4,n5,n6⟩:=h.n.mc _ m1;rw [c10] at n4 n5;obtain ⟨z1,z2⟩:=h.notSw n4;refine ⟨f4,f3,by omega,by omega,n5,n4,?_,f9.symm,z1,z2⟩;right;rw [f7];have h1:=(hT.cs hb (by omega) (by omega)).2.2.2;have h2 : Ky P.mem t.work.ahead≠t.work.key:=fun e=>by have:=c3.1 e; omega
    omega
 ·refine h.o.same ht hnd (by omega) ?_ ?_ ?_ ?_
  ·rintro x ⟨q1,q2,_,q4⟩; exact ⟨q1,q2,.inr rfl,q4⟩
  ·rintro x ⟨_,_,q,_⟩; omega
  ·rintro x ⟨_,_,q,_⟩; omega
  ·rintro x ⟨_,_,_,q⟩; exact ⟨hb,hk,.inl hn,q⟩
 ·refine hT.own (k:={ t.work with ans:=a,next:=10 }) hb (by omega) (by omega) (by omega) ?_ ?_ ⟨rfl,rfl,rfl,rfl,rfl,rfl,rfl⟩ (by show 6<=10; omega) (by show 10<=12; omega) ?_ ?_ ?_ ?_ ?_ ?_ ?_ ?_ ?_ ?_ ?_ ?_
  ·intro x hx; simp only [Us,Ky,Gd,De,Re,Ra,hnd]; exact ⟨h.gdUs hx,trivial,id,fun hr=>.inl ⟨hr,trivial⟩⟩
  ·intro x hx; simp only [Us,Ho,hnd] at hx ⊢; exact ⟨fun h=>⟨hx,h⟩,fun h=>h.2⟩
  ·intro hh; have : (10 : Nat)<=7:=hh; omega
  ·intro _ _; simp only [Ky,hnd]; exact ⟨c1,c2,c3⟩
  ·intro _ _; simp only [Ld,hnd]; exact c10
  ·intro k2; have : t.work.kind = 2:=k2; omega
  ·intro k2; have : t.work.kind = 2:=k2; omega
  ·intro hh; have : (10 : Nat) = 9:=hh; omega
  ·intro _ hh; have : (10 : Nat) = 11\/((10 : Nat) = 12/\_):=hh; omega
  ·intro _ _; exact hT.ts hb (by omega) (by omega)
  ·intro _ _;refine ⟨n,f1,f2,f3,?_,f5,?_,?_,?_,?_,?_,?_⟩
   ·simp only [Us,hnd]; exact f4
   ·simp only [hnd]; exact f6
   ·simp only [Ky,hnd]; exact f7
   ·simp only [hnd]; exact f8
   ·simp only [Ld,hnd]; exact f9
   ·show Pd M1 t.work.stand = [n];rw [g3,if_neg hstn]; exact f10
   ·intro hh; have : (10 : Nat) = 8:=hh; omega
  ·intro k2; have : t.work.kind = 2:=k2; omega
  ·intro hh; have : (10 : Nat) = 11:=hh; omega
  ·intro _ _;show a.did = true/\t.work.time < a.stamp/\(0<=a.stamp/\a.stamp<=P.clock + 1)/\∀ s d,Sd M1 t.work.stand s d->s < a.stamp;rw [ha.2];refine ⟨ha.1,by omega,by omega,?_⟩;intro s d hs;rcases (g4 _ s d).1 hs with q | q
   ·have:=(h.e.ms _ _ _ q).2.2.2.1
    omega
   ·exact absurd q.1 hstn
end
end
section
section
variable {C C' : Int->Prop} {M M' : PMem} {c c' : Int} {r : PSweep} {i j : Nat} {t t' : PThread} {ts : List PThread} {P : PSt} {x : Int} {k : PWork}
theorem Inv.killed (h : Inv C P) (ht : P.ts[i]? = some t) (hb : t.busy = true) (hn : t.work.next = 9) : Inv C ((P.setM (P.mem.kills (P.takenOut t.work))).setW i { t.work with next:=10 }):=by
 have hT:=h.th i t ht;have hi:=(List.getElem?_eq_some_iff.1 ht).1;have hk:=hT.n9 hb hn;obtain ⟨_,m1,m2,m3,m4,m5,m6⟩:=h.mine ht hb (by omega) (by omega);obtain ⟨a1,a2,a3,a4⟩:=m6 hk;obtain ⟨c1,c2,c3⟩:=hT.c7 hb (by omega) (by omega);have c10:=hT.c10 hb (by omega) (by omega);have hCa : C t.work.ahead:=by
  have:=(h.n.mc _ m1).2.2.2.1
  rw [c10] at this;exact this.resolve_left a3
 have hd0:=hT.d9 hb hk (by omega) (by omega);have hto : P.mem.kills (P.takenOut t.work) = P.mem.modN t.work.ahead fun x=>{ x with dead:=true }:=by
  unfold PSt.takenOut;rw [if_neg (by rw [h.kind]; decide)]; rfl
 rw [hto,setMW_to P ht];have g2:=node_modN (hasN_used a1) (fun x=>{ x with dead:=true });have hes:=modN_ents P.mem t.work.ahead (fun x=>{ x with dead:=true });have hw : Wm (P.mem.modN t.work.ahead fun x=>{ x with dead:=true }):=h.wm.modN a1 _ a1;generalize hM : (P.mem.modN t.work.ahead fun x=>{ x with dead:=true }) = M1 at *;have e0 : ∀ x,x≠t.work.ahead->M1.node x = P.mem.node x:=fun x hx=>by rw [g2,if_neg hx]
 have ea : M1.node t.work.ahead = { P.mem.node t.work.ahead with dead:=true }:=by rw [g2,if_pos rfl]
 have q : ∀ x,(M1.node x).used = (P.mem.node x).used/\(M1.node x).retired = (P.mem.node x).retired/\(M1.node x).retiredAt = (P.mem.node x).retiredAt/\(M1.node x).key = (P.mem.node x).key/\(M1.node x).leads = (P.mem.node x).leads/\(M1.node x).links = (P.mem.node x).links/\(M1.node x).holder = (P.mem.node x).holder:=by
  intro x;by_cases e : x = t.work.ahead
  ·rw [e,ea]; exact ⟨rfl,rfl,rfl,rfl,rfl,rfl,rfl⟩
  ·rw [e0 x e]; exact ⟨rfl,rfl,rfl,rfl,rfl,rfl,rfl⟩
 have q1:=fun x=>(q x).1
 have q3:=fun x=>(q x).2.1
 have q4:=fun x=>(q x).2.2.1
 have q5:=fun x=>(q x).2.2.2.1
 have q6:=fun x=>(q x).2.2.2.2.1
 have q7:=fun x=>(q x).2.2.2.2.2.1
 have q8:=fun x=>(q x).2.2.2.2.2.2
 have dd : ∀ x,De M1 x ↔ De P.mem x\/x = t.work.ahead:=by
  intro x;by_cases e : x = t.work.ahead
  ·subst e;constructor
   ·intro _; exact .inr rfl
   ·intro _; simp only [De]; rw [ea]
  ·simp only [De]; rw [e0 x e];exact ⟨.inl,fun hh=>hh.resolve_right e⟩
 have hsd:=fun x s d=>sd_es (M:=P.mem) (M':=M1) hes x s d
 have hpd:=fun x=>pd_es (M:=P.mem) (M':=M1) hes x
 have hga : ∀ x,x = 1\/Gd P.mem C x->Us M1 x/\Ky M1 x = Ky P.mem x/\(Gd P.mem C x->Gd M1 C x)/\(Re M1 x->(Re P.mem x/\Ra M1 x = Ra P.mem x)\/P.clock<=Ra M1 x):=by
  intro x hx;refine ⟨by simp only [Us,q1]; exact h.gdUs hx,q5 x,?_,?_⟩
  ·rintro (g | g)
   ·exact .inl g
   ·exact .inr ((dd x).2 (.inl g))
  ·intro hr; left; simp only [Re,Ra,q3,q4] at hr ⊢; exact ⟨hr,trivial⟩
 have hgc : ∀ x,Us M1 x->∀ j : Nat,(Ho M1 x = j ↔ Us P.mem x/\Ho P.mem x = j):=by
  intro x hx j;simp only [Us,Ho,q1,q8] at hx ⊢;exact ⟨fun hh=>⟨hx,hh⟩,fun hh=>hh.2⟩
 refine h.build (t':={ t with work:={ t.work with next:=10 } }) ht ⟨Int.le_refl _,hga,?_,fun x hx j _=>hgc x hx j⟩ hw ?_ ?_ ?_ ?_
 ·intro x hu hh hf;exact ⟨e0 x (by rintro rfl; exact hh a2),hpd x,fun s d=>(hsd x s d).1,Iff.rfl⟩
 ·obtain ⟨n0,n1,mc,kr,mi,md,mr,mo⟩:=h.n;refine ⟨?_,?_,?_,?_,?_,?_,?_,?_⟩
  ·rw [e0 0 (fun e=>a4 e.symm)]; exact n0
  ·simp only [Us,Ky]; rw [e0 1 (fun e=>a3 e.symm)]; exact n1
  ·simpa only [Us,Ld,Lt,Ky,q1,q3,q5,q6,q7] using mc
  ·simpa only [Us,Ky,q1,q5] using kr
  ·simpa only [Ld,q6] using mi
  ·intro x hx;simp only [Us,q1,q7];rcases (dd x).1 hx with g | g
   ·exact md x g
   ·rw [g]; exact ⟨a1,(mc _ hCa).2.1⟩
  ·intro x hx;simp only [Re,Ra,q3,q4] at hx ⊢;obtain ⟨g1,g2,g3⟩:=mr x hx;exact ⟨(dd x).2 (.inl g1),g2,g3⟩
  ·intro y hy hc;have hy' : De P.mem y:=by
    rcases (dd y).1 hy with g | g
    ·exact g
    ·rw [g] at hc; exact absurd hCa hc
   obtain ⟨g1,g2,g3⟩:=mo y hy' hc;simp only [Ld,Ky,Re,Ra,q3,q4,q5,q6];refine ⟨g1,g2,?_⟩;rcases g3 with g | g | ⟨g4,g5⟩
   ·exact .inl g
   ·exact .inr (.inl g)
   ·exact .inr (.inr ⟨(dd _).2 (.inl g4),g5⟩)
 ·obtain ⟨ms,pd,nw,ol,dr⟩:=h.e;have hvd : ∀ x s,Vd P.mem P.ts x s->Vd M1 (P.ts.set i { t with work:={ t.work with next:=10 } }) x s:=fun x s hv=>vd_mono ht hv (fun d=>(hsd x s d).2) (by
   rintro ⟨z1,z2,z3,z4,z5⟩;exact .inl ⟨z1,z2,by show 9<=10; omega,by show 10<=11; omega,z5⟩)
  refine ⟨?_,?_,?_,?_,?_⟩
  ·intro x s d hs;obtain ⟨z1,z2,z3,z4,z5,z6,z7⟩:=ms x s d ((hsd x s d).1 hs);simp only [Us,Lt,Ky,q1,q5];refine ⟨z1,z2,z3,z4,z5,?_,z7⟩;rcases z6 with z | z | z
   ·exact .inl z
   ·exact .inr (.inl z)
   ·exact .inr (.inr ((dd d).2 (.inl z)))
  ·intro x d hd;rw [hpd] at hd;refine (pd x d hd).set ht ?_;rintro (⟨z1,z2,z3,z4,z5⟩ | ⟨_,z2,_⟩)
   ·exact .inl ⟨z1,z2,by show 8<=10; omega,by show 10<=11; omega,z5⟩
   ·omega
  ·intro x s d hs;simp only [Ld,q6];rcases nw x s d ((hsd x s d).1 hs) with z | ⟨s',z1,z2⟩
   ·exact .inl z
   ·exact .inr ⟨s',z1,hvd x s' z2⟩
  ·intro x s d hs hr;simp only [Re,Ra,q3,q4] at hr ⊢;rcases ol x s d ((hsd x s d).1 hs) hr with ⟨s',z1,z2,z3⟩ | z
   ·exact .inl ⟨s',z1,z2,hvd x s' z3⟩
   ·exact .inr z
  ·intro hm x s d hs hin hf;simp only [Ra,q4] at hf ⊢;exact dr (by simpa using hm) x s d ((hsd x s d).1 hs) hin hf
 ·obtain ⟨us,ki,ou,ho,pw,sw,sc,sm,sz⟩:=h.o;have nf : ∀ x,¬ Fresh x { t with work:={ t.work with next:=10 } }:=by
   rintro x ⟨_,z,_⟩;have : t.work.kind = 1:=z;omega
  refine ⟨?_,?_,?_,?_,?_,?_,sc,by simpa using sm,sz⟩
  ·intro x hx;simp only [Us,q1] at hx;rcases us x hx with z | z | z | z
   ·exact .inl z
   ·exact .inr (.inl z)
   ·exact .inr (.inr (.inl ((dd x).2 (.inl z))))
   ·exact .inr (.inr (.inr (z.set ht (by rintro ⟨_,z,_⟩; omega))))
  ·intro x hx hC;rcases (dd x).1 hx with z | z
   ·exact (ki x z hC).set ht (by rintro ⟨_,_,z,_⟩; omega)
   ·exact Ex.new ht ⟨hb,hk,rfl,z.symm⟩
  ·intro x hx hC hr;rw [q3] at hr;rcases (dd x).1 hx with z | z
   ·exact (ou x z hC hr).set ht (by rintro ⟨_,_,z,_⟩; omega)
   ·rw [z] at hC; exact absurd hCa hC
  ·intro x hx;simp only [Us,Ho,q1,q8,List.length_set] at hx ⊢;exact ho x hx
  ·intro p q' u v x hp hq hu hv;rw [List.getElem?_set] at hp hq;by_cases ea : i = p
   ·subst ea; simp [hi] at hp; subst hp; exact absurd hu (nf x)
   ·by_cases eb : i = q'
    ·subst eb; simp [hi] at hq; subst hq; exact absurd hv (nf x)
    ·rw [if_neg ea] at hp; rw [if_neg eb] at hq;exact pw p q' u v x hp hq hu hv
  ·intro x hx;simp only [Re,Ra,q3,q4]; exact sw x hx
 ·refine hT.own (k:={ t.work with next:=10 }) hb (by omega) (by omega) (Int.le_refl _) hga (fun x hx=>hgc x hx i) ⟨rfl,rfl,rfl,rfl,rfl,rfl,rfl⟩ (by show 6<=10; omega) (by show 10<=12; omega) ?_ ?_ ?_ ?_ ?_ ?_ ?_ ?_ ?_ ?_ ?_ ?_
  ·intro hh; have : (10 : Nat)<=7:=hh; omega
  ·intro _ _; simp only [Ky,q5]; rw [e0 _ m4]; exact ⟨c1,c2,c3⟩
  ·intro _ _; simp only [Ld,q6]; exact c10
  ·intro _ _ hh; have : (10 : Nat)<=9:=hh; omega
  ·intro _ _; exact (dd _).2 (.inr rfl)
  ·intro hh; have : (10 : Nat) = 9:=hh; omega
  ·intro _ hh; have : (10 : Nat) = 11\/((10 : Nat) = 12/\_):=hh; omega
  ·intro _ _; exact hT.ts hb (by omega) (by omega)
  ·intro hh; have : t.work.kind = 1:=hh; omega
  ·intro _ _ _;show Pd M1 t.work.stand = [Ld M1 t.work.ahead]/\t.work.made = [];simp only [Ld,q6,hpd];exact hT.p2 hb hk (by omega) (by omega)
  ·intro hh; have : (10 : Nat) = 11:=hh; omega
  ·intro _ _;obtain ⟨s1,s2,s3,s4⟩:=hT.s9 hb (by omega) (by omega);exact ⟨s1,s2,s3,fun s d hs=>s4 s d ((hsd _ s d).1 hs)⟩
end
end
section
section
variable {C C' : Int->Prop} {M M' : PMem} {c c' : Int} {r : PSweep} {i j : Nat} {t t' : PThread} {ts : List PThread} {P : PSt} {x : Int} {k : PWork}
theorem Inv.linkMem (h : Inv C P) (ht : P.ts[i]? = some t) (hb : t.busy = true) (hn : t.work.next = 10) {d : Int} (hd : Pd P.mem t.work.stand = [d]) :
  ∃ M1,(P.setM (P.mem.lead t.work.tsrc t.work.tside)).setW i { t.work with next:=11 } = { P with mem:=M1,ts:=P.ts.set i { t with work:={ t.work with next:=11 } } }/\Wm M1/\M1.es = P.mem.es/\(∀ x,x≠t.work.stand->M1.node x = P.mem.node x)/\M1.node t.work.stand = { P.mem.node t.work.stand with leads:=upd (P.mem.node t.work.stand).leads false d }:=by
 have hT:=h.th i t ht;obtain ⟨_,m1,m2,m3,m4,m5,m6⟩:=h.mine ht hb (by omega) (by omega);obtain ⟨t1,t2⟩:=hT.ts hb (by omega) (by omega);rw [t1,t2,lead_e hd m5,setMW_to P ht];have g2:=node_modN (hasN_used m2) (fun x=>{ x with leads:=upd x.leads false d });exact ⟨_,rfl,h.wm.modN m2 _ m2,modN_ents _ _ _,fun x hx=>by rw [g2,if_neg hx],by rw [g2,if_pos rfl]⟩
theorem Inv.linkR (h : Inv C P) (ht : P.ts[i]? = some t) (hb : t.busy = true) (hn : t.work.next = 10) (hk : t.work.kind = 2) : Inv (fun x=>C x/\x≠t.work.ahead) ((P.setM (P.mem.lead t.work.tsrc t.work.tside)).setW i { t.work with next:=11 }):=by
 have hT:=h.th i t ht;have hi:=(List.getElem?_eq_some_iff.1 ht).1;obtain ⟨_,m1,m2,m3,m4,m5,m6⟩:=h.mine ht hb (by omega) (by omega);obtain ⟨a1,a2,a3,a4⟩:=m6 hk;obtain ⟨c1,c2,c3⟩:=hT.c7 hb (by omega) (by omega);have c10:=hT.c10 hb (by omega) (by omega);have hCa : C t.work.ahead:=by
  have:=(h.n.mc _ m1).2.2.2.1
  rw [c10] at this;exact this.resolve_left a3
 have hda:=hT.d10 hb hk hn;obtain ⟨p1,p2⟩:=hT.p2 hb hk (by omega) (by omega);obtain ⟨s1,s2,s3,s4⟩:=hT.s9 hb (by omega) (by omega);obtain ⟨M1,hM,hw,hes,e0,es⟩:=h.linkMem ht hb hn p1;rw [hM];have q : ∀ x,(M1.node x).used = (P.mem.node x).used/\(M1.node x).dead = (P.mem.node x).dead/\(M1.node x).retired = (P.mem.node x).retired/\(M1.node x).retiredAt = (P.mem.node x).retiredAt/\(M1.node x).key = (P.mem.node x).key/\(M1.node x).links = (P.mem.node x).links/\(M1.node x).holder = (P.mem.node x).holder:=by
  intro x;by_cases e : x = t.work.stand
  ·rw [e,es]; exact ⟨rfl,rfl,rfl,rfl,rfl,rfl,rfl⟩
  ·rw [e0 x e]; exact ⟨rfl,rfl,rfl,rfl,rfl,rfl,rfl⟩
 have q1:=fun x=>(q x).1
 have q2:=fun x=>(q x).2.1
 have q3:=fun x=>(q x).2.2.1
 have q4:=fun x=>(q x).2.2.2.1
 have q5:=fun x=>(q x).2.2.2.2.1
 have q7:=fun x=>(q x).2.2.2.2.2.1
 have q8:=fun x=>(q x).2.2.2.2.2.2
 have l0 : ∀ x,x≠t.work.stand->Ld M1 x = Ld P.mem x:=fun x hx=>by simp only [Ld]; rw [e0 x hx]
 have ls : Ld M1 t.work.stand = Ld P.mem t.work.ahead:=by
  show (M1.node t.work.stand).leads false = _;rw [es];show upd (P.mem.node t.work.stand).leads false (Ld P.mem t.work.ahead) false = _;exact upd_same _ _ _
 have hsd:=fun x s d=>sd_es (M:=P.mem) (M':=M1) hes x s d
 have hpd:=fun x=>pd_es (M:=P.mem) (M':=M1) hes x
 obtain ⟨w1,w2,w3,w4,w5,w6⟩:=h.n.mc _ hCa;have w7 : Ky P.mem t.work.ahead < Ky P.mem (Ld P.mem t.work.ahead):=w6.resolve_left a4;have w8 : Ld P.mem t.work.ahead≠t.work.ahead:=fun e=>by rw [e] at w7; omega
 have hga : ∀ x,x = 1\/Gd P.mem C x->Us M1 x/\Ky M1 x = Ky P.mem x/\(Gd P.mem C x->Gd M1 (fun x=>C x/\x≠t.work.ahead) x)/\(Re M1 x->(Re P.mem x/\Ra M1 x = Ra P.mem x)\/P.clock<=Ra M1 x):=by
  intro x hx;refine ⟨by simp only [Us,q1]; exact h.gdUs hx,q5 x,?_,?_⟩
  ·intro g;unfold Gd;simp only [De,q2];by_cases e : x = t.work.ahead
   ·right; rw [e]; exact hda
   ·exact g.imp (fun g=>⟨g,e⟩) id
  ·intro hr; left; simp only [Re,Ra,q3,q4] at hr ⊢; exact ⟨hr,trivial⟩
 have hgc : ∀ x,Us M1 x->∀ j : Nat,(Ho M1 x = j ↔ Us P.mem x/\Ho P.mem x = j):=by
  intro x hx j;simp only [Us,Ho,q1,q8] at hx ⊢;exact ⟨fun hh=>⟨hx,hh⟩,fun hh=>hh.2⟩
 refine h.build (t':={ t with work:={ t.work with next:=11 } }) ht ⟨Int.le_refl _,hga,?_,fun x hx j _=>hgc x hx j⟩ hw ?_ ?_ ?_ ?_
 ·intro x hu hh hf;refine ⟨e0 x (by rintro rfl; exact hh m3),hpd x,fun s d=>(hsd x s d).1,?_⟩;exact ⟨fun hc=>hc.1,fun hc=>⟨hc,by rintro rfl; exact hh a2⟩⟩
 ·obtain ⟨n0,n1,mc,kr,mi,md,mr,mo⟩:=h.n;refine ⟨?_,?_,?_,?_,?_,?_,?_,?_⟩
  ·rw [q2]; exact ⟨⟨n0.1,fun e=>a4 e.symm⟩,n0.2⟩
  ·simp only [Us,Ky,q1,q2,q3,q5,q7];exact ⟨fun hc=>n1.1 hc.1,n1.2⟩
  ·rintro x ⟨hx,hxa⟩;obtain ⟨z1,z2,z3,z4,z5,z6⟩:=mc x hx;by_cases e : x = t.work.stand
   ·subst e;rw [ls];simp only [Us,Lt,Ky,q1,q3,q5,q7];refine ⟨z1,z2,z3,?_,w5,?_⟩
    ·rcases w4 with w | w
     ·exact .inl w
     ·exact .inr ⟨w,w8⟩
    ·rcases z6 with z | z
     ·exact .inl z
     ·right; rw [c10] at z; simp only [Ky] at *; omega
   ·rw [l0 x e];simp only [Us,Lt,Ky,q1,q3,q5,q7];refine ⟨z1,z2,z3,?_,z5,z6⟩;rcases z4 with z | z
    ·exact .inl z
    ·refine .inr ⟨z,fun hz=>e (mi x _ hx m1 (hz.trans c10.symm))⟩
  ·simpa only [Us,Ky,q1,q5] using kr
  ·rintro x y ⟨hx,hxa⟩ ⟨hy,hya⟩ he;by_cases ex : x = t.work.stand
   ·by_cases ey : y = t.work.stand
    ·rw [ex,ey]
    ·rw [ex,ls,l0 y ey] at he;exact absurd (mi _ _ hy hCa he.symm) hya
   ·by_cases ey : y = t.work.stand
    ·rw [ey,ls,l0 x ex] at he;exact absurd (mi _ _ hx hCa he) hxa
    ·rw [l0 x ex,l0 y ey] at he;exact mi x y hx hy he
  ·simpa only [Us,De,q1,q2,q7] using md
  ·intro x hx;simp only [Re,De,Ra,q2,q3,q4] at hx ⊢;obtain ⟨z1,z2,z3⟩:=mr x hx;exact ⟨z1,fun hc=>z2 hc.1,z3⟩
  ·intro y hy hc;simp only [De,q2] at hy;by_cases ey : y = t.work.ahead
   ·have hys : y≠t.work.stand:=fun e=>m4 (e.symm.trans ey)
    rw [l0 y hys,ey];simp only [Ky,q5];refine ⟨w5,w7,?_⟩;rcases w4 with w | w
    ·exact .inl w
    ·exact .inr (.inl ⟨w,w8⟩)
   ·have hyC : ¬ C y:=fun hh=>hc ⟨hh,ey⟩
    have hys : y≠t.work.stand:=fun e=>hyC (e ▸ m1)
    obtain ⟨z1,z2,z3⟩:=mo y hy hyC;rw [l0 y hys];simp only [Ky,De,Re,Ra,q2,q3,q4,q5];refine ⟨z1,z2,?_⟩;rcases z3 with z | z | ⟨z4,z5,z6⟩
    ·exact .inl z
    ·by_cases el : Ld P.mem y = t.work.ahead
     ·right; right;rw [el];refine ⟨hda,fun hh=>hh.2 rfl,?_,?_,?_⟩
      ·cases hr : (P.mem.node y).retired
       ·exfalso;obtain ⟨j,u,hj,hu⟩:=h.o.ou y hy hyC hr;have huo : Outing u.work.ahead u:=by obtain ⟨x1,x2,x3,x4⟩:=hu; exact ⟨x1,x2,x3,rfl⟩
        obtain ⟨y1,y2,_⟩:=(h.th j u hj).ot huo;obtain ⟨x1,x2,x3,x4⟩:=hu;rw [x4,el,<- c10] at y2;have hst:=mi _ _ y1 m1 y2;have hh:=(h.th j u hj).hStand x1 (by omega) (by omega);rw [hst,m3] at hh;have : i = j:=by have:=hh.2; omega
        subst this;rw [ht] at hj; injection hj with hj; subst hj
        omega
       ·rfl
      ·intro hr; rw [w3] at hr; cases hr
      ·intro hs; exact absurd hs (h.notSw (.inr hCa)).1
     ·exact .inr (.inl ⟨z,el⟩)
    ·exact .inr (.inr ⟨z4,fun hh=>z5 hh.1,z6⟩)
 ·obtain ⟨ms,pd,nw,ol,dr⟩:=h.e;have hvd : ∀ x s,Vd P.mem P.ts x s->Vd M1 (P.ts.set i { t with work:={ t.work with next:=11 } }) x s:=fun x s hv=>vd_mono ht hv (fun d=>(hsd x s d).2) (by
   rintro ⟨z1,z2,z3,z4,z5⟩;exact .inl ⟨z1,z2,by show 9<=11; omega,by show 11<=11; omega,z5⟩)
  refine ⟨?_,?_,?_,?_,?_⟩
  ·intro x s d hs;obtain ⟨z1,z2,z3,z4,z5,z6,z7⟩:=ms x s d ((hsd x s d).1 hs);simp only [Us,De,Lt,Ky,q1,q2,q5];refine ⟨z1,z2,z3,z4,z5,?_,z7⟩;by_cases e : d = t.work.ahead
   ·right; right; rw [e]; exact hda
   ·rcases z6 with z | z | z
    ·exact .inl z
    ·exact .inr (.inl ⟨z,e⟩)
    ·exact .inr (.inr z)
  ·intro x d hd;rw [hpd] at hd;refine (pd x d hd).set ht ?_;rintro (⟨z1,z2,z3,z4,z5⟩ | ⟨_,z2,_⟩)
   ·exact .inl ⟨z1,z2,by show 8<=11; omega,by show 11<=11; omega,z5⟩
   ·omega
  ·intro x s d hs;have hs:=(hsd x s d).1 hs;by_cases e : x = t.work.stand
   ·right;subst e;exact ⟨t.work.ans.stamp,s4 s d hs,.inr (Ex.new ht ⟨hb,.inr hk,by show 9<=11; omega,by show 11<=11; omega,rfl,rfl⟩)⟩
   ·rw [l0 x e];rcases nw x s d hs with z | ⟨s',z1,z2⟩
    ·exact .inl z
    ·exact .inr ⟨s',z1,hvd x s' z2⟩
  ·intro x s d hs hr;simp only [Re,Ra,q3,q4] at hr ⊢;rcases ol x s d ((hsd x s d).1 hs) hr with ⟨s',z1,z2,z3⟩ | z
   ·exact .inl ⟨s',z1,z2,hvd x s' z3⟩
   ·exact .inr z
  ·intro hm x s d hs hin hf;simp only [Ra,q4] at hf ⊢;exact dr (by simpa using hm) x s d ((hsd x s d).1 hs) hin hf
 ·obtain ⟨us,ki,ou,ho,pw,sw,sc,sm,sz⟩:=h.o;have nf : ∀ x,¬ Fresh x { t with work:={ t.work with next:=11 } }:=by
   rintro x ⟨_,z,_⟩;have : t.work.kind = 1:=z;omega
  refine ⟨?_,?_,?_,?_,?_,?_,sc,by simpa using sm,sz⟩
  ·intro x hx;simp only [Us,De,q1,q2] at hx ⊢;by_cases e : x = t.work.ahead
   ·right; right; left; rw [e]; exact hda
   ·rcases us x hx with z | z | z | z
    ·exact .inl z
    ·exact .inr (.inl ⟨z,e⟩)
    ·exact .inr (.inr (.inl z))
    ·exact .inr (.inr (.inr (z.set ht (by rintro ⟨_,z,_⟩; omega))))
  ·rintro x hx ⟨hC,hne⟩;simp only [De,q2] at hx;exact (ki x hx hC).set ht (by rintro ⟨_,_,_,z⟩; exact absurd z.symm hne)
  ·intro x hx hC hr;simp only [De,q2] at hx;rw [q3] at hr;by_cases e : x = t.work.ahead
   ·exact Ex.new ht ⟨hb,hk,.inl rfl,e.symm⟩
   ·exact (ou x hx (fun hc=>hC ⟨hc,e⟩) hr).set ht (by rintro ⟨_,_,z,_⟩; omega)
  ·intro x hx;simp only [Us,Ho,q1,q8,List.length_set] at hx ⊢;exact ho x hx
  ·intro p q' u v x hp hq hu hv;rw [List.getElem?_set] at hp hq;by_cases ea : i = p
   ·subst ea; simp [hi] at hp; subst hp; exact absurd hu (nf x)
   ·by_cases eb : i = q'
    ·subst eb; simp [hi] at hq; subst hq; exact absurd hv (nf x)
    ·rw [if_neg ea] at hp; rw [if_neg eb] at hq;exact pw p q' u v x hp hq hu hv
  ·intro x hx;simp only [Re,Ra,q3,q4]; exact sw x hx
 ·refine hT.own (k:={ t.work with next:=11 }) hb (by omega) (by omega) (Int.le_refl _) hga (fun x hx=>hgc x hx i) ⟨rfl,rfl,rfl,rfl,rfl,rfl,rfl⟩ (by show 6<=11; omega) (by show 11<=12; omega) ?_ ?_ ?_ ?_ ?_ ?_ ?_ ?_ ?_ ?_ ?_ ?_
  ·intro hh; have : (11 : Nat)<=7:=hh; omega
  ·intro _ _; simp only [Ky,q2,q5]; exact ⟨⟨c1,m4⟩,c2,c3⟩
  ·intro _ hh; have : (11 : Nat)<=10:=hh; omega
  ·intro _ _ hh; have : (11 : Nat)<=9:=hh; omega
  ·intro _ hh; have : (11 : Nat) = 10:=hh; omega
  ·intro hh; have : (11 : Nat) = 9:=hh; omega
  ·intro _ _;show (C t.work.stand/\t.work.stand≠t.work.ahead)/\Ld M1 t.work.stand = Ld M1 t.work.ahead/\_;rw [ls,l0 _ (fun e=>m4 e.symm)];simp only [De,Ky,q2,q3,q5];exact ⟨⟨c1,m4⟩,trivial,hda,fun hh=>hh.2 rfl,w3,c3.2 hk⟩
  ·intro _ _; exact hT.ts hb (by omega) (by omega)
  ·intro hh; have : t.work.kind = 1:=hh; omega
  ·intro _ _ hh; have : (11 : Nat)<=10:=hh; omega
  ·intro _;show Pd M1 t.work.stand = [Ld M1 t.work.stand];rw [ls,hpd]; exact p1
  ·intro _ _;exact ⟨s1,s2,s3,fun s d hs=>s4 s d ((hsd _ s d).1 hs)⟩
end
end
end Go.Proofs.YtfccelbmacjifabGreat
