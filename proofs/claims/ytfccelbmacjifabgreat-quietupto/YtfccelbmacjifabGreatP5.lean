import Derived.Test.YtfccelbmacjifabGreatP0
import Derived.Test.YtfccelbmacjifabGreatP4
set_option linter.unusedSimpArgs false
set_option maxRecDepth 100000
set_option maxHeartbeats 4000000
namespace Go.Proofs.YtfccelbmacjifabGreat
section
section
variable {C C' : Int->Prop} {M M' : PMem} {c c' : Int} {r : PSweep} {i j : Nat} {t t' : PThread} {ts : List PThread} {P : PSt} {x : Int} {k : PWork}
theorem Inv.linkI (h : Inv C P) (ht : P.ts[i]? = some t) (hb : t.busy = true) (hn : t.work.next = 10) (hk : t.work.kind = 1) : Inv (fun x=>C x\/x ∈ t.work.made) ((P.setM (P.mem.lead t.work.tsrc t.work.tside)).setW i { t.work with next:=11 }):=by
 have hT:=h.th i t ht;have hi:=(List.getElem?_eq_some_iff.1 ht).1;obtain ⟨_,m1,m2,m3,m4,m5,_⟩:=h.mine ht hb (by omega) (by omega);obtain ⟨c1,c2,c3⟩:=hT.c7 hb (by omega) (by omega);have c10:=hT.c10 hb (by omega) (by omega);obtain ⟨n,f1,f2,f3,f4,f5,f6,f7,f8,f9,f10,_⟩:=hT.f8 hb hk (.inr hn);obtain ⟨s1,s2,s3,s4⟩:=hT.s9 hb (by omega) (by omega);obtain ⟨M1,hM,hw,hes,e0,es⟩:=h.linkMem ht hb hn f10;have hmn : ∀ x,x ∈ t.work.made ↔ x = n:=fun x=>by rw [f1]; simp
 rw [hM];have q : ∀ x,(M1.node x).used = (P.mem.node x).used/\(M1.node x).dead = (P.mem.node x).dead/\(M1.node x).retired = (P.mem.node x).retired/\(M1.node x).retiredAt = (P.mem.node x).retiredAt/\(M1.node x).key = (P.mem.node x).key/\(M1.node x).links = (P.mem.node x).links/\(M1.node x).holder = (P.mem.node x).holder:=by
  intro x;by_cases e : x = t.work.stand
  ·rw [e,es]; exact ⟨rfl,rfl,rfl,rfl,rfl,rfl,rfl⟩
  ·rw [e0 x e]; exact ⟨rfl,rfl,rfl,rfl,rfl,rfl,rfl⟩
 have q1:=fun x=>(q x).1
 have q2:=fun x=>(q x).2.1
 have q3:=fun x=>(q x).2.2.1
 have q4:=fun x=>(q x).2.2.2.1
 have q5:=fun x=>(q x).2.2.2.2.1
 have q7:=fun x=>(q x).2.2.2.2.2.1
 have q8:=fun x=>(q x).2.2.2.2.2.2
 have hstn : t.work.stand≠n:=fun e=>f5 (e ▸ m1)
 have l0 : ∀ x,x≠t.work.stand->Ld M1 x = Ld P.mem x:=fun x hx=>by simp only [Ld]; rw [e0 x hx]
 have ls : Ld M1 t.work.stand = n:=by
  show (M1.node t.work.stand).leads false = _;rw [es];show upd (P.mem.node t.work.stand).leads false n false = _;exact upd_same _ _ _
 have hsd:=fun x s d=>sd_es (M:=P.mem) (M':=M1) hes x s d
 have hpd:=fun x=>pd_es (M:=P.mem) (M':=M1) hes x
 have hrn : (P.mem.node n).retired = false:=by
  cases hr : (P.mem.node n).retired
  ·rfl
  ·have:=(h.n.mr n hr).1
   simp only [De] at this; rw [f6] at this; cases this
 have hac : t.work.ahead = 1\/C t.work.ahead:=by rw [<- c10]; exact (h.n.mc _ m1).2.2.2.1
 have han : t.work.ahead≠n:=by
  intro e;rcases hac with g | g
  ·exact f3 (e.symm.trans g)
  ·exact f5 (e ▸ g)
 have hlt : Ky P.mem n < Ky P.mem t.work.ahead:=by
  rw [f7];have h1:=(hT.cs hb (by omega) (by omega)).2.2.2;have h2 : Ky P.mem t.work.ahead≠t.work.key:=fun e=>by have:=c3.1 e; omega
  omega
 have hga : ∀ x,x = 1\/Gd P.mem C x->Us M1 x/\Ky M1 x = Ky P.mem x/\(Gd P.mem C x->Gd M1 (fun x=>C x\/x ∈ t.work.made) x)/\(Re M1 x->(Re P.mem x/\Ra M1 x = Ra P.mem x)\/P.clock<=Ra M1 x):=by
  intro x hx;refine ⟨by simp only [Us,q1]; exact h.gdUs hx,q5 x,?_,?_⟩
  ·intro g;unfold Gd;simp only [De,q2];exact g.imp .inl id
  ·intro hr; left; simp only [Re,Ra,q3,q4] at hr ⊢; exact ⟨hr,trivial⟩
 have hgc : ∀ x,Us M1 x->∀ j : Nat,(Ho M1 x = j ↔ Us P.mem x/\Ho P.mem x = j):=by
  intro x hx j;simp only [Us,Ho,q1,q8] at hx ⊢;exact ⟨fun hh=>⟨hx,hh⟩,fun hh=>hh.2⟩
 refine h.build (t':={ t with work:={ t.work with next:=11 } }) ht ⟨Int.le_refl _,hga,?_,fun x hx j _=>hgc x hx j⟩ hw ?_ ?_ ?_ ?_
 ·intro x hu hh hf;refine ⟨e0 x (by rintro rfl; exact hh m3),hpd x,fun s d=>(hsd x s d).1,?_⟩;exact ⟨fun hc=>hc.resolve_right (fun hm=>hf ⟨hb,hk,.inr hn,hm⟩),.inl⟩
 ·obtain ⟨n0,n1,mc,kr,mi,md,mr,mo⟩:=h.n;refine ⟨?_,?_,?_,?_,?_,?_,?_,?_⟩
  ·rw [q2]; exact ⟨.inl n0.1,n0.2⟩
  ·simp only [Us,Ky,q1,q2,q3,q5,q7];exact ⟨fun hc=>hc.elim n1.1 (fun hm=>f3 ((hmn 1).1 hm).symm),n1.2⟩
  ·rintro x hx;by_cases e : x = t.work.stand
   ·subst e;obtain ⟨z1,z2,z3,z4,z5,z6⟩:=mc _ m1;rw [ls];simp only [Us,Lt,Ky,q1,q3,q5,q7];refine ⟨z1,z2,z3,.inr (.inr ((hmn n).2 rfl)),f2,?_⟩;rcases (hT.xs hb (by omega) (by omega) (by omega)).2.2 with z | z
    ·exact .inl z
    ·right; simp only [Ky] at *; omega
   ·rw [l0 x e];simp only [Us,Lt,Ky,q1,q3,q5,q7];rcases hx with hx | hx
    ·obtain ⟨z1,z2,z3,z4,z5,z6⟩:=mc x hx;exact ⟨z1,z2,z3,z4.imp id .inl,z5,z6⟩
    ·rw [(hmn x).1 hx,f9];exact ⟨f4,f8,hrn,hac.imp id .inl,(hT.cs hb (by omega) (by omega)).2.2.1,.inr hlt⟩
  ·simpa only [Us,Ky,q1,q5] using kr
  ·-- one leads to each
   have key : ∀ x y,C x->(y = n)->Ld M1 x = Ld M1 y->False:=by
    intro x y hx hy he;rw [hy,l0 n (fun e=>hstn e.symm),f9] at he;by_cases ex : x = t.work.stand
    ·rw [ex,ls] at he; exact han he.symm
    ·rw [l0 x ex,<- c10] at he;exact ex (mi x _ hx m1 he)
   intro x y hx hy he;rcases hx with hx | hx
   ·rcases hy with hy | hy
    ·by_cases ex : x = t.work.stand
     ·by_cases ey : y = t.work.stand
      ·rw [ex,ey]
      ·exfalso;rw [ex,ls,l0 y ey] at he;rcases (mc y hy).2.2.2.1 with g | g
       ·exact f3 (he.trans g)
       ·rw [<- he] at g; exact f5 g
     ·by_cases ey : y = t.work.stand
      ·exfalso;rw [ey,ls,l0 x ex] at he;rcases (mc x hx).2.2.2.1 with g | g
       ·exact f3 (he.symm.trans g)
       ·rw [he] at g; exact f5 g
      ·rw [l0 x ex,l0 y ey] at he;exact mi x y hx hy he
    ·exact (key x y hx ((hmn y).1 hy) he).elim
   ·rcases hy with hy | hy
    ·exact (key y x hy ((hmn x).1 hx) he.symm).elim
    ·rw [(hmn x).1 hx,(hmn y).1 hy]
  ·simpa only [Us,De,q1,q2,q7] using md
  ·intro x hx;simp only [Re,De,Ra,q2,q3,q4] at hx ⊢;obtain ⟨z1,z2,z3⟩:=mr x hx;refine ⟨z1,fun hc=>hc.elim z2 (fun hm=>?_),z3⟩;rw [(hmn x).1 hm] at z1;simp only [De] at z1; rw [f6] at z1; cases z1
  ·intro y hy hc;simp only [De,q2] at hy;have hyC : ¬ C y:=fun hh=>hc (.inl hh)
   have hys : y≠t.work.stand:=fun e=>hyC (e ▸ m1)
   obtain ⟨z1,z2,z3⟩:=mo y hy hyC;rw [l0 y hys];simp only [Ky,De,Re,Ra,q2,q3,q4,q5];refine ⟨z1,z2,?_⟩;rcases z3 with z | z | ⟨z4,z5,z6⟩
   ·exact .inl z
   ·exact .inr (.inl (.inl z))
   ·refine .inr (.inr ⟨z4,?_,z6⟩);rintro (hh | hh)
    ·exact z5 hh
    ·rw [(hmn _).1 hh] at z4;simp only [De] at z4; rw [f6] at z4; cases z4
 ·obtain ⟨ms,pd,nw,ol,dr⟩:=h.e;have hvd : ∀ x s,Vd P.mem P.ts x s->Vd M1 (P.ts.set i { t with work:={ t.work with next:=11 } }) x s:=fun x s hv=>vd_mono ht hv (fun d=>(hsd x s d).2) (by
   rintro ⟨z1,z2,z3,z4,z5⟩;exact .inl ⟨z1,z2,by show 9<=11; omega,by show 11<=11; omega,z5⟩)
  refine ⟨?_,?_,?_,?_,?_⟩
  ·intro x s d hs;obtain ⟨z1,z2,z3,z4,z5,z6,z7⟩:=ms x s d ((hsd x s d).1 hs);simp only [Us,De,Lt,Ky,q1,q2,q5];refine ⟨z1,z2,z3,z4,z5,?_,z7⟩;rcases z6 with z | z | z
   ·exact .inl z
   ·exact .inr (.inl (.inl z))
   ·exact .inr (.inr z)
  ·intro x d hd;rw [hpd] at hd;refine (pd x d hd).set ht ?_;rintro (⟨z1,z2,z3,z4,z5⟩ | ⟨_,_,z2,_⟩)
   ·exact .inl ⟨z1,z2,by show 8<=11; omega,by show 11<=11; omega,z5⟩
   ·omega
  ·intro x s d hs;have hs:=(hsd x s d).1 hs;by_cases e : x = t.work.stand
   ·right;subst e;exact ⟨t.work.ans.stamp,s4 s d hs,.inr (Ex.new ht ⟨hb,.inl hk,by show 9<=11; omega,by show 11<=11; omega,rfl,rfl⟩)⟩
   ·rw [l0 x e];rcases nw x s d hs with z | ⟨s',z1,z2⟩
    ·exact .inl z
    ·exact .inr ⟨s',z1,hvd x s' z2⟩
  ·intro x s d hs hr;simp only [Re,Ra,q3,q4] at hr ⊢;rcases ol x s d ((hsd x s d).1 hs) hr with ⟨s',z1,z2,z3⟩ | z
   ·exact .inl ⟨s',z1,z2,hvd x s' z3⟩
   ·exact .inr z
  ·intro hm x s d hs hin hf;simp only [Ra,q4] at hf ⊢;exact dr (by simpa using hm) x s d ((hsd x s d).1 hs) hin hf
 ·obtain ⟨us,ki,ou,ho,pw,sw,sc,sm,sz⟩:=h.o;have nf : ∀ x,¬ Fresh x { t with work:={ t.work with next:=11 } }:=by
   rintro x ⟨_,_,z,_⟩;have : (11 : Nat) = 8\/(11 : Nat) = 10:=z;omega
  refine ⟨?_,?_,?_,?_,?_,?_,sc,by simpa using sm,sz⟩
  ·intro x hx;simp only [Us,De,q1,q2] at hx ⊢;rcases us x hx with z | z | z | z
   ·exact .inl z
   ·exact .inr (.inl (.inl z))
   ·exact .inr (.inr (.inl z))
   ·rcases z.or ht with z1 | ⟨j,u,hj,z1,z2⟩
    ·exact .inr (.inl (.inr z1.2.2.2))
    ·exact .inr (.inr (.inr (Ex.other z1 z2 hj)))
  ·rintro x hx hC;simp only [De,q2] at hx;have hC' : C x:=hC.resolve_right (fun hm=>by rw [(hmn x).1 hm,f6] at hx; cases hx);exact (ki x hx hC').set ht (by rintro ⟨_,z,_⟩; omega)
  ·intro x hx hC hr;simp only [De,q2] at hx;rw [q3] at hr;exact (ou x hx (fun hc=>hC (.inl hc)) hr).set ht (by rintro ⟨_,z,_⟩; omega)
  ·intro x hx;simp only [Us,Ho,q1,q8,List.length_set] at hx ⊢;exact ho x hx
  ·intro p q' u v x hp hq hu hv;rw [List.getElem?_set] at hp hq;by_cases ea : i = p
   ·subst ea; simp [hi] at hp; subst hp; exact absurd hu (nf x)
   ·by_cases eb : i = q'
    ·subst eb; simp [hi] at hq; subst hq; exact absurd hv (nf x)
    ·rw [if_neg ea] at hp; rw [if_neg eb] at hq;exact pw p q' u v x hp hq hu hv
  ·intro x hx;simp only [Re,Ra,q3,q4]; exact sw x hx
 ·refine hT.own (k:={ t.work with next:=11 }) hb (by omega) (by omega) (Int.le_refl _) hga (fun x hx=>hgc x hx i) ⟨rfl,rfl,rfl,rfl,rfl,rfl,rfl⟩ (by show 6<=11; omega) (by show 11<=12; omega) ?_ ?_ ?_ ?_ ?_ ?_ ?_ ?_ ?_ ?_ ?_ ?_
  ·intro hh; have : (11 : Nat)<=7:=hh; omega
  ·intro _ _; simp only [Ky,q2,q5]; exact ⟨.inl c1,c2,c3⟩
  ·intro _ hh; have : (11 : Nat)<=10:=hh; omega
  ·intro _ _ hh; have : (11 : Nat)<=9:=hh; omega
  ·intro _ hh; have : (11 : Nat) = 10:=hh; omega
  ·intro hh; have : (11 : Nat) = 9:=hh; omega
  ·intro k2; have : t.work.kind = 2:=k2; omega
  ·intro _ _; exact hT.ts hb (by omega) (by omega)
  ·intro _ hh; have : (11 : Nat) = 8\/(11 : Nat) = 10:=hh; omega
  ·intro k2; have : t.work.kind = 2:=k2; omega
  ·intro _;show Pd M1 t.work.stand = [Ld M1 t.work.stand];rw [ls,hpd]; exact f10
  ·intro _ _;exact ⟨s1,s2,s3,fun s d hs=>s4 s d ((hsd _ s d).1 hs)⟩
theorem Inv.retired (h : Inv C P) (ht : P.ts[i]? = some t) (hb : t.busy = true) (hn : t.work.next = 12) (hk : t.work.kind = 2) (hdid : t.work.ans.did = true) : Inv C ((P.setM ((P.mem.unlock i).retires P.clock (P.takenOut t.work))).setW i { t.work with locks:=0,next:=13 }):=by
 have hT:=h.th i t ht;have hi:=(List.getElem?_eq_some_iff.1 ht).1;obtain ⟨o1,o2,o3,o4,o5,o6⟩:=hT.ot ⟨hb,hk,.inr ⟨hn,hdid⟩,rfl⟩;obtain ⟨a1,a2⟩:=hT.hAhead hb (by omega) (by omega) hk o6;have hst:=hT.hStand hb (by omega) (by omega);have ha1 : t.work.ahead≠1:=by intro e; rw [e] at o3; simp only [De] at o3; rw [h.n.a1.2.2.2.1] at o3; cases o3
 have ha0 : t.work.ahead≠0:=by intro e; rw [e] at o4; exact o4 h.n.a0.1
 have huh:=unlock_hold P.mem i;have hto:=huh.to;have hua : Us (P.mem.unlock i) t.work.ahead:=by simp only [Us]; rw [(hto _).1]; exact a1
 have hre : (P.mem.unlock i).retires P.clock (P.takenOut t.work) = (P.mem.unlock i).modN t.work.ahead fun x=>{ x with retired:=true,retiredAt:=P.clock }:=by
  unfold PSt.takenOut;rw [if_neg (by rw [h.kind]; decide)]; rfl
 rw [hre,setMW_to P ht];have g2:=node_modN (hasN_used hua) (fun x=>{ x with retired:=true,retiredAt:=P.clock });have hes : ((P.mem.unlock i).modN t.work.ahead fun x=>{ x with retired:=true,retiredAt:=P.clock }).es = P.mem.es:=modN_ents _ _ _;have hw : Wm ((P.mem.unlock i).modN t.work.ahead fun x=>{ x with retired:=true,retiredAt:=P.clock }):=(h.wm.unlock i).modN hua _ hua;generalize hM : ((P.mem.unlock i).modN t.work.ahead fun x=>{ x with retired:=true,retiredAt:=P.clock }) = M1 at *;have q : ∀ x,(M1.node x).used = (P.mem.node x).used/\(M1.node x).dead = (P.mem.node x).dead/\(M1.node x).key = (P.mem.node x).key/\(M1.node x).leads = (P.mem.node x).leads/\(M1.node x).links = (P.mem.node x).links:=by
  intro x;rw [g2];obtain ⟨z1,z2,z3,z4,z5,z6,z7⟩:=hto x;by_cases e : x = t.work.ahead
  ·subst e; rw [if_pos rfl]; exact ⟨z1,z2,z5,z6,z7⟩
  ·rw [if_neg e]; exact ⟨z1,z2,z5,z6,z7⟩
 have q1:=fun x=>(q x).1
 have q2:=fun x=>(q x).2.1
 have q5:=fun x=>(q x).2.2.1
 have q6:=fun x=>(q x).2.2.2.1
 have q7:=fun x=>(q x).2.2.2.2
 have r0 : ∀ x,x≠t.work.ahead->(M1.node x).retired = (P.mem.node x).retired/\(M1.node x).retiredAt = (P.mem.node x).retiredAt:=by
  intro x hx; rw [g2,if_neg hx]; exact ⟨(hto x).2.2.1,(hto x).2.2.2.1⟩
 have ra : Re M1 t.work.ahead/\Ra M1 t.work.ahead = P.clock:=by simp only [Re,Ra]; rw [g2,if_pos rfl]; exact ⟨rfl,rfl⟩
 have rne : ∀ x,Re P.mem x->x≠t.work.ahead:=by rintro x hx rfl; simp only [Re] at hx; rw [o5] at hx; cases hx
 have re : ∀ x,Re P.mem x->Re M1 x/\Ra M1 x = Ra P.mem x:=by
  intro x hx;obtain ⟨z1,z2⟩:=r0 x (rne x hx);simp only [Re,Ra] at hx ⊢; rw [z1,z2]; exact ⟨hx,rfl⟩
 have rb : ∀ x,Re M1 x->x = t.work.ahead\/(Re P.mem x/\Ra M1 x = Ra P.mem x):=by
  intro x hx;by_cases e : x = t.work.ahead
  ·exact .inl e
  ·obtain ⟨z1,z2⟩:=r0 x e;simp only [Re,Ra] at hx ⊢; rw [z1] at hx; exact .inr ⟨hx,z2⟩
 have hho : ∀ x,Us P.mem x->Ho M1 x = if Ho P.mem x = i then -1 else Ho P.mem x:=by
  intro x hx;rw [<- unlock_ho _ _ _ hx];simp only [Ho]; rw [g2];by_cases e : x = t.work.ahead
  ·subst e; rw [if_pos rfl]
  ·rw [if_neg e]
 have hsd:=fun x s d=>sd_es (M:=P.mem) (M':=M1) hes x s d
 have hpd:=fun x=>pd_es (M:=P.mem) (M':=M1) hes x
 have hns : ¬ InSw P.sweep t.work.ahead:=fun hh=>by have:=(h.o.sw _ hh).1; simp only [Re] at this; rw [o5] at this; cases this
 have hga : ∀ x,x = 1\/Gd P.mem C x->Us M1 x/\Ky M1 x = Ky P.mem x/\(Gd P.mem C x->Gd M1 C x)/\(Re M1 x->(Re P.mem x/\Ra M1 x = Ra P.mem x)\/P.clock<=Ra M1 x):=by
  intro x hx;refine ⟨by simp only [Us,q1]; exact h.gdUs hx,q5 x,?_,?_⟩
  ·intro g; unfold Gd; simp only [De,q2]; exact g
  ·intro hr;rcases rb x hr with z | z
   ·right; rw [z,ra.2]; exact Int.le_refl _
   ·exact .inl z
 have hno : ∀ {p : Prop},(13 : Nat)<=12->p:=fun hh=>absurd hh (by omega)
 have hlda : Ld P.mem t.work.ahead = 1\/C (Ld P.mem t.work.ahead):=by rw [<- o2]; exact (h.n.mc _ o1).2.2.2.1
 refine h.build (t':={ t with work:={ t.work with locks:=0,next:=13 } }) ht ⟨Int.le_refl _,hga,?_,?_⟩ hw ?_ ?_ ?_ ?_
 ·intro x hu hh hf;have hne : x≠t.work.ahead:=by rintro rfl; exact hh a2
  refine ⟨?_,hpd x,fun s d=>(hsd x s d).1,Iff.rfl⟩;rw [g2,if_neg hne,unlock_node];unfold Go.Proofs.YtfccelbmacjifabGreat.unlocked;rw [if_neg (by simp; intro _; exact hh)]
 ·intro x hx j hj;have hx' : Us P.mem x:=by simp only [Us,q1] at hx; exact hx
  rw [hho x hx'];constructor
  ·intro hh;split at hh
   ·omega
   ·exact ⟨hx',hh⟩
  ·rintro ⟨_,hh⟩;rw [if_neg (by omega)]; exact hh
 ·obtain ⟨n0,n1,mc,kr,mi,md,mr,mo⟩:=h.n;refine ⟨?_,?_,?_,?_,?_,?_,?_,?_⟩
  ·rw [q2]; exact n0
  ·simp only [Us,Ky,q1,q2,q5,q7];rw [(r0 1 (fun e=>ha1 e.symm)).1]; exact n1
  ·intro x hx;simp only [Us,Ld,Lt,Ky,q1,q5,q6,q7];rw [(r0 x (by rintro rfl; exact o4 hx)).1];exact mc x hx
  ·simpa only [Us,Ky,q1,q5] using kr
  ·simpa only [Ld,q6] using mi
  ·simpa only [Us,De,q1,q2,q7] using md
  ·intro x hx;simp only [De,q2];rcases rb x hx with z | ⟨z1,z2⟩
   ·rw [z]; exact ⟨o3,o4,by rw [ra.2]; exact Int.le_refl _⟩
   ·rw [z2]; exact mr x z1
  ·intro y hy hc;simp only [De,q2] at hy;obtain ⟨z1,z2,z3⟩:=mo y hy hc;simp only [Ld,Ky,De,q2,q5,q6];refine ⟨z1,z2,?_⟩;rcases z3 with z | z | ⟨g1,g2,g3,g4,g5⟩
   ·exact .inl z
   ·exact .inr (.inl z)
   ·refine .inr (.inr ⟨g1,g2,(re y g3).1,?_,g5⟩);intro hr;rw [(re y g3).2];rcases rb _ hr with z | ⟨z1,z2⟩
    ·have z' : Ld P.mem y = t.work.ahead:=z;have : Ra M1 (Ld P.mem y) = P.clock:=by rw [z']; exact ra.2
     have h2:=(mr y g3).2.2;simp only [Ld] at *;omega
    ·have h2:=g4 z1;simp only [Ld] at *;omega
 ·obtain ⟨ms,pd,nw,ol,dr⟩:=h.e;have hvd : ∀ x s,Vd P.mem P.ts x s->Vd M1 (P.ts.set i { t with work:={ t.work with locks:=0,next:=13 } }) x s:=fun x s hv=>vd_mono ht hv (fun d=>(hsd x s d).2) (by rintro ⟨_,_,_,z,_⟩; omega)
  refine ⟨?_,?_,?_,?_,?_⟩
  ·intro x s d hs;simp only [Us,De,Lt,Ky,q1,q2,q5];exact ms x s d ((hsd x s d).1 hs)
  ·intro x d hd;rw [hpd] at hd;refine (pd x d hd).set ht ?_;rintro (⟨_,_,_,z,_⟩ | ⟨_,z,_⟩) <;> omega
  ·intro x s d hs;simp only [Ld,q6];rcases nw x s d ((hsd x s d).1 hs) with z | ⟨s',z1,z2⟩
   ·exact .inl z
   ·exact .inr ⟨s',z1,hvd x s' z2⟩
  ·intro x s d hs hr;have hs:=(hsd x s d).1 hs;rcases rb d hr with z | ⟨z1,z2⟩
   ·subst z;rw [ra.2];rcases nw x s _ hs with z | ⟨s',z1,z2⟩
    ·-- a link that leads there now
     right;have hxu:=(ms x s _ hs).1;have hx1:=(ms x s _ hs).2.1;rcases h.o.us x hxu with y | y | y | ⟨j,u,hj,y1,y2,y3,y4⟩
     ·exact absurd y hx1
     ·exfalso;rcases (h.n.mc x y).2.2.2.1 with g | g
      ·exact ha1 (z.trans g)
      ·rw [<- z] at g; exact o4 g
     ·by_cases hc : C x
      ·exfalso;rcases (h.n.mc x hc).2.2.2.1 with g | g
       ·exact ha1 (z.trans g)
       ·rw [<- z] at g; exact o4 g
      ·obtain ⟨_,_,g⟩:=h.n.mo x y hc;rw [<- z] at g;rcases g with g | g | ⟨_,_,g3,_,_⟩
       ·exact absurd g ha1
       ·exact absurd g o4
       ·exact ⟨(re x g3).1,by rw [(re x g3).2]; exact (h.n.mr x g3).2.2,fun hh=>absurd hh hns⟩
     ·exfalso;obtain ⟨m,f1,_,_,_,_,_,_,_,f9,_⟩:=(h.th j u hj).f8 y1 y2 y3;rw [mem_one f1 y4,f9] at z;have hc7:=(h.th j u hj).c7 y1 (by omega) (by omega);have hc10:=(h.th j u hj).c10 y1 (by omega) (by omega);rcases (h.n.mc _ hc7.1).2.2.2.1 with g | g
      ·rw [hc10,<- z] at g; exact ha1 g
      ·rw [hc10,<- z] at g; exact o4 g
    ·left;refine ⟨s',z1,?_,hvd x s' z2⟩;rcases z2 with ⟨d',z2⟩ | ⟨j,u,hj,y1,y2,y3,y4,_,y6⟩
     ·exact (ms x s' d' z2).2.2.2.1
     ·rw [<- y6]; exact ((h.th j u hj).s9 y1 y3 y4).2.2.1.2
   ·rw [z2];rcases ol x s d hs z1 with ⟨s',y1,y2,y3⟩ | ⟨y1,y2,y3⟩
    ·exact .inl ⟨s',y1,y2,hvd x s' y3⟩
    ·exact .inr ⟨(re x y1).1,by rw [(re x y1).2]; exact y2,y3⟩
  ·intro hm x s d hs hin hf;have hd:=(h.o.sw d hin).1;rw [(re d hd).2] at hf ⊢;obtain ⟨z1,z2⟩:=dr (by simpa using hm) x s d ((hsd x s d).1 hs) hin hf;exact ⟨z1,by rw [(re x (h.o.sw x z1).1).2]; exact z2⟩
 ·obtain ⟨us,ki,ou,ho,pw,sw,sc,sm,sz⟩:=h.o;have nf : ∀ x,¬ Fresh x { t with work:={ t.work with locks:=0,next:=13 } }:=by
   rintro x ⟨_,_,z,_⟩;have : (13 : Nat) = 8\/(13 : Nat) = 10:=z;omega
  refine ⟨?_,?_,?_,?_,?_,?_,sc,by simpa using sm,sz⟩
  ·intro x hx;simp only [Us,De,q1,q2] at hx ⊢;rcases us x hx with z | z | z | z
   ·exact .inl z
   ·exact .inr (.inl z)
   ·exact .inr (.inr (.inl z))
   ·exact .inr (.inr (.inr (z.set ht (by rintro ⟨_,z,_⟩; omega))))
  ·rintro x hx hC;simp only [De,q2] at hx;exact (ki x hx hC).set ht (by rintro ⟨_,_,z,_⟩; omega)
  ·intro x hx hC hr;simp only [De,q2] at hx;have e : x≠t.work.ahead:=by rintro rfl; have:=ra.1; simp only [Re] at this; rw [hr] at this; cases this
   rw [(r0 x e).1] at hr;exact (ou x hx hC hr).set ht (by rintro ⟨_,_,_,z⟩; exact absurd z.symm e)
  ·intro x hx;simp only [Us,q1] at hx;rw [hho x hx,List.length_set];split
   ·exact .inl rfl
   ·exact ho x hx
  ·intro p q' u v x hp hq hu hv;rw [List.getElem?_set] at hp hq;by_cases ea : i = p
   ·subst ea; simp [hi] at hp; subst hp; exact absurd hu (nf x)
   ·by_cases eb : i = q'
    ·subst eb; simp [hi] at hq; subst hq; exact absurd hv (nf x)
    ·rw [if_neg ea] at hp; rw [if_neg eb] at hq;exact pw p q' u v x hp hq hu hv
  ·intro x hx;obtain ⟨z1,z2⟩:=sw x hx;exact ⟨(re x z1).1,by rw [(re x z1).2]; exact z2⟩
 ·refine Th.of6 (fun _=>.inr (.inl rfl)) hT.kd (fun _=>by show 1<=13/\13<=13; omega) (fun _ _=>.inr rfl) ?_ (fun b _=>hT.tm b (by omega)) ?_ (fun b _=>rfl) ?_ ?_ hT.ky hT.hi ?_ ?_ ?_ ?_ ?_ hT.l3
  ·show t.slot = if t.busy = true/\(13 : Nat)≠1 then (if (13 : Nat)<=3 then 1 else 2) else 0
   rw [hT.sl,hn]; simp [hb]
  ·intro x hx;show _ ↔ t.busy = true/\x ∈ [_,_].take 0;simp only [List.take_zero,List.not_mem_nil,and_false,iff_false];simp only [Us,q1] at hx;rw [hho x hx];split
   ·omega
   ·next hh=>exact hh
  ·intro b h5; have : (13 : Nat) = 5:=h5; omega
  ·intro b h6 h7; exact hno h7
  ·intro b _ h4; have : (13 : Nat)<=3:=h4; omega
  ·intro b _ _ h4; exact hno h4
  ·intro b _ h4; have : (13 : Nat) = 4:=h4; omega
  ·intro b _ h4; exact hno h4
  ·intro b h4; have : (13 : Nat)<=7:=h4; omega
end
end
section
section
variable {C C' : Int->Prop} {M M' : PMem} {c c' : Int} {r : PSweep} {i j : Nat} {t t' : PThread} {ts : List PThread} {P : PSt} {x : Int} {k : PWork}
def nextC (C : Int->Prop) (t : PThread) : Int->Prop :=
 if t.work.next = 10/\t.work.kind = 2 then (fun x=>C x/\x≠t.work.ahead) else if t.work.next = 10/\t.work.kind = 1 then (fun x=>C x\/x ∈ t.work.made) else C
theorem nextC_ne (h : t.work.next≠10) : nextC C t = C:=by
 unfold nextC; rw [if_neg (fun hh=>h hh.1),if_neg (fun hh=>h hh.1)]
theorem Inv.prepare (h : Inv C P) (ht : P.ts[i]? = some t) (hb : t.busy = true) (hn : t.work.next = 7) : Inv C (P.prepare i t.work):=by
 obtain ⟨hk,_⟩:=h.mine ht hb (by omega) (by omega);unfold PSt.prepare;split
 ·exact h.settle ht hb (.inr hn) rfl
 ·next hroom =>
  rcases hk with hk | hk
  ·have hne : P.needs t.work.kind = (1,2):=by unfold PSt.needs; rw [hk,if_neg (by decide),if_neg (by rw [h.kind]; decide)]
   rw [hne] at hroom;simp only [hk,if_true];exact h.prepI ht hb hn hk (by simp only at hroom; omega) (by simp only at hroom; omega)
  ·have hne : P.needs t.work.kind = (0,1):=by unfold PSt.needs; rw [hk,if_pos rfl]
   rw [hne] at hroom;simp only [hk,show ¬ ((2 : Int) = 1) by decide,if_false];exact h.prepR ht hb hn hk (by simp only at hroom; omega)
theorem Inv.take (h : Inv C P) (ht : P.ts[i]? = some t) (hb : t.busy = true) (hn : t.work.next = 8) : Inv C (P.take i t.work):=by
 have hT:=h.th i t ht;obtain ⟨hk,_⟩:=h.mine ht hb (by omega) (by omega);obtain ⟨t1,t2⟩:=hT.ts hb (by omega) (by omega);have hu : P.mem.unpend t.work.tsrc t.work.tside = P.mem.unpend t.work.stand false:=by rw [t1,t2]
 unfold PSt.take;rw [hu];split
 ·rcases hk with hk | hk
  ·exact h.overI ht hb hn hk _ rfl
  ·rw [show (P.mem.unpend t.work.stand false).frees t.work.made = P.mem.unpend t.work.stand false by rw [(hT.p2 hb hk (by omega) (by omega)).2]; rfl];exact h.overR ht hb hn hk _ rfl
 ·rcases hk with hk | hk
  ·rw [if_neg (show ¬ t.work.kind = 2 by omega)];exact h.takeI ht hb hn hk { did:=true,stamp:=P.clock + 1 } ⟨rfl,rfl⟩
  ·rw [if_pos hk];exact h.takeR ht hb hn hk { did:=true,stamp:=P.clock + 1,value:=(P.mem.node t.work.ahead).value } ⟨rfl,rfl⟩
theorem Inv.unlock (h : Inv C P) (ht : P.ts[i]? = some t) (hb : t.busy = true) (hn : t.work.next = 12) : Inv C (P.unlock i t.work):=by
 unfold PSt.unlock;simp only;by_cases hh : t.work.kind = 2/\t.work.ans.did = true
 ·rw [if_pos hh]; exact h.retired ht hb hn hh.1 hh.2
 ·rw [if_neg hh,setMW_to P ht]; exact h.unlock0 ht hb hn hh
theorem Inv.linkIs (h : Inv C P) (ht : P.ts[i]? = some t) (hb : t.busy = true) (hn : t.work.next = 4) (hk : t.work.kind = 3\/t.work.kind = 4) : ∃ x,P.linkNext t.work = (x,false)/\Gd P.mem C x/\Safe P.mem P.sweep i t.work.time x/\(t.work.kind = 3->x = t.work.stand)/\(t.work.kind = 4->t.work.links = [(x,false)]):=by
 have hT:=h.th i t ht;rcases hk with hk | hk
 ·have hl:=hT.l3 hb (by omega);obtain ⟨g1,g2,g3⟩:=hT.xs hb (by omega) (by omega) (by omega);refine ⟨t.work.stand,?_,g1,g2,fun _=>rfl,fun h4=>by omega⟩;unfold PSt.linkNext;rw [hl,(h.side g1 t.work.key).1]
 ·obtain ⟨x,e,g1,g2⟩:=hT.xl hb hk hn;refine ⟨x,?_,g1,g2,fun h3=>by omega,fun _=>e⟩;unfold PSt.linkNext;rw [e]
theorem Inv.read (h : Inv C P) (ht : P.ts[i]? = some t) (hb : t.busy = true) (hn : t.work.next = 4) (hk : t.work.kind = 3\/t.work.kind = 4) : Inv C (P.read i t.work).1:=by
 obtain ⟨x,h1,h2,h3,h4,h5⟩:=h.linkIs ht hb hn hk;unfold PSt.read;rw [h1];simp only;by_cases hp : P.mem.hasPending x false = true
 ·rw [if_pos hp]; exact h
 ·rw [if_neg hp];have hp' : Pd P.mem x = []:=by
   by_cases q : Pd P.mem x = []
   ·exact q
   ·exact absurd (hasPd_iff.2 q) hp
  rcases hk with hk | hk
  ·rw [if_pos hk]
   have:=h4 hk
   subst this;exact h.lookUp ht hb hn hk hp'
  ·rw [if_neg (by omega)];exact h.scan ht hb hn hk (h5 hk) hp'
theorem Inv.step (h : Inv C P) (ht : P.ts[i]? = some t) (hb : t.busy = true) : Inv (nextC C t) (P.step i t).1:=by
 have hT:=h.th i t ht;have hnx:=hT.nx hb;have hkd:=hT.kd hb;have hrd:=hT.rd hb;rcases (show t.work.next = 1\/t.work.next = 2\/t.work.next = 3\/t.work.next = 13\/(4<=t.work.next/\t.work.next<=12) by omega) with hn | hn | hn | hn | hn
 ·rw [nextC_ne (by omega)];unfold PSt.step; simp only [hn];exact h.step1 ht hb hn
 ·rw [nextC_ne (by omega)];unfold PSt.step; simp only [hn];exact h.step2 ht hb hn
 ·rw [nextC_ne (by omega)];unfold PSt.step; simp only [hn];exact h.step3 ht hb hn
 ·rw [nextC_ne (by omega)];unfold PSt.step; simp only [hn];exact h.step13 ht hn
 ·have hs : P.step i t = if t.work.kind = 3\/t.work.kind = 4 then P.read i t.work else P.update i t.work:=by
   unfold PSt.step;split <;> first | (rename_i hh; omega) | rfl
  rw [hs];by_cases hk : t.work.kind = 3\/t.work.kind = 4
  ·rw [if_pos hk]
   have:=hrd hk
   rw [nextC_ne (by omega)];exact h.read ht hb (by omega) hk
  ·rw [if_neg hk];have hk : t.work.kind = 1\/t.work.kind = 2:=by omega
   unfold PSt.update;rcases (show t.work.next = 4\/t.work.next = 5\/t.work.next = 6\/t.work.next = 7\/t.work.next = 8\/t.work.next = 9\/t.work.next = 10\/t.work.next = 11\/t.work.next = 12 by omega) with hn | hn | hn | hn | hn | hn | hn | hn | hn
   ·rw [nextC_ne (by omega)]; simp only [hn]; exact h.walk ht hb hn hk
   ·rw [nextC_ne (by omega)]; simp only [hn];rcases h.lock ht hb hn with ⟨_,_,q⟩ | ⟨_,q⟩
    ·exact q
    ·rw [q]; exact h
   ·rw [nextC_ne (by omega)]; simp only [hn]; exact h.check ht hb hn
   ·rw [nextC_ne (by omega)]; simp only [hn]; exact h.prepare ht hb hn
   ·rw [nextC_ne (by omega)]; simp only [hn]; exact h.take ht hb hn
   ·rw [nextC_ne (by omega)]; simp only [hn]; exact h.killed ht hb hn
   ·simp only [hn];unfold nextC;rcases hk with hk | hk
    ·rw [if_neg (by omega),if_pos ⟨hn,hk⟩]; exact h.linkI ht hb hn hk
    ·rw [if_pos ⟨hn,hk⟩]; exact h.linkR ht hb hn hk
   ·rw [nextC_ne (by omega)]; simp only [hn];obtain ⟨t1,t2⟩:=hT.ts hb (by omega) (by omega);rw [show P.mem.stamp t.work.tsrc t.work.tside t.work.ans.stamp = P.mem.stamp t.work.stand false t.work.ans.stamp by rw [t1,t2]];exact h.stamped ht hb hn
   ·rw [nextC_ne (by omega)]; simp only [hn]; exact h.unlock ht hb hn
end
end
section
section
variable {C C' : Int->Prop} {M M' : PMem} {c c' : Int} {r r' : PSweep} {i j : Nat} {t t' : PThread} {ts : List PThread} {P : PSt} {x : Int} {k : PWork}
theorem Th.swept (h : Th C M c r i t)
  (hx : ∀ x,(x = 1\/Gd M C x)->Safe M r i t.work.time x->t.busy = true->4<=t.work.next->(M'.node x = M.node x/\Pd M' x = Pd M x/\∀ s d,Sd M' x s d->Sd M x s d)/\Safe M' r' i t.work.time x)
  (hf : ∀ x,Fresh x t->M'.node x = M.node x/\Pd M' x = Pd M x/\∀ s d,Sd M' x s d->Sd M x s d)
  (hu : ∀ x,Us M' x->M'.node x = M.node x)
  (htm : t.busy = true->3<=t.work.next->i + 1 < r'.made->(r'.hasTime = true/\r'.time<=t.work.time)\/r'.clock<=t.work.time) : Th C M' c r' i t:=by
 have hs : t.busy = true->t.work.kind≠4->4<=t.work.next->t.work.next<=12->(M'.node t.work.stand = M.node t.work.stand/\Pd M' t.work.stand = Pd M t.work.stand/\∀ s d,Sd M' t.work.stand s d->Sd M t.work.stand s d)/\Safe M' r' i t.work.time t.work.stand:=by
  intro b k4 h4 h12;obtain ⟨g1,g2,_⟩:=h.xs b k4 h4 h12;exact hx _ (.inr g1) g2 b h4
 have ha : t.busy = true->5<=t.work.next->t.work.next<=12->(M'.node t.work.ahead = M.node t.work.ahead/\Pd M' t.work.ahead = Pd M t.work.ahead/\∀ s d,Sd M' t.work.ahead s d->Sd M t.work.ahead s d)/\Safe M' r' i t.work.time t.work.ahead:=by
  intro b h5 h12;obtain ⟨g1,g2,_⟩:=h.cs b h5 h12;exact hx _ g1 g2 b (by omega)
 have k4 : t.busy = true->5<=t.work.next->t.work.next<=12->t.work.kind≠4:=by
  intro b h5 h12 e
  have:=h.rd b (.inr e)
  omega
 have hw : t.busy = true->5<=t.work.next->t.work.next<=12->wl M' t.work = wl M t.work:=by
  intro b h5 h12;have e : Ky M' t.work.ahead = Ky M t.work.ahead:=by simp only [Ky]; rw [(ha b h5 h12).1.1]
  unfold wl; rw [e]
 have hgd : ∀ x,M'.node x = M.node x->(Gd M' C x ↔ Gd M C x):=fun x e=>by unfold Gd De; rw [e]
 refine ⟨h.kd,h.nx,h.rd,h.sl,?_,?_,h.l4,?_,?_,h.ky,h.hi,h.lk,?_,?_,?_,h.m7,?_,?_,?_,?_,h.n9,?_,h.ts,?_,?_,?_,?_,h.l3⟩
 ·intro b h3; exact ⟨(h.tm b h3).1,htm b h3⟩
 ·intro x hux;have e:=hu x hux;have hux' : Us M x:=by simp only [Us] at hux ⊢; rw [<- e]; exact hux
  simp only [Ho]; rw [e]; exact h.hd x hux'
 ·intro b h5; rw [hw b (by omega) (by omega)]; exact h.l5 b h5
 ·intro b h6 h12; rw [hw b (by omega) h12]; exact h.l6 b h6 h12
 ·intro b q4 h4 h12;obtain ⟨⟨e,_⟩,s⟩:=hs b q4 h4 h12;obtain ⟨g1,g2,g3⟩:=h.xs b q4 h4 h12;exact ⟨(hgd _ e).2 g1,s,by simp only [Ky]; rw [e]; exact g3⟩
 ·intro b q4 h4;obtain ⟨x,e,g1,g2⟩:=h.xl b q4 h4;obtain ⟨⟨e1,_⟩,s⟩:=hx x (.inr g1) g2 b (by omega);exact ⟨x,e,(hgd _ e1).2 g1,s⟩
 ·intro b h5 h12;obtain ⟨⟨e,_⟩,s⟩:=ha b h5 h12;obtain ⟨g1,g2,g3,g4⟩:=h.cs b h5 h12;exact ⟨g1.imp id (hgd _ e).2,s,g3,by simp only [Ky]; rw [e]; exact g4⟩
 ·intro b h7 h11;have e1:=(hs b (k4 b (by omega) (by omega)) (by omega) (by omega)).1.1;have e2:=(ha b (by omega) (by omega)).1.1;simp only [Ky]; rw [e1,e2]; exact h.c7 b h7 h11
 ·intro b h7 h10;have e1:=(hs b (k4 b (by omega) (by omega)) (by omega) (by omega)).1.1;simp only [Ld]; rw [e1]; exact h.c10 b h7 h10
 ·intro b k2 h7 h9;rw [(ha b (by omega) (by omega)).1.1]; exact h.d9 b k2 h7 h9
 ·intro b k2 h10;simp only [De]; rw [(ha b (by omega) (by omega)).1.1]; exact h.d10 b k2 h10
 ·intro ho;have b:=ho.1;have hn:=ho.2.2.1;have e1:=(hs b (k4 b (by omega) (by omega)) (by omega) (by omega)).1.1;have e2:=(ha b (by omega) (by omega)).1.1;simp only [Ld,De,Ky]; rw [e1,e2]; exact h.ot ho
 ·intro b k1 hn;obtain ⟨n,f1,f2,f3,f4,f5,f6,f7,f8,f9,f10,f11⟩:=h.f8 b k1 hn;obtain ⟨g1,g2,g3⟩:=hf n ⟨b,k1,hn,by rw [f1]; simp⟩;have e1:=(hs b (k4 b (by omega) (by omega)) (by omega) (by omega)).1.2.1;refine ⟨n,f1,f2,f3,?_⟩;simp only [Us,Ky,Ld];rw [g1,g2,e1];exact ⟨f4,f5,f6,f7,f8,f9,f10,fun h8=>⟨(f11 h8).1,fun s d hh=>(f11 h8).2 s d (g3 s d hh)⟩⟩
 ·intro b k2 h8 h10;have e1:=(hs b (k4 b (by omega) (by omega)) (by omega) (by omega)).1.2.1;have e2:=(ha b (by omega) (by omega)).1.1;simp only [Ld]; rw [e1,e2]; exact h.p2 b k2 h8 h10
 ·intro b h11;obtain ⟨e1,e2,_⟩:=(hs b (k4 b (by omega) (by omega)) (by omega) (by omega)).1;simp only [Ld]; rw [e1,e2]; exact h.p11 b h11
 ·intro b h9 h11;obtain ⟨s1,s2,s3,s4⟩:=h.s9 b h9 h11;exact ⟨s1,s2,s3,fun s d hh=>s4 s d ((hs b (k4 b (by omega) (by omega)) (by omega) (by omega)).1.2.2 s d hh)⟩
theorem mem_retired : ∀ (l : List PNode) (k n : Nat),n ∈ retiredFrom l k ↔ ∃ j e,n = k + j/\l[j]? = some e/\e.retired = true
 | [],k,n=>by simp [retiredFrom]
 | x :: l,k,n=>by
  have ih:=mem_retired l (k + 1) n;unfold retiredFrom;constructor
  ·intro h;have h' : (n = k/\x.retired = true)\/n ∈ retiredFrom l (k + 1):=by
    split at h
    ·next hx=>rcases List.mem_cons.1 h with h | h; exact .inl ⟨h,hx⟩; exact .inr h
    ·exact .inr h
   rcases h' with ⟨h1,h2⟩ | h1
   ·exact ⟨0,x,by omega,rfl,h2⟩
   ·obtain ⟨j,e,h2,h3,h4⟩:=ih.1 h1;exact ⟨j + 1,e,by omega,by simpa using h3,h4⟩
  ·rintro ⟨j,e,h1,h2,h3⟩;cases j with
   | zero =>
    simp at h2; subst h2;rw [if_pos h3,h1]; simp
   | succ j =>
    have:=ih.2 ⟨j,e,by omega,by simpa using h2,h3⟩
    split
    ·exact List.mem_cons_of_mem _ this
    ·exact this
theorem inSw_new (M : PMem) (r : PSweep) (h : r.retired = retiredFrom M.ns 0) (x : Int) : InSw r x ↔ Re M x:=by
 unfold InSw;rw [h];constructor
 ·rintro ⟨n,hn,rfl⟩;obtain ⟨j,e,h1,h2,h3⟩:=(mem_retired _ _ _).1 hn;obtain rfl : n = j:=by omega
  show (M.node n).retired = true;rw [(node_get h2).1]; exact h3
 ·intro hr;have hn : M.hasNode x = true:=by
   cases hh : M.hasNode x
   ·simp only [Re] at hr; unfold PMem.node at hr; rw [hh] at hr; exact nomatch hr
   ·rfl
  obtain ⟨k,e,rfl,h1,h2⟩:=node_at hn;exact ⟨k,(mem_retired _ _ _).2 ⟨k,e,by omega,h1,by simp only [Re] at hr; rw [h2] at hr; exact hr⟩,rfl⟩
theorem Inv.sweep0 (h : Inv C P) : Inv C { P with sweep:={ P.sweep with made:=1,clock:=P.clock,retired:=retiredFrom P.mem.ns 0 } }:=by
 have hin:=inSw_new P.mem { P.sweep with made:=1,clock:=P.clock,retired:=retiredFrom P.mem.ns 0 } rfl;generalize hr : ({ P.sweep with made:=1,clock:=P.clock,retired:=retiredFrom P.mem.ns 0 } : PSweep) = r1 at *;have hm1 : r1.made = 1:=by rw [<- hr]
 have hc1 : r1.clock = P.clock:=by rw [<- hr]
 refine ⟨h.kind,h.wm,?_,?_,?_,?_⟩
 ·obtain ⟨n0,n1,mc,kr,mi,md,mr,mo⟩:=h.n;refine ⟨n0,n1,mc,kr,mi,md,mr,?_⟩;intro y hy hc;obtain ⟨z1,z2,z3⟩:=mo y hy hc;refine ⟨z1,z2,?_⟩;rcases z3 with z | z | ⟨g1,g2,g3,g4,_⟩
  ·exact .inl z
  ·exact .inr (.inl z)
  ·exact .inr (.inr ⟨g1,g2,g3,g4,fun _=>(hin y).2 g3⟩)
 ·obtain ⟨ms,pd,nw,ol,dr⟩:=h.e;refine ⟨ms,pd,nw,?_,?_⟩
  ·intro x s d hs hrd;rcases ol x s d hs hrd with z | ⟨z1,z2,_⟩
   ·exact .inl z
   ·exact .inr ⟨z1,z2,fun _=>(hin x).2 z1⟩
  ·intro hh;simp only at hh;rw [hm1] at hh; omega
 ·obtain ⟨us,ki,ou,ho,pw,sw,sc,sm,sz⟩:=h.o;refine ⟨us,ki,ou,ho,pw,?_,?_,?_,?_⟩
  ·intro x hx
   have:=(hin x).1 hx
   exact ⟨this,by simp only; rw [hc1]; exact (h.n.mr x this).2.2⟩
  ·simp only; rw [hc1]; exact ⟨Int.le_refl _,sc.2⟩
  ·simp only; rw [hm1]; omega
  ·intro hh; simp only at hh; rw [hm1] at hh; omega
 ·intro i t ht;have hT:=h.th i t ht;refine hT.swept (M':=P.mem) (r':=r1) ?_ (fun x _=>⟨rfl,rfl,fun _ _=>id⟩) (fun _ _=>rfl) (fun _ _ hh=>by rw [hm1] at hh; omega);intro x hx hs _ _;exact ⟨⟨rfl,rfl,fun _ _=>id⟩,hs.1,hs.2.1,fun hh=>by rw [hm1] at hh; omega⟩
theorem Inv.sweepLook (h : Inv C P) (hl : P.sweep.made - 1 < P.ts.length) (hs : (P.th (P.sweep.made - 1)).slot≠1) : Inv C { P with sweep:={ P.sweep.lookAt (P.th (P.sweep.made - 1)) with made:=P.sweep.made + 1 } }:=by
 have hu : P.ts[P.sweep.made - 1]? = some (P.th (P.sweep.made - 1)):=by
  simp [PSt.th,List.getElem?_eq_getElem hl]
 generalize P.th (P.sweep.made - 1) = u at *;have hret : (P.sweep.lookAt u).retired = P.sweep.retired:=by unfold PSweep.lookAt; split <;> rfl
 have hclk : (P.sweep.lookAt u).clock = P.sweep.clock:=by unfold PSweep.lookAt; split <;> rfl
 have hkeep : ∀ tm : Int,P.sweep.hasTime = true->P.sweep.time<=tm->(P.sweep.lookAt u).hasTime = true/\(P.sweep.lookAt u).time<=tm:=by
  intro tm h1 h2;unfold PSweep.lookAt;split
  ·refine ⟨rfl,?_⟩;simp only [h1];split
   ·next hh=>simp at hh; omega
   ·exact h2
  ·exact ⟨h1,h2⟩
 have hnote : u.slot = 2->(P.sweep.lookAt u).hasTime = true/\(P.sweep.lookAt u).time<=u.work.time:=by
  intro h2;unfold PSweep.lookAt;rw [if_pos h2];refine ⟨rfl,?_⟩;simp only;split
  ·exact Int.le_refl _
  ·next hh=>simp at hh; omega
 generalize hr : ({ P.sweep.lookAt u with made:=P.sweep.made + 1 } : PSweep) = r1 at *;have e1 : r1.made = P.sweep.made + 1:=by rw [<- hr]
 have e2 : r1.retired = P.sweep.retired:=by rw [<- hr]; exact hret
 have e3 : r1.clock = P.sweep.clock:=by rw [<- hr]; exact hclk
 have e4 : r1.hasTime = (P.sweep.lookAt u).hasTime:=by rw [<- hr]
 have e5 : r1.time = (P.sweep.lookAt u).time:=by rw [<- hr]
 have hin : ∀ x,InSw r1 x ↔ InSw P.sweep x:=fun x=>by unfold InSw; rw [e2]
 refine ⟨h.kind,h.wm,?_,?_,?_,?_⟩
 ·obtain ⟨n0,n1,mc,kr,mi,md,mr,mo⟩:=h.n;refine ⟨n0,n1,mc,kr,mi,md,mr,?_⟩;intro y hy hc;simp only [hin];exact mo y hy hc
 ·obtain ⟨ms,pd,nw,ol,dr⟩:=h.e;refine ⟨ms,pd,nw,?_,?_⟩
  ·intro x s d hs hrd;simp only [hin];exact ol x s d hs hrd
  ·intro hh;simp only at hh;rw [e1] at hh; omega
 ·obtain ⟨us,ki,ou,ho,pw,sw,sc,sm,sz⟩:=h.o;refine ⟨us,ki,ou,ho,pw,?_,?_,?_,?_⟩
  ·intro x hx;simp only; rw [e3];exact sw x ((hin x).1 hx)
  ·simp only; rw [e3]; exact sc
  ·simp only; rw [e1]; omega
  ·intro hh; simp only at hh; rw [e1] at hh; omega
 ·intro i t ht;have hT:=h.th i t ht;have key : t.busy = true->3<=t.work.next->i + 1 < r1.made->(i + 1 < P.sweep.made)\/(r1.hasTime = true/\r1.time<=t.work.time):=by
   intro b h3 hp;rw [e1] at hp;by_cases hq : i + 1 < P.sweep.made
   ·exact .inl hq
   ·right;have hi : i = P.sweep.made - 1:=by omega
    subst hi;rw [hu] at ht; injection ht with ht; subst ht
    rw [e4,e5];apply hnote
    have:=hT.sl
    rw [if_pos ⟨b,by omega⟩] at this;split at this
    ·exact absurd this hs
    ·exact this
  refine hT.swept (M':=P.mem) (r':=r1) ?_ (fun x _=>⟨rfl,rfl,fun _ _=>id⟩) (fun _ _=>rfl) ?_
  ·intro x hx hsf b h4;refine ⟨⟨rfl,rfl,fun _ _=>id⟩,hsf.1,hsf.2.1,fun hp=>?_⟩;rcases key b (by omega) hp with hq | hq
   ·rcases hsf.2.2 hq with ⟨z1,z2⟩ | ⟨z1,z2⟩
    ·left; rw [e4,e5]; exact hkeep _ z1 z2
    ·right; rw [e3,hin]; exact ⟨z1,z2⟩
   ·exact .inl hq
  ·intro b h3 hp;rcases key b h3 hp with hq | hq
   ·rcases (hT.tm b h3).2 hq with ⟨z1,z2⟩ | z
    ·left; rw [e4,e5]; exact hkeep _ z1 z2
    ·right; rw [e3]; exact z
   ·exact .inl hq
theorem Inv.sweepDrop (h : Inv C P) (hm : P.sweep.made = P.ts.length + 1) {e : Int} (he : e<=P.sweep.clock/\(P.sweep.hasTime = true->e<=P.sweep.time)) (he2 : e = P.sweep.clock\/(P.sweep.hasTime = true/\e = P.sweep.time)) : Inv C { P with mem:=P.mem.drop e,sweep:={ P.sweep with made:=P.sweep.made + 1 } }:=by
 obtain ⟨g1,g2,g3,g4⟩:=drop_ok h.wm e;have hnd:=node_ns g1;generalize P.mem.drop e = M1 at *;have hsub : ∀ x s d,Sd M1 x s d->Sd P.mem x s d:=fun x s d hs=>((g4 x s d).1 hs).1
 have hvd : ∀ x s s' d,Sd M1 x s d->s < s'->Vd P.mem P.ts x s'->Vd M1 P.ts x s':=by
  rintro x s s' d hs hlt (⟨d',hv⟩ | hv)
  ·left;have h1:=((g4 x s d).1 hs).2 s' d' hv hlt;exact ⟨d',(g4 x s' d').2 ⟨hv,fun s2 d2 _ hl hle=>by omega⟩⟩
  ·exact .inr hv
 refine ⟨h.kind,g2,?_,?_,?_,?_⟩
 ·obtain ⟨n0,n1,mc,kr,mi,md,mr,mo⟩:=h.n.same hnd (Int.le_refl _);exact ⟨n0,n1,mc,kr,mi,md,mr,mo⟩
 ·obtain ⟨ms,pd,nw,ol,dr⟩:=h.e;refine ⟨?_,?_,?_,?_,?_⟩
  ·intro x s d hs;simp only [Us,De,Lt,Ky,hnd];exact ms x s d (hsub x s d hs)
  ·intro x d hd;simp only [g3] at hd;exact pd x d hd
  ·intro x s d hs;simp only [Ld,hnd];rcases nw x s d (hsub x s d hs) with z | ⟨s',z1,z2⟩
   ·exact .inl z
   ·exact .inr ⟨s',z1,hvd x s s' d hs z1 z2⟩
  ·intro x s d hs hr;simp only [Re,Ra,hnd] at hr ⊢;rcases ol x s d (hsub x s d hs) hr with ⟨s',z1,z2,z3⟩ | z
   ·exact .inl ⟨s',z1,z2,hvd x s s' d hs z1 z3⟩
   ·exact .inr z
  ·intro _ x s d hs hin hf;simp only [Ra,hnd] at hf ⊢;have hin : InSw P.sweep d:=hin;have hf : P.sweep.hasTime = true->(P.mem.node d).retiredAt < P.sweep.time:=hf;obtain ⟨hr,hrc⟩:=h.o.sw d hin;rcases ol x s d (hsub x s d hs) hr with ⟨s',z1,z2,z3⟩ | ⟨_,z2,z3⟩
   ·exfalso;simp only [Ra] at z2 hrc;have hle : s'<=e:=by
     rcases he2 with q | ⟨q1,q2⟩
     ·omega
     ·have:=hf q1; omega
    rcases z3 with ⟨d',z3⟩ | ⟨j,u,hj,y1,y2,y3,y4,y5,y6⟩
    ·exact ((g4 x s d).1 hs).2 s' d' z3 z1 hle
    ·have hT:=h.th j u hj;have hjl:=(List.getElem?_eq_some_iff.1 hj).1;have hs9:=(hT.s9 y1 y3 y4).2.1;rw [y6] at hs9;rcases (hT.tm y1 (by omega)).2 (by omega) with ⟨q1,q2⟩ | q
     ·have:=hf q1; omega
     ·omega
   ·exact ⟨z3 hin,z2⟩
 ·obtain ⟨us,ki,ou,ho,pw,sw,sc,sm,sz⟩:=h.o;refine ⟨?_,?_,?_,?_,pw,?_,sc,?_,?_⟩
  ·simpa only [Us,De,hnd] using us
  ·simpa only [De,hnd] using ki
  ·simpa only [De,hnd] using ou
  ·simpa only [Us,Ho,hnd] using ho
  ·intro x hx; simp only [Re,Ra,hnd]; exact sw x hx
  ·simp only; omega
  ·intro hh; simp only at hh; omega
 ·intro i t ht;have hT:=h.th i t ht;have hil : i < P.ts.length:=(List.getElem?_eq_some_iff.1 ht).1;refine hT.swept ?_ (fun x _=>⟨hnd x,g3 x,fun s d=>hsub x s d⟩) (fun x _=>hnd x) (fun b h3 _=>(hT.tm b h3).2 (by omega));intro x hx hs _ _;refine ⟨⟨hnd x,g3 x,fun s d=>hsub x s d⟩,?_⟩;unfold Safe;simp only [Us,Re,Ra,hnd];exact ⟨hs.1,hs.2.1,fun _=>hs.2.2 (by omega)⟩
end
end
end Go.Proofs.YtfccelbmacjifabGreat
