import Derived.Test.YtfccelbmacjifaaGreatP0
import Derived.Test.YtfccelbmacjifaaGreatP18
set_option linter.unusedSimpArgs false
set_option maxRecDepth 100000
set_option maxHeartbeats 4000000
namespace Go.Proofs.YtfccelbmacjifaaGreat
section
section
variable {C C' : Int->Prop} {M M' : PMem} {c c' : Int} {r : PSweep} {i j : Nat} {t t' : PThread} {ts : List PThread} {P : PSt} {x : Int} {k : PWork}
theorem Inv.killed (h : Inv C P) (ht : P.ts[i]? = some t) (hb : t.busy = true) (hn : t.work.next = 9) : Inv C ((P.setM (P.mem.kills (P.takenOut t.work))).setW i { t.work with next:=10 }):=by
 have hT:=h.th i t ht;have hi:=(List.getElem?_eq_some_iff.1 ht).1;have hk:=hT.n9 hb hn;obtain ⟨_,m1,m2,m3,m4,m5,m6⟩:=h.mine ht hb (by omega) (by omega);obtain ⟨a1,a2,a3,a4⟩:=m6 hk;obtain ⟨c1,c2,c3⟩:=hT.c7 hb (by omega) (by omega);have c10:=hT.c10 hb (by omega) (by omega);have hCa : C t.work.ahead:=by
  have:=(h.n.mc _ m1).2.2.2.1
  rw [c10] at this;exact this.resolve_left a3
 have hd0:=hT.d9 hb hk (by omega) (by omega);have hto : P.mem.kills (P.takenOut t.work) = P.mem.modN t.work.ahead fun x=>{ x with dead:=true }:=by
  unfold PSt.takenOut;rw [if_neg (by rw [h.kind]; decide)]; rfl
 rw [hto,setMW_to P ht];have g2:=node_modN (hasN_used a1) (fun x=>{ x with dead:=true });have hes:=modN_ents P.mem t.work.ahead (fun x=>{ x with dead:=true });have hw : Wm (P.mem.modN t.work.ahead fun x=>{ x with dead:=true }):=h.wm.modN a1 _ a1;generalize hM : (P.mem.modN t.work.ahead fun x=>{ x with dead:=true }) = M1 at *;have e0 : ∀ x,x≠t.work.ahead->M1.node x = P.mem.node x:=fun x hx=>by rw [g2,if_neg hx]
 have ea : M1.node t.work.ahead = { P.mem.node t.work.ahead with dead:=true }:=by rw [g2,if_pos rfl]
 have q : ∀ x,(M1.node x).used = (P.mem.node x).used/\(M1.node x).retired = (P.mem.node x).retired/\(M1.node x).retiredAt = (P.mem.node x).retiredAt/\(M1.node x).key = (P.mem.node x).key/\(M1.node x).leads = (P.mem.node x).leads/\(M1.node x).links = (P.mem.node x).links/\(M1.node x).holder = (P.mem.node x).holder:=by
  intro x;by_cases e : x = t.work.ahead
  ·rw [e,ea]; exact ⟨rfl,rfl,rfl,rfl,rfl,rfl,rfl⟩
  ·rw [e0 x e]; exact ⟨rfl,rfl,rfl,rfl,rfl,rfl,rfl⟩
 have q1:=fun x=>(q x).1
 have q3:=fun x=>(q x).2.1
 have q4:=fun x=>(q x).2.2.1
 have q5:=fun x=>(q x).2.2.2.1
 have q6:=fun x=>(q x).2.2.2.2.1
 have q7:=fun x=>(q x).2.2.2.2.2.1
 have q8:=fun x=>(q x).2.2.2.2.2.2
 have dd : ∀ x,De M1 x ↔ De P.mem x\/x = t.work.ahead:=by
  intro x;by_cases e : x = t.work.ahead
  ·subst e;constructor
   ·intro _; exact .inr rfl
   ·intro _; simp only [De]; rw [ea]
  ·simp only [De]; rw [e0 x e];exact ⟨.inl,fun hh=>hh.resolve_right e⟩
 have hsd:=fun x s d=>sd_es (M:=P.mem) (M':=M1) hes x s d
 have hpd:=fun x=>pd_es (M:=P.mem) (M':=M1) hes x
 have hga : ∀ x,x = 1\/Gd P.mem C x->Us M1 x/\Ky M1 x = Ky P.mem x/\(Gd P.mem C x->Gd M1 C x)/\(Re M1 x->(Re P.mem x/\Ra M1 x = Ra P.mem x)\/P.clock<=Ra M1 x):=by
  intro x hx;refine ⟨by simp only [Us,q1]; exact h.gdUs hx,q5 x,?_,?_⟩
  ·rintro (g | g)
   ·exact .inl g
   ·exact .inr ((dd x).2 (.inl g))
  ·intro hr; left; simp only [Re,Ra,q3,q4] at hr ⊢; exact ⟨hr,trivial⟩
 have hgc : ∀ x,Us M1 x->∀ j : Nat,(Ho M1 x = j ↔ Us P.mem x/\Ho P.mem x = j):=by
  intro x hx j;simp only [Us,Ho,q1,q8] at hx ⊢;exact ⟨fun hh=>⟨hx,hh⟩,fun hh=>hh.2⟩
 refine h.build (t':={ t with work:={ t.work with next:=10 } }) ht ⟨Int.le_refl _,hga,?_,fun x hx j _=>hgc x hx j⟩ hw ?_ ?_ ?_ ?_
 ·intro x hu hh hf;exact ⟨e0 x (by rintro rfl; exact hh a2),hpd x,fun s d=>(hsd x s d).1,Iff.rfl⟩
 ·obtain ⟨n0,n1,mc,kr,mi,md,mr,mo⟩:=h.n;refine ⟨?_,?_,?_,?_,?_,?_,?_,?_⟩
  ·rw [e0 0 (fun e=>a4 e.symm)]; exact n0
  ·simp only [Us,Ky]; rw [e0 1 (fun e=>a3 e.symm)]; exact n1
  ·simpa only [Us,Ld,Lt,Ky,q1,q3,q5,q6,q7] using mc
  ·simpa only [Us,Ky,q1,q5] using kr
  ·simpa only [Ld,q6] using mi
  ·intro x hx;simp only [Us,q1,q7];rcases (dd x).1 hx with g | g
   ·exact md x g
   ·rw [g]; exact ⟨a1,(mc _ hCa).2.1⟩
  ·intro x hx;simp only [Re,Ra,q3,q4] at hx ⊢;obtain ⟨g1,g2,g3⟩:=mr x hx;exact ⟨(dd x).2 (.inl g1),g2,g3⟩
  ·intro y hy hc;have hy' : De P.mem y:=by
    rcases (dd y).1 hy with g | g
    ·exact g
    ·rw [g] at hc; exact absurd hCa hc
   obtain ⟨g1,g2,g3⟩:=mo y hy' hc;simp only [Ld,Ky,Re,Ra,q3,q4,q5,q6];refine ⟨g1,g2,?_⟩;rcases g3 with g | g | ⟨g4,g5⟩
   ·exact .inl g
   ·exact .inr (.inl g)
   ·exact .inr (.inr ⟨(dd _).2 (.inl g4),g5⟩)
 ·obtain ⟨ms,pd,nw,ol,dr⟩:=h.e;have hvd : ∀ x s,Vd P.mem P.ts x s->Vd M1 (P.ts.set i { t with work:={ t.work with next:=10 } }) x s:=fun x s hv=>vd_mono ht hv (fun d=>(hsd x s d).2) (by
   rintro ⟨z1,z2,z3,z4,z5⟩;exact .inl ⟨z1,z2,by show 9<=10; omega,by show 10<=11; omega,z5⟩)
  refine ⟨?_,?_,?_,?_,?_⟩
  ·intro x s d hs;obtain ⟨z1,z2,z3,z4,z5,z6,z7⟩:=ms x s d ((hsd x s d).1 hs);simp only [Us,Lt,Ky,q1,q5];refine ⟨z1,z2,z3,z4,z5,?_,z7⟩;rcases z6 with z | z | z
   ·exact .inl z
   ·exact .inr (.inl z)
   ·exact .inr (.inr ((dd d).2 (.inl z)))
  ·intro x d hd;rw [hpd] at hd;refine (pd x d hd).set ht ?_;rintro (⟨z1,z2,z3,z4,z5⟩ | ⟨_,z2,_⟩)
   ·exact .inl ⟨z1,z2,by show 8<=10; omega,by show 10<=11; omega,z5⟩
   ·omega
  ·intro x s d hs;simp only [Ld,q6];rcases nw x s d ((hsd x s d).1 hs) with z | ⟨s',z1,z2⟩
   ·exact .inl z
   ·exact .inr ⟨s',z1,hvd x s' z2⟩
  ·intro x s d hs hr;simp only [Re,Ra,q3,q4] at hr ⊢;rcases ol x s d ((hsd x s d).1 hs) hr with ⟨s',z1,z2,z3⟩ | z
   ·exact .inl ⟨s',z1,z2,hvd x s' z3⟩
   ·exact .inr z
  ·intro hm x s d hs hin hf;simp only [Ra,q4] at hf ⊢;exact dr (by simpa using hm) x s d ((hsd x s d).1 hs) hin hf
 ·obtain ⟨us,ki,ou,ho,pw,sw,sc,sm,sz⟩:=h.o;have nf : ∀ x,¬ Fresh x { t with work:={ t.work with next:=10 } }:=by
   rintro x ⟨_,z,_⟩;have : t.work.kind = 1:=z;omega
  refine ⟨?_,?_,?_,?_,?_,?_,sc,by simpa using sm,sz⟩
  ·intro x hx;simp only [Us,q1] at hx;rcases us x hx with z | z | z | z
   ·exact .inl z
   ·exact .inr (.inl z)
   ·exact .inr (.inr (.inl ((dd x).2 (.inl z))))
   ·exact .inr (.inr (.inr (z.set ht (by rintro ⟨_,z,_⟩; omega))))
  ·intro x hx hC;rcases (dd x).1 hx with z | z
   ·exact (ki x z hC).set ht (by rintro ⟨_,_,z,_⟩; omega)
   ·exact Ex.new ht ⟨hb,hk,rfl,z.symm⟩
  ·intro x hx hC hr;rw [q3] at hr;rcases (dd x).1 hx with z | z
   ·exact (ou x z hC hr).set ht (by rintro ⟨_,_,z,_⟩; omega)
   ·rw [z] at hC; exact absurd hCa hC
  ·intro x hx;simp only [Us,Ho,q1,q8,List.length_set] at hx ⊢;exact ho x hx
  ·intro p q' u v x hp hq hu hv;rw [List.getElem?_set] at hp hq;by_cases ea : i = p
   ·subst ea; simp [hi] at hp; subst hp; exact absurd hu (nf x)
   ·by_cases eb : i = q'
    ·subst eb; simp [hi] at hq; subst hq; exact absurd hv (nf x)
    ·rw [if_neg ea] at hp; rw [if_neg eb] at hq;exact pw p q' u v x hp hq hu hv
  ·intro x hx;simp only [Re,Ra,q3,q4]; exact sw x hx
 ·refine hT.own (k:={ t.work with next:=10 }) hb (by omega) (by omega) (Int.le_refl _) hga (fun x hx=>hgc x hx i) ⟨rfl,rfl,rfl,rfl,rfl,rfl,rfl⟩ (by show 6<=10; omega) (by show 10<=12; omega) ?_ ?_ ?_ ?_ ?_ ?_ ?_ ?_ ?_ ?_ ?_ ?_
  ·intro hh; have : (10 : Nat)<=7:=hh; omega
  ·intro _ _; simp only [Ky,q5]; rw [e0 _ m4]; exact ⟨c1,c2,c3⟩
  ·intro _ _; simp only [Ld,q6]; exact c10
  ·intro _ _ hh; have : (10 : Nat)<=9:=hh; omega
  ·intro _ _; exact (dd _).2 (.inr rfl)
  ·intro hh; have : (10 : Nat) = 9:=hh; omega
  ·intro _ hh; have : (10 : Nat) = 11\/((10 : Nat) = 12/\_):=hh; omega
  ·intro _ _; exact hT.ts hb (by omega) (by omega)
  ·intro hh; have : t.work.kind = 1:=hh; omega
  ·intro _ _ _;show Pd M1 t.work.stand = [Ld M1 t.work.ahead]/\t.work.made = [];simp only [Ld,q6,hpd];exact hT.p2 hb hk (by omega) (by omega)
  ·intro hh; have : (10 : Nat) = 11:=hh; omega
  ·intro _ _;obtain ⟨s1,s2,s3,s4⟩:=hT.s9 hb (by omega) (by omega);exact ⟨s1,s2,s3,fun s d hs=>s4 s d ((hsd _ s d).1 hs)⟩
end
end
section
section
variable {C C' : Int->Prop} {M M' : PMem} {c c' : Int} {r : PSweep} {i j : Nat} {t t' : PThread} {ts : List PThread} {P : PSt} {x : Int} {k : PWork}
theorem Inv.linkMem (h : Inv C P) (ht : P.ts[i]? = some t) (hb : t.busy = true) (hn : t.work.next = 10) {d : Int} (hd : Pd P.mem t.work.stand = [d]) :
  ∃ M1,(P.setM (P.mem.lead t.work.tsrc t.work.tside)).setW i { t.work with next:=11 } = { P with mem:=M1,ts:=P.ts.set i { t with work:={ t.work with next:=11 } } }/\Wm M1/\M1.es = P.mem.es/\(∀ x,x≠t.work.stand->M1.node x = P.mem.node x)/\M1.node t.work.stand = { P.mem.node t.work.stand with leads:=upd (P.mem.node t.work.stand).leads false d }:=by
 have hT:=h.th i t ht;obtain ⟨_,m1,m2,m3,m4,m5,m6⟩:=h.mine ht hb (by omega) (by omega);obtain ⟨t1,t2⟩:=hT.ts hb (by omega) (by omega);rw [t1,t2,lead_e hd m5,setMW_to P ht];have g2:=node_modN (hasN_used m2) (fun x=>{ x with leads:=upd x.leads false d });exact ⟨_,rfl,h.wm.modN m2 _ m2,modN_ents _ _ _,fun x hx=>by rw [g2,if_neg hx],by rw [g2,if_pos rfl]⟩
theorem Inv.linkR (h : Inv C P) (ht : P.ts[i]? = some t) (hb : t.busy = true) (hn : t.work.next = 10) (hk : t.work.kind = 2) : Inv (fun x=>C x/\x≠t.work.ahead) ((P.setM (P.mem.lead t.work.tsrc t.work.tside)).setW i { t.work with next:=11 }):=by
 have hT:=h.th i t ht;have hi:=(List.getElem?_eq_some_iff.1 ht).1;obtain ⟨_,m1,m2,m3,m4,m5,m6⟩:=h.mine ht hb (by omega) (by omega);obtain ⟨a1,a2,a3,a4⟩:=m6 hk;obtain ⟨c1,c2,c3⟩:=hT.c7 hb (by omega) (by omega);have c10:=hT.c10 hb (by omega) (by omega);have hCa : C t.work.ahead:=by
  have:=(h.n.mc _ m1).2.2.2.1
  rw [c10] at this;exact this.resolve_left a3
 have hda:=hT.d10 hb hk hn;obtain ⟨p1,p2⟩:=hT.p2 hb hk (by omega) (by omega);obtain ⟨s1,s2,s3,s4⟩:=hT.s9 hb (by omega) (by omega);obtain ⟨M1,hM,hw,hes,e0,es⟩:=h.linkMem ht hb hn p1;rw [hM];have q : ∀ x,(M1.node x).used = (P.mem.node x).used/\(M1.node x).dead = (P.mem.node x).dead/\(M1.node x).retired = (P.mem.node x).retired/\(M1.node x).retiredAt = (P.mem.node x).retiredAt/\(M1.node x).key = (P.mem.node x).key/\(M1.node x).links = (P.mem.node x).links/\(M1.node x).holder = (P.mem.node x).holder:=by
  intro x;by_cases e : x = t.work.stand
  ·rw [e,es]; exact ⟨rfl,rfl,rfl,rfl,rfl,rfl,rfl⟩
  ·rw [e0 x e]; exact ⟨rfl,rfl,rfl,rfl,rfl,rfl,rfl⟩
 have q1:=fun x=>(q x).1
 have q2:=fun x=>(q x).2.1
 have q3:=fun x=>(q x).2.2.1
 have q4:=fun x=>(q x).2.2.2.1
 have q5:=fun x=>(q x).2.2.2.2.1
 have q7:=fun x=>(q x).2.2.2.2.2.1
 have q8:=fun x=>(q x).2.2.2.2.2.2
 have l0 : ∀ x,x≠t.work.stand->Ld M1 x = Ld P.mem x:=fun x hx=>by simp only [Ld]; rw [e0 x hx]
 have ls : Ld M1 t.work.stand = Ld P.mem t.work.ahead:=by
  show (M1.node t.work.stand).leads false = _;rw [es];show upd (P.mem.node t.work.stand).leads false (Ld P.mem t.work.ahead) false = _;exact upd_same _ _ _
 have hsd:=fun x s d=>sd_es (M:=P.mem) (M':=M1) hes x s d
 have hpd:=fun x=>pd_es (M:=P.mem) (M':=M1) hes x
 obtain ⟨w1,w2,w3,w4,w5,w6⟩:=h.n.mc _ hCa;have w7 : Ky P.mem t.work.ahead < Ky P.mem (Ld P.mem t.work.ahead):=w6.resolve_left a4;have w8 : Ld P.mem t.work.ahead≠t.work.ahead:=fun e=>by rw [e] at w7; omega
 have hga : ∀ x,x = 1\/Gd P.mem C x->Us M1 x/\Ky M1 x = Ky P.mem x/\(Gd P.mem C x->Gd M1 (fun x=>C x/\x≠t.work.ahead) x)/\(Re M1 x->(Re P.mem x/\Ra M1 x = Ra P.mem x)\/P.clock<=Ra M1 x):=by
  intro x hx;refine ⟨by simp only [Us,q1]; exact h.gdUs hx,q5 x,?_,?_⟩
  ·intro g;unfold Gd;simp only [De,q2];by_cases e : x = t.work.ahead
   ·right; rw [e]; exact hda
   ·exact g.imp (fun g=>⟨g,e⟩) id
  ·intro hr; left; simp only [Re,Ra,q3,q4] at hr ⊢; exact ⟨hr,trivial⟩
 have hgc : ∀ x,Us M1 x->∀ j : Nat,(Ho M1 x = j ↔ Us P.mem x/\Ho P.mem x = j):=by
  intro x hx j;simp only [Us,Ho,q1,q8] at hx ⊢;exact ⟨fun hh=>⟨hx,hh⟩,fun hh=>hh.2⟩
 refine h.build (t':={ t with work:={ t.work with next:=11 } }) ht ⟨Int.le_refl _,hga,?_,fun x hx j _=>hgc x hx j⟩ hw ?_ ?_ ?_ ?_
 ·intro x hu hh hf;refine ⟨e0 x (by rintro rfl; exact hh m3),hpd x,fun s d=>(hsd x s d).1,?_⟩;exact ⟨fun hc=>hc.1,fun hc=>⟨hc,by rintro rfl; exact hh a2⟩⟩
 ·obtain ⟨n0,n1,mc,kr,mi,md,mr,mo⟩:=h.n;refine ⟨?_,?_,?_,?_,?_,?_,?_,?_⟩
  ·rw [q2]; exact ⟨⟨n0.1,fun e=>a4 e.symm⟩,n0.2⟩
  ·simp only [Us,Ky,q1,q2,q3,q5,q7];exact ⟨fun hc=>n1.1 hc.1,n1.2⟩
  ·rintro x ⟨hx,hxa⟩;obtain ⟨z1,z2,z3,z4,z5,z6⟩:=mc x hx;by_cases e : x = t.work.stand
   ·subst e;rw [ls];simp only [Us,Lt,Ky,q1,q3,q5,q7];refine ⟨z1,z2,z3,?_,w5,?_⟩
    ·rcases w4 with w | w
     ·exact .inl w
     ·exact .inr ⟨w,w8⟩
    ·rcases z6 with z | z
     ·exact .inl z
     ·right; rw [c10] at z; simp only [Ky] at *; omega
   ·rw [l0 x e];simp only [Us,Lt,Ky,q1,q3,q5,q7];refine ⟨z1,z2,z3,?_,z5,z6⟩;rcases z4 with z | z
    ·exact .inl z
    ·refine .inr ⟨z,fun hz=>e (mi x _ hx m1 (hz.trans c10.symm))⟩
  ·simpa only [Us,Ky,q1,q5] using kr
  ·rintro x y ⟨hx,hxa⟩ ⟨hy,hya⟩ he;by_cases ex : x = t.work.stand
   ·by_cases ey : y = t.work.stand
    ·rw [ex,ey]
    ·rw [ex,ls,l0 y ey] at he;exact absurd (mi _ _ hy hCa he.symm) hya
   ·by_cases ey : y = t.work.stand
    ·rw [ey,ls,l0 x ex] at he;exact absurd (mi _ _ hx hCa he) hxa
    ·rw [l0 x ex,l0 y ey] at he;exact mi x y hx hy he
  ·simpa only [Us,De,q1,q2,q7] using md
  ·intro x hx;simp only [Re,De,Ra,q2,q3,q4] at hx ⊢;obtain ⟨z1,z2,z3⟩:=mr x hx;exact ⟨z1,fun hc=>z2 hc.1,z3⟩
  ·intro y hy hc;simp only [De,q2] at hy;by_cases ey : y = t.work.ahead
   ·have hys : y≠t.work.stand:=fun e=>m4 (e.symm.trans ey)
    rw [l0 y hys,ey];simp only [Ky,q5];refine ⟨w5,w7,?_⟩;rcases w4 with w | w
    ·exact .inl w
    ·exact .inr (.inl ⟨w,w8⟩)
   ·have hyC : ¬ C y:=fun hh=>hc ⟨hh,ey⟩
    have hys : y≠t.work.stand:=fun e=>hyC (e ▸ m1)
    obtain ⟨z1,z2,z3⟩:=mo y hy hyC;rw [l0 y hys];simp only [Ky,De,Re,Ra,q2,q3,q4,q5];refine ⟨z1,z2,?_⟩;rcases z3 with z | z | ⟨z4,z5,z6⟩
    ·exact .inl z
    ·by_cases el : Ld P.mem y = t.work.ahead
     ·right; right;rw [el];refine ⟨hda,fun hh=>hh.2 rfl,?_,?_,?_⟩
      ·cases hr : (P.mem.node y).retired
       ·exfalso;obtain ⟨j,u,hj,hu⟩:=h.o.ou y hy hyC hr;have huo : Outing u.work.ahead u:=by obtain ⟨x1,x2,x3,x4⟩:=hu; exact ⟨x1,x2,x3,rfl⟩
        obtain ⟨y1,y2,_⟩:=(h.th j u hj).ot huo;obtain ⟨x1,x2,x3,x4⟩:=hu;rw [x4,el,<- c10] at y2;have hst:=mi _ _ y1 m1 y2;have hh:=(h.th j u hj).hStand x1 (by omega) (by omega);rw [hst,m3] at hh;have : i = j:=by have:=hh.2; omega
        subst this;rw [ht] at hj; injection hj with hj; subst hj
        omega
       ·rfl
      ·intro hr; rw [w3] at hr; cases hr
      ·intro hs; exact absurd hs (h.notSw (.inr hCa)).1
     ·exact .inr (.inl ⟨z,el⟩)
    ·exact .inr (.inr ⟨z4,fun hh=>z5 hh.1,z6⟩)
 ·obtain ⟨ms,pd,nw,ol,dr⟩:=h.e;have hvd : ∀ x s,Vd P.mem P.ts x s->Vd M1 (P.ts.set i { t with work:={ t.work with next:=11 } }) x s:=fun x s hv=>vd_mono ht hv (fun d=>(hsd x s d).2) (by
   rintro ⟨z1,z2,z3,z4,z5⟩;exact .inl ⟨z1,z2,by show 9<=11; omega,by show 11<=11; omega,z5⟩)
  refine ⟨?_,?_,?_,?_,?_⟩
  ·intro x s d hs;obtain ⟨z1,z2,z3,z4,z5,z6,z7⟩:=ms x s d ((hsd x s d).1 hs);simp only [Us,De,Lt,Ky,q1,q2,q5];refine ⟨z1,z2,z3,z4,z5,?_,z7⟩;by_cases e : d = t.work.ahead
   ·right; right; rw [e]; exact hda
   ·rcases z6 with z | z | z
    ·exact .inl z
    ·exact .inr (.inl ⟨z,e⟩)
    ·exact .inr (.inr z)
  ·intro x d hd;rw [hpd] at hd;refine (pd x d hd).set ht ?_;rintro (⟨z1,z2,z3,z4,z5⟩ | ⟨_,z2,_⟩)
   ·exact .inl ⟨z1,z2,by show 8<=11; omega,by show 11<=11; omega,z5⟩
   ·omega
  ·intro x s d hs;have hs:=(hsd x s d).1 hs;by_cases e : x = t.work.stand
   ·right;subst e;exact ⟨t.work.ans.stamp,s4 s d hs,.inr (Ex.new ht ⟨hb,.inr hk,by show 9<=11; omega,by show 11<=11; omega,rfl,rfl⟩)⟩
   ·rw [l0 x e];rcases nw x s d hs with z | ⟨s',z1,z2⟩
    ·exact .inl z
    ·exact .inr ⟨s',z1,hvd x s' z2⟩
  ·intro x s d hs hr;simp only [Re,Ra,q3,q4] at hr ⊢;rcases ol x s d ((hsd x s d).1 hs) hr with ⟨s',z1,z2,z3⟩ | z
   ·exact .inl ⟨s',z1,z2,hvd x s' z3⟩
   ·exact .inr z
  ·intro hm x s d hs hin hf;simp only [Ra,q4] at hf ⊢;exact dr (by simpa using hm) x s d ((hsd x s d).1 hs) hin hf
 ·obtain ⟨us,ki,ou,ho,pw,sw,sc,sm,sz⟩:=h.o;have nf : ∀ x,¬ Fresh x { t with work:={ t.work with next:=11 } }:=by
   rintro x ⟨_,z,_⟩;have : t.work.kind = 1:=z;omega
  refine ⟨?_,?_,?_,?_,?_,?_,sc,by simpa using sm,sz⟩
  ·intro x hx;simp only [Us,De,q1,q2] at hx ⊢;by_cases e : x = t.work.ahead
   ·right; right; left; rw [e]; exact hda
   ·rcases us x hx with z | z | z | z
    ·exact .inl z
    ·exact .inr (.inl ⟨z,e⟩)
    ·exact .inr (.inr (.inl z))
    ·exact .inr (.inr (.inr (z.set ht (by rintro ⟨_,z,_⟩; omega))))
  ·rintro x hx ⟨hC,hne⟩;simp only [De,q2] at hx;exact (ki x hx hC).set ht (by rintro ⟨_,_,_,z⟩; exact absurd z.symm hne)
  ·intro x hx hC hr;simp only [De,q2] at hx;rw [q3] at hr;by_cases e : x = t.work.ahead
   ·exact Ex.new ht ⟨hb,hk,.inl rfl,e.symm⟩
   ·exact (ou x hx (fun hc=>hC ⟨hc,e⟩) hr).set ht (by rintro ⟨_,_,z,_⟩; omega)
  ·intro x hx;simp only [Us,Ho,q1,q8,List.length_set] at hx ⊢;exact ho x hx
  ·intro p q' u v x hp hq hu hv;rw [List.getElem?_set] at hp hq;by_cases ea : i = p
   ·subst ea; simp [hi] at hp; subst hp; exact absurd hu (nf x)
   ·by_cases eb : i = q'
    ·subst eb; simp [hi] at hq; subst hq; exact absurd hv (nf x)
    ·rw [if_neg ea] at hp; rw [if_neg eb] at hq;exact pw p q' u v x hp hq hu hv
  ·intro x hx;simp only [Re,Ra,q3,q4]; exact sw x hx
 ·refine hT.own (k:={ t.work with next:=11 }) hb (by omega) (by omega) (Int.le_refl _) hga (fun x hx=>hgc x hx i) ⟨rfl,rfl,rfl,rfl,rfl,rfl,rfl⟩ (by show 6<=11; omega) (by show 11<=12; omega) ?_ ?_ ?_ ?_ ?_ ?_ ?_ ?_ ?_ ?_ ?_ ?_
  ·intro hh; have : (11 : Nat)<=7:=hh; omega
  ·intro _ _; simp only [Ky,q2,q5]; exact ⟨⟨c1,m4⟩,c2,c3⟩
  ·intro _ hh; have : (11 : Nat)<=10:=hh; omega
  ·intro _ _ hh; have : (11 : Nat)<=9:=hh; omega
  ·intro _ hh; have : (11 : Nat) = 10:=hh; omega
  ·intro hh; have : (11 : Nat) = 9:=hh; omega
  ·intro _ _;show (C t.work.stand/\t.work.stand≠t.work.ahead)/\Ld M1 t.work.stand = Ld M1 t.work.ahead/\_;rw [ls,l0 _ (fun e=>m4 e.symm)];simp only [De,Ky,q2,q3,q5];exact ⟨⟨c1,m4⟩,trivial,hda,fun hh=>hh.2 rfl,w3,c3.2 hk⟩
  ·intro _ _; exact hT.ts hb (by omega) (by omega)
  ·intro hh; have : t.work.kind = 1:=hh; omega
  ·intro _ _ hh; have : (11 : Nat)<=10:=hh; omega
  ·intro _;show Pd M1 t.work.stand = [Ld M1 t.work.stand];rw [ls,hpd]; exact p1
  ·intro _ _;exact ⟨s1,s2,s3,fun s d hs=>s4 s d ((hsd _ s d).1 hs)⟩
end
end
section
section
variable {C C' : Int->Prop} {M M' : PMem} {c c' : Int} {r : PSweep} {i j : Nat} {t t' : PThread} {ts : List PThread} {P : PSt} {x : Int} {k : PWork}
theorem Inv.linkI (h : Inv C P) (ht : P.ts[i]? = some t) (hb : t.busy = true) (hn : t.work.next = 10) (hk : t.work.kind = 1) : Inv (fun x=>C x\/x ∈ t.work.made) ((P.setM (P.mem.lead t.work.tsrc t.work.tside)).setW i { t.work with next:=11 }):=by
 have hT:=h.th i t ht;have hi:=(List.getElem?_eq_some_iff.1 ht).1;obtain ⟨_,m1,m2,m3,m4,m5,_⟩:=h.mine ht hb (by omega) (by omega);obtain ⟨c1,c2,c3⟩:=hT.c7 hb (by omega) (by omega);have c10:=hT.c10 hb (by omega) (by omega);obtain ⟨n,f1,f2,f3,f4,f5,f6,f7,f8,f9,f10,_⟩:=hT.f8 hb hk (.inr hn);obtain ⟨s1,s2,s3,s4⟩:=hT.s9 hb (by omega) (by omega);obtain ⟨M1,hM,hw,hes,e0,es⟩:=h.linkMem ht hb hn f10;have hmn : ∀ x,x ∈ t.work.made ↔ x = n:=fun x=>by rw [f1]; simp
 rw [hM];have q : ∀ x,(M1.node x).used = (P.mem.node x).used/\(M1.node x).dead = (P.mem.node x).dead/\(M1.node x).retired = (P.mem.node x).retired/\(M1.node x).retiredAt = (P.mem.node x).retiredAt/\(M1.node x).key = (P.mem.node x).key/\(M1.node x).links = (P.mem.node x).links/\(M1.node x).holder = (P.mem.node x).holder:=by
  intro x;by_cases e : x = t.work.stand
  ·rw [e,es]; exact ⟨rfl,rfl,rfl,rfl,rfl,rfl,rfl⟩
  ·rw [e0 x e]; exact ⟨rfl,rfl,rfl,rfl,rfl,rfl,rfl⟩
 have q1:=fun x=>(q x).1
 have q2:=fun x=>(q x).2.1
 have q3:=fun x=>(q x).2.2.1
 have q4:=fun x=>(q x).2.2.2.1
 have q5:=fun x=>(q x).2.2.2.2.1
 have q7:=fun x=>(q x).2.2.2.2.2.1
 have q8:=fun x=>(q x).2.2.2.2.2.2
 have hstn : t.work.stand≠n:=fun e=>f5 (e ▸ m1)
 have l0 : ∀ x,x≠t.work.stand->Ld M1 x = Ld P.mem x:=fun x hx=>by simp only [Ld]; rw [e0 x hx]
 have ls : Ld M1 t.work.stand = n:=by
  show (M1.node t.work.stand).leads false = _;rw [es];show upd (P.mem.node t.work.stand).leads false n false = _;exact upd_same _ _ _
 have hsd:=fun x s d=>sd_es (M:=P.mem) (M':=M1) hes x s d
 have hpd:=fun x=>pd_es (M:=P.mem) (M':=M1) hes x
 have hrn : (P.mem.node n).retired = false:=by
  cases hr : (P.mem.node n).retired
  ·rfl
  ·have:=(h.n.mr n hr).1
   simp only [De] at this; rw [f6] at this; cases this
 have hac : t.work.ahead = 1\/C t.work.ahead:=by rw [<- c10]; exact (h.n.mc _ m1).2.2.2.1
 have han : t.work.ahead≠n:=by
  intro e;rcases hac with g | g
  ·exact f3 (e.symm.trans g)
  ·exact f5 (e ▸ g)
 have hlt : Ky P.mem n < Ky P.mem t.work.ahead:=by
  rw [f7];have h1:=(hT.cs hb (by omega) (by omega)).2.2.2;have h2 : Ky P.mem t.work.ahead≠t.work.key:=fun e=>by have:=c3.1 e; omega
  omega
 have hga : ∀ x,x = 1\/Gd P.mem C x->Us M1 x/\Ky M1 x = Ky P.mem x/\(Gd P.mem C x->Gd M1 (fun x=>C x\/x ∈ t.work.made) x)/\(Re M1 x->(Re P.mem x/\Ra M1 x = Ra P.mem x)\/P.clock<=Ra M1 x):=by
  intro x hx;refine ⟨by simp only [Us,q1]; exact h.gdUs hx,q5 x,?_,?_⟩
  ·intro g;unfold Gd;simp only [De,q2];exact g.imp .inl id
  ·intro hr; left; simp only [Re,Ra,q3,q4] at hr ⊢; exact ⟨hr,trivial⟩
 have hgc : ∀ x,Us M1 x->∀ j : Nat,(Ho M1 x = j ↔ Us P.mem x/\Ho P.mem x = j):=by
  intro x hx j;simp only [Us,Ho,q1,q8] at hx ⊢;exact ⟨fun hh=>⟨hx,hh⟩,fun hh=>hh.2⟩
 refine h.build (t':={ t with work:={ t.work with next:=11 } }) ht ⟨Int.le_refl _,hga,?_,fun x hx j _=>hgc x hx j⟩ hw ?_ ?_ ?_ ?_
 ·intro x hu hh hf;refine ⟨e0 x (by rintro rfl; exact hh m3),hpd x,fun s d=>(hsd x s d).1,?_⟩;exact ⟨fun hc=>hc.resolve_right (fun hm=>hf ⟨hb,hk,.inr hn,hm⟩),.inl⟩
 ·obtain ⟨n0,n1,mc,kr,mi,md,mr,mo⟩:=h.n;refine ⟨?_,?_,?_,?_,?_,?_,?_,?_⟩
  ·rw [q2]; exact ⟨.inl n0.1,n0.2⟩
  ·simp only [Us,Ky,q1,q2,q3,q5,q7];exact ⟨fun hc=>hc.elim n1.1 (fun hm=>f3 ((hmn 1).1 hm).symm),n1.2⟩
  ·rintro x hx;by_cases e : x = t.work.stand
   ·subst e;obtain ⟨z1,z2,z3,z4,z5,z6⟩:=mc _ m1;rw [ls];simp only [Us,Lt,Ky,q1,q3,q5,q7];refine ⟨z1,z2,z3,.inr (.inr ((hmn n).2 rfl)),f2,?_⟩;rcases (hT.xs hb (by omega) (by omega) (by omega)).2.2 with z | z
    ·exact .inl z
    ·right; simp only [Ky] at *; omega
   ·rw [l0 x e];simp only [Us,Lt,Ky,q1,q3,q5,q7];rcases hx with hx | hx
    ·obtain ⟨z1,z2,z3,z4,z5,z6⟩:=mc x hx;exact ⟨z1,z2,z3,z4.imp id .inl,z5,z6⟩
    ·rw [(hmn x).1 hx,f9];exact ⟨f4,f8,hrn,hac.imp id .inl,(hT.cs hb (by omega) (by omega)).2.2.1,.inr hlt⟩
  ·simpa only [Us,Ky,q1,q5] using kr
  ·-- one leads to each
   have key : ∀ x y,C x->(y = n)->Ld M1 x = Ld M1 y->False:=by
    intro x y hx hy he;rw [hy,l0 n (fun e=>hstn e.symm),f9] at he;by_cases ex : x = t.work.stand
    ·rw [ex,ls] at he; exact han he.symm
    ·rw [l0 x ex,<- c10] at he;exact ex (mi x _ hx m1 he)
   intro x y hx hy he;rcases hx with hx | hx
   ·rcases hy with hy | hy
    ·by_cases ex : x = t.work.stand
     ·by_cases ey : y = t.work.stand
      ·rw [ex,ey]
      ·exfalso;rw [ex,ls,l0 y ey] at he;rcases (mc y hy).2.2.2.1 with g | g
       ·exact f3 (he.trans g)
       ·rw [<- he] at g; exact f5 g
     ·by_cases ey : y = t.work.stand
      ·exfalso;rw [ey,ls,l0 x ex] at he;rcases (mc x hx).2.2.2.1 with g | g
       ·exact f3 (he.symm.trans g)
       ·rw [he] at g; exact f5 g
      ·rw [l0 x ex,l0 y ey] at he;exact mi x y hx hy he
    ·exact (key x y hx ((hmn y).1 hy) he).elim
   ·rcases hy with hy | hy
    ·exact (key y x hy ((hmn x).1 hx) he.symm).elim
    ·rw [(hmn x).1 hx,(hmn y).1 hy]
  ·simpa only [Us,De,q1,q2,q7] using md
  ·intro x hx;simp only [Re,De,Ra,q2,q3,q4] at hx ⊢;obtain ⟨z1,z2,z3⟩:=mr x hx;refine ⟨z1,fun hc=>hc.elim z2 (fun hm=>?_),z3⟩;rw [(hmn x).1 hm] at z1;simp only [De] at z1; rw [f6] at z1; cases z1
  ·intro y hy hc;simp only [De,q2] at hy;have hyC : ¬ C y:=fun hh=>hc (.inl hh)
   have hys : y≠t.work.stand:=fun e=>hyC (e ▸ m1)
   obtain ⟨z1,z2,z3⟩:=mo y hy hyC;rw [l0 y hys];simp only [Ky,De,Re,Ra,q2,q3,q4,q5];refine ⟨z1,z2,?_⟩;rcases z3 with z | z | ⟨z4,z5,z6⟩
   ·exact .inl z
   ·exact .inr (.inl (.inl z))
   ·refine .inr (.inr ⟨z4,?_,z6⟩);rintro (hh | hh)
    ·exact z5 hh
    ·rw [(hmn _).1 hh] at z4;simp only [De] at z4; rw [f6] at z4; cases z4
 ·obtain ⟨ms,pd,nw,ol,dr⟩:=h.e;have hvd : ∀ x s,Vd P.mem P.ts x s->Vd M1 (P.ts.set i { t with work:={ t.work with next:=11 } }) x s:=fun x s hv=>vd_mono ht hv (fun d=>(hsd x s d).2) (by
   rintro ⟨z1,z2,z3,z4,z5⟩;exact .inl ⟨z1,z2,by show 9<=11; omega,by show 11<=11; omega,z5⟩)
  refine ⟨?_,?_,?_,?_,?_⟩
  ·intro x s d hs;obtain ⟨z1,z2,z3,z4,z5,z6,z7⟩:=ms x s d ((hsd x s d).1 hs);simp only [Us,De,Lt,Ky,q1,q2,q5];refine ⟨z1,z2,z3,z4,z5,?_,z7⟩;rcases z6 with z | z | z
   ·exact .inl z
   ·exact .inr (.inl (.inl z))
   ·exact .inr (.inr z)
  ·intro x d hd;rw [hpd] at hd;refine (pd x d hd).set ht ?_;rintro (⟨z1,z2,z3,z4,z5⟩ | ⟨_,_,z2,_⟩)
   ·exact .inl ⟨z1,z2,by show 8<=11; omega,by show 11<=11; omega,z5⟩
   ·omega
  ·intro x s d hs;have hs:=(hsd x s d).1 hs;by_cases e : x = t.work.stand
   ·right;subst e;exact ⟨t.work.ans.stamp,s4 s d hs,.inr (Ex.new ht ⟨hb,.inl hk,by show 9<=11; omega,by show 11<=11; omega,rfl,rfl⟩)⟩
   ·rw [l0 x e];rcases nw x s d hs with z | ⟨s',z1,z2⟩
    ·exact .inl z
    ·exact .inr ⟨s',z1,hvd x s' z2⟩
  ·intro x s d hs hr;simp only [Re,Ra,q3,q4] at hr ⊢;rcases ol x s d ((hsd x s d).1 hs) hr with ⟨s',z1,z2,z3⟩ | z
   ·exact .inl ⟨s',z1,z2,hvd x s' z3⟩
   ·exact .inr z
  ·intro hm x s d hs hin hf;simp only [Ra,q4] at hf ⊢;exact dr (by simpa using hm) x s d ((hsd x s d).1 hs) hin hf
 ·obtain ⟨us,ki,ou,ho,pw,sw,sc,sm,sz⟩:=h.o;have nf : ∀ x,¬ Fresh x { t with work:={ t.work with next:=11 } }:=by
   rintro x ⟨_,_,z,_⟩;have : (11 : Nat) = 8\/(11 : Nat) = 10:=z;omega
  refine ⟨?_,?_,?_,?_,?_,?_,sc,by simpa using sm,sz⟩
  ·intro x hx;simp only [Us,De,q1,q2] at hx ⊢;rcases us x hx with z | z | z | z
   ·exact .inl z
   ·exact .inr (.inl (.inl z))
   ·exact .inr (.inr (.inl z))
   ·rcases z.or ht with z1 | ⟨j,u,hj,z1,z2⟩
    ·exact .inr (.inl (.inr z1.2.2.2))
    ·exact .inr (.inr (.inr (Ex.other z1 z2 hj)))
  ·rintro x hx hC;simp only [De,q2] at hx;have hC' : C x:=hC.resolve_right (fun hm=>by rw [(hmn x).1 hm,f6] at hx; cases hx);exact (ki x hx hC').set ht (by rintro ⟨_,z,_⟩; omega)
  ·intro x hx hC hr;simp only [De,q2] at hx;rw [q3] at hr;exact (ou x hx (fun hc=>hC (.inl hc)) hr).set ht (by rintro ⟨_,z,_⟩; omega)
  ·intro x hx;simp only [Us,Ho,q1,q8,List.length_set] at hx ⊢;exact ho x hx
  ·intro p q' u v x hp hq hu hv;rw [List.getElem?_set] at hp hq;by_cases ea : i = p
   ·subst ea; simp [hi] at hp; subst hp; exact absurd hu (nf x)
   ·by_cases eb : i = q'
    ·subst eb; simp [hi] at hq; subst hq; exact absurd hv (nf x)
    ·rw [if_neg ea] at hp; rw [if_neg eb] at hq;exact pw p q' u v x hp hq hu hv
  ·intro x hx;simp only [Re,Ra,q3,q4]; exact sw x hx
 ·refine hT.own (k:={ t.work with next:=11 }) hb (by omega) (by omega) (Int.le_refl _) hga (fun x hx=>hgc x hx i) ⟨rfl,rfl,rfl,rfl,rfl,rfl,rfl⟩ (by show 6<=11; omega) (by show 11<=12; omega) ?_ ?_ ?_ ?_ ?_ ?_ ?_ ?_ ?_ ?_ ?_ ?_
  ·intro hh; have : (11 : Nat)<=7:=hh; omega
  ·intro _ _; simp only [Ky,q2,q5]; exact ⟨.inl c1,c2,c3⟩
  ·intro _ hh; have : (11 : Nat)<=10:=hh; omega
  ·intro _ _ hh; have : (11 : Nat)<=9:=hh; omega
  ·intro _ hh; have : (11 : Nat) = 10:=hh; omega
  ·intro hh; have : (11 : Nat) = 9:=hh; omega
  ·intro k2; have : t.work.kind = 2:=k2; omega
  ·intro _ _; exact hT.ts hb (by omega) (by omega)
  ·intro _ hh; have : (11 : Nat) = 8\/(11 : Nat) = 10:=hh; omega
  ·intro k2; have : t.work.kind = 2:=k2; omega
  ·intro _;show Pd M1 t.work.stand = [Ld M1 t.work.stand];rw [ls,hpd]; exact f10
  ·intro _ _;exact ⟨s1,s2,s3,fun s d hs=>s4 s d ((hsd _ s d).1 hs)⟩
theorem Inv.retired (h : Inv C P) (ht : P.ts[i]? = some t) (hb : t.busy = true) (hn : t.work.next = 12) (hk : t.work.kind = 2) (hdid : t.work.ans.did = true) : Inv C ((P.setM ((P.mem.unlock i).retires P.clock (P.takenOut t.work))).setW i { t.work with locks:=0,next:=13 }):=by
 have hT:=h.th i t ht;have hi:=(List.getElem?_eq_some_iff.1 ht).1;obtain ⟨o1,o2,o3,o4,o5,o6⟩:=hT.ot ⟨hb,hk,.inr ⟨hn,hdid⟩,rfl⟩;obtain ⟨a1,a2⟩:=hT.hAhead hb (by omega) (by omega) hk o6;have hst:=hT.hStand hb (by omega) (by omega);have ha1 : t.work.ahead≠1:=by intro e; rw [e] at o3; simp only [De] at o3; rw [h.n.a1.2.2.2.1] at o3; cases o3
 have ha0 : t.work.ahead≠0:=by intro e; rw [e] at o4; exact o4 h.n.a0.1
 have huh:=unlock_hold P.mem i;have hto:=huh.to;have hua : Us (P.mem.unlock i) t.work.ahead:=by simp only [Us]; rw [(hto _).1]; exact a1
 have hre : (P.mem.unlock i).retires P.clock (P.takenOut t.work) = (P.mem.unlock i).modN t.work.ahead fun x=>{ x with retired:=true,retiredAt:=P.clock }:=by
  unfold PSt.takenOut;rw [if_neg (by rw [h.kind]; decide)]; rfl
 rw [hre,setMW_to P ht];have g2:=node_modN (hasN_used hua) (fun x=>{ x with retired:=true,retiredAt:=P.clock });have hes : ((P.mem.unlock i).modN t.work.ahead fun x=>{ x with retired:=true,retiredAt:=P.clock }).es = P.mem.es:=modN_ents _ _ _;have hw : Wm ((P.mem.unlock i).modN t.work.ahead fun x=>{ x with retired:=true,retiredAt:=P.clock }):=(h.wm.unlock i).modN hua _ hua;generalize hM : ((P.mem.unlock i).modN t.work.ahead fun x=>{ x with retired:=true,retiredAt:=P.clock }) = M1 at *;have q : ∀ x,(M1.node x).used = (P.mem.node x).used/\(M1.node x).dead = (P.mem.node x).dead/\(M1.node x).key = (P.mem.node x).key/\(M1.node x).leads = (P.mem.node x).leads/\(M1.node x).links = (P.mem.node x).links:=by
  intro x;rw [g2];obtain ⟨z1,z2,z3,z4,z5,z6,z7⟩:=hto x;by_cases e : x = t.work.ahead
  ·subst e; rw [if_pos rfl]; exact ⟨z1,z2,z5,z6,z7⟩
  ·rw [if_neg e]; exact ⟨z1,z2,z5,z6,z7⟩
 have q1:=fun x=>(q x).1
 have q2:=fun x=>(q x).2.1
 have q5:=fun x=>(q x).2.2.1
 have q6:=fun x=>(q x).2.2.2.1
 have q7:=fun x=>(q x).2.2.2.2
 have r0 : ∀ x,x≠t.work.ahead->(M1.node x).retired = (P.mem.node x).retired/\(M1.node x).retiredAt = (P.mem.node x).retiredAt:=by
  intro x hx; rw [g2,if_neg hx]; exact ⟨(hto x).2.2.1,(hto x).2.2.2.1⟩
 have ra : Re M1 t.work.ahead/\Ra M1 t.work.ahead = P.clock:=by simp only [Re,Ra]; rw [g2,if_pos rfl]; exact ⟨rfl,rfl⟩
 have rne : ∀ x,Re P.mem x->x≠t.work.ahead:=by rintro x hx rfl; simp only [Re] at hx; rw [o5] at hx; cases hx
 have re : ∀ x,Re P.mem x->Re M1 x/\Ra M1 x = Ra P.mem x:=by
  intro x hx;obtain ⟨z1,z2⟩:=r0 x (rne x hx);simp only [Re,Ra] at hx ⊢; rw [z1,z2]; exact ⟨hx,rfl⟩
 have rb : ∀ x,Re M1 x->x = t.work.ahead\/(Re P.mem x/\Ra M1 x = Ra P.mem x):=by
  intro x hx;by_cases e : x = t.work.ahead
  ·exact .inl e
  ·obtain ⟨z1,z2⟩:=r0 x e;simp only [Re,Ra] at hx ⊢; rw [z1] at hx; exact .inr ⟨hx,z2⟩
 have hho : ∀ x,Us P.mem x->Ho M1 x = if Ho P.mem x = i then -1 else Ho P.mem x:=by
  intro x hx;rw [<- unlock_ho _ _ _ hx];simp only [Ho]; rw [g2];by_cases e : x = t.work.ahead
  ·subst e; rw [if_pos rfl]
  ·rw [if_neg e]
 have hsd:=fun x s d=>sd_es (M:=P.mem) (M':=M1) hes x s d
 have hpd:=fun x=>pd_es (M:=P.mem) (M':=M1) hes x
 have hns : ¬ InSw P.sweep t.work.ahead:=fun hh=>by have:=(h.o.sw _ hh).1; simp only [Re] at this; rw [o5] at this; cases this
 have hga : ∀ x,x = 1\/Gd P.mem C x->Us M1 x/\Ky M1 x = Ky P.mem x/\(Gd P.mem C x->Gd M1 C x)/\(Re M1 x->(Re P.mem x/\Ra M1 x = Ra P.mem x)\/P.clock<=Ra M1 x):=by
  intro x hx;refine ⟨by simp only [Us,q1]; exact h.gdUs hx,q5 x,?_,?_⟩
  ·intro g; unfold Gd; simp only [De,q2]; exact g
  ·intro hr;rcases rb x hr with z | z
   ·right; rw [z,ra.2]; exact Int.le_refl _
   ·exact .inl z
 have hno : ∀ {p : Prop},(13 : Nat)<=12->p:=fun hh=>absurd hh (by omega)
 have hlda : Ld P.mem t.work.ahead = 1\/C (Ld P.mem t.work.ahead):=by rw [<- o2]; exact (h.n.mc _ o1).2.2.2.1
 refine h.build (t':={ t with work:={ t.work with locks:=0,next:=13 } }) ht ⟨Int.le_refl _,hga,?_,?_⟩ hw ?_ ?_ ?_ ?_
 ·intro x hu hh hf;have hne : x≠t.work.ahead:=by rintro rfl; exact hh a2
  refine ⟨?_,hpd x,fun s d=>(hsd x s d).1,Iff.rfl⟩;rw [g2,if_neg hne,unlock_node];unfold Go.Proofs.YtfccelbmacjifaaGreat.unlocked;rw [if_neg (by simp; intro _; exact hh)]
 ·intro x hx j hj;have hx' : Us P.mem x:=by simp only [Us,q1] at hx; exact hx
  rw [hho x hx'];constructor
  ·intro hh;split at hh
   ·omega
   ·exact ⟨hx',hh⟩
  ·rintro ⟨_,hh⟩;rw [if_neg (by omega)]; exact hh
 ·obtain ⟨n0,n1,mc,kr,mi,md,mr,mo⟩:=h.n;refine ⟨?_,?_,?_,?_,?_,?_,?_,?_⟩
  ·rw [q2]; exact n0
  ·simp only [Us,Ky,q1,q2,q5,q7];rw [(r0 1 (fun e=>ha1 e.symm)).1]; exact n1
  ·intro x hx;simp only [Us,Ld,Lt,Ky,q1,q5,q6,q7];rw [(r0 x (by rintro rfl; exact o4 hx)).1];exact mc x hx
  ·simpa only [Us,Ky,q1,q5] using kr
  ·simpa only [Ld,q6] using mi
  ·simpa only [Us,De,q1,q2,q7] using md
  ·intro x hx;simp only [De,q2];rcases rb x hx with z | ⟨z1,z2⟩
   ·rw [z]; exact ⟨o3,o4,by rw [ra.2]; exact Int.le_refl _⟩
   ·rw [z2]; exact mr x z1
  ·intro y hy hc;simp only [De,q2] at hy;obtain ⟨z1,z2,z3⟩:=mo y hy hc;simp only [Ld,Ky,De,q2,q5,q6];refine ⟨z1,z2,?_⟩;rcases z3 with z | z | ⟨g1,g2,g3,g4,g5⟩
   ·exact .inl z
   ·exact .inr (.inl z)
   ·refine .inr (.inr ⟨g1,g2,(re y g3).1,?_,g5⟩);intro hr;rw [(re y g3).2];rcases rb _ hr with z | ⟨z1,z2⟩
    ·have z' : Ld P.mem y = t.work.ahead:=z;have : Ra M1 (Ld P.mem y) = P.clock:=by rw [z']; exact ra.2
     have h2:=(mr y g3).2.2;simp only [Ld] at *;omega
    ·have h2:=g4 z1;simp only [Ld] at *;omega
 ·obtain ⟨ms,pd,nw,ol,dr⟩:=h.e;have hvd : ∀ x s,Vd P.mem P.ts x s->Vd M1 (P.ts.set i { t with work:={ t.work with locks:=0,next:=13 } }) x s:=fun x s hv=>vd_mono ht hv (fun d=>(hsd x s d).2) (by rintro ⟨_,_,_,z,_⟩; omega)
  refine ⟨?_,?_,?_,?_,?_⟩
  ·intro x s d hs;simp only [Us,De,Lt,Ky,q1,q2,q5];exact ms x s d ((hsd x s d).1 hs)
  ·intro x d hd;rw [hpd] at hd;refine (pd x d hd).set ht ?_;rintro (⟨_,_,_,z,_⟩ | ⟨_,z,_⟩) <;> omega
  ·intro x s d hs;simp only [Ld,q6];rcases nw x s d ((hsd x s d).1 hs) with z | ⟨s',z1,z2⟩
   ·exact .inl z
   ·exact .inr ⟨s',z1,hvd x s' z2⟩
  ·intro x s d hs hr;have hs:=(hsd x s d).1 hs;rcases rb d hr with z | ⟨z1,z2⟩
   ·subst z;rw [ra.2];rcases nw x s _ hs with z | ⟨s',z1,z2⟩
    ·-- a link that leads there now
     right;have hxu:=(ms x s _ hs).1;have hx1:=(ms x s _ hs).2.1;rcases h.o.us x hxu with y | y | y | ⟨j,u,hj,y1,y2,y3,y4⟩
     ·exact absurd y hx1
     ·exfalso;rcases (h.n.mc x y).2.2.2.1 with g | g
      ·exact ha1 (z.trans g)
      ·rw [<- z] at g; exact o4 g
     ·by_cases hc : C x
      ·exfalso;rcases (h.n.mc x hc).2.2.2.1 with g | g
       ·exact ha1 (z.trans g)
       ·rw [<- z] at g; exact o4 g
      ·obtain ⟨_,_,g⟩:=h.n.mo x y hc;rw [<- z] at g;rcases g with g | g | ⟨_,_,g3,_,_⟩
       ·exact absurd g ha1
       ·exact absurd g o4
       ·exact ⟨(re x g3).1,by rw [(re x g3).2]; exact (h.n.mr x g3).2.2,fun hh=>absurd hh hns⟩
     ·exfalso;obtain ⟨m,f1,_,_,_,_,_,_,_,f9,_⟩:=(h.th j u hj).f8 y1 y2 y3;rw [mem_one f1 y4,f9] at z;have hc7:=(h.th j u hj).c7 y1 (by omega) (by omega);have hc10:=(h.th j u hj).c10 y1 (by omega) (by omega);rcases (h.n.mc _ hc7.1).2.2.2.1 with g | g
      ·rw [hc10,<- z] at g; exact ha1 g
      ·rw [hc10,<- z] at g; exact o4 g
    ·left;refine ⟨s',z1,?_,hvd x s' z2⟩;rcases z2 with ⟨d',z2⟩ | ⟨j,u,hj,y1,y2,y3,y4,_,y6⟩
     ·exact (ms x s' d' z2).2.2.2.1
     ·rw [<- y6]; exact ((h.th j u hj).s9 y1 y3 y4).2.2.1.2
   ·rw [z2];rcases ol x s d hs z1 with ⟨s',y1,y2,y3⟩ | ⟨y1,y2,y3⟩
    ·exact .inl ⟨s',y1,y2,hvd x s' y3⟩
    ·exact .inr ⟨(re x y1).1,by rw [(re x y1).2]; exact y2,y3⟩
  ·intro hm x s d hs hin hf;have hd:=(h.o.sw d hin).1;rw [(re d hd).2] at hf ⊢;obtain ⟨z1,z2⟩:=dr (by simpa using hm) x s d ((hsd x s d).1 hs) hin hf;exact ⟨z1,by rw [(re x (h.o.sw x z1).1).2]; exact z2⟩
 ·obtain ⟨us,ki,ou,ho,pw,sw,sc,sm,sz⟩:=h.o;have nf : ∀ x,¬ Fresh x { t with work:={ t.work with locks:=0,next:=13 } }:=by
   rintro x ⟨_,_,z,_⟩;have : (13 : Nat) = 8\/(13 : Nat) = 10:=z;omega
  refine ⟨?_,?_,?_,?_,?_,?_,sc,by simpa using sm,sz⟩
  ·intro x hx;simp only [Us,De,q1,q2] at hx ⊢;rcases us x hx with z | z | z | z
   ·exact .inl z
   ·exact .inr (.inl z)
   ·exact .inr (.inr (.inl z))
   ·exact .inr (.inr (.inr (z.set ht (by rintro ⟨_,z,_⟩; omega))))
  ·rintro x hx hC;simp only [De,q2] at hx;exact (ki x hx hC).set ht (by rintro ⟨_,_,z,_⟩; omega)
  ·intro x hx hC hr;simp only [De,q2] at hx;have e : x≠t.work.ahead:=by rintro rfl; have:=ra.1; simp only [Re] at this; rw [hr] at this; cases this
   rw [(r0 x e).1] at hr;exact (ou x hx hC hr).set ht (by rintro ⟨_,_,_,z⟩; exact absurd z.symm e)
  ·intro x hx;simp only [Us,q1] at hx;rw [hho x hx,List.length_set];split
   ·exact .inl rfl
   ·exact ho x hx
  ·intro p q' u v x hp hq hu hv;rw [List.getElem?_set] at hp hq;by_cases ea : i = p
   ·subst ea; simp [hi] at hp; subst hp; exact absurd hu (nf x)
   ·by_cases eb : i = q'
    ·subst eb; simp [hi] at hq; subst hq; exact absurd hv (nf x)
    ·rw [if_neg ea] at hp; rw [if_neg eb] at hq;exact pw p q' u v x hp hq hu hv
  ·intro x hx;obtain ⟨z1,z2⟩:=sw x hx;exact ⟨(re x z1).1,by rw [(re x z1).2]; exact z2⟩
 ·refine Th.of6 (fun _=>.inr (.inl rfl)) hT.kd (fun _=>by show 1<=13/\13<=13; omega) (fun _ _=>.inr rfl) ?_ (fun b _=>hT.tm b (by omega)) ?_ (fun b _=>rfl) ?_ ?_ hT.ky hT.hi ?_ ?_ ?_ ?_ ?_ hT.l3
  ·show t.slot = if t.busy = true/\(13 : Nat)≠1 then (if (13 : Nat)<=3 then 1 else 2) else 0
   rw [hT.sl,hn]; simp [hb]
  ·intro x hx;show _ ↔ t.busy = true/\x ∈ [_,_].take 0;simp only [List.take_zero,List.not_mem_nil,and_false,iff_false];simp only [Us,q1] at hx;rw [hho x hx];split
   ·omega
   ·next hh=>exact hh
  ·intro b h5; have : (13 : Nat) = 5:=h5; omega
  ·intro b h6 h7; exact hno h7
  ·intro b _ h4; have : (13 : Nat)<=3:=h4; omega
  ·intro b _ _ h4; exact hno h4
  ·intro b _ h4; have : (13 : Nat) = 4:=h4; omega
  ·intro b _ h4; exact hno h4
  ·intro b h4; have : (13 : Nat)<=7:=h4; omega
end
end
end Go.Proofs.YtfccelbmacjifaaGreat
