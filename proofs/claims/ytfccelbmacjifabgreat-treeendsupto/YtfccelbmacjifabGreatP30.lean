import Derived.Test.YtfccelbmacjifabGreatP0
import Derived.Test.YtfccelbmacjifabGreatP28
import Derived.Test.YtfccelbmacjifabGreatP29
set_option linter.unusedSimpArgs false
set_option maxRecDepth 100000
set_option maxHeartbeats 4000000
namespace Go.Proofs.YtfccelbmacjifabGreat
section
namespace T
theorem unpend_ns (M : PMem) (n : Int) (s : Bool) : (M.unpend n s).ns = M.ns:=by unfold PMem.unpend; split <;> rfl
theorem stamp_ns (M : PMem) (n : Int) (s : Bool) (st : Int) : (M.stamp n s st).ns = M.ns:=by unfold PMem.stamp; split <;> rfl
theorem stampsNew_ns (st : Int) : ∀ (l : List Int) (M : PMem),(M.stampsNew st l).ns = M.ns
 | [],_=>rfl
 | n :: l,M=>by
  show ((M.stampNew n st).stampsNew st l).ns = _;rw [stampsNew_ns st l];unfold PMem.stampNew;rw [stamp_ns,stamp_ns]
theorem pend_len (M : PMem) (n : Int) (s : Bool) (to : Int) : (M.pend n s to).ns.length = M.ns.length:=by rw [pend_ns]
theorem addLink_len (M : PMem) (n to : Int) : (M.addLink n to).ns.length = M.ns.length:=by
 unfold PMem.addLink;split
 ·split
  ·rw [pend_len,modN_len]
  ·rw [pend_len,modN_len]
  ·rfl
 ·rfl
theorem make_len (M : PMem) (a b : Int) : (M.make a b).1.ns.length = M.ns.length:=by unfold PMem.make; split <;> simp
theorem free_len (M : PMem) (n : Int) : (M.free n).ns.length = M.ns.length:=by unfold PMem.free; split <;> simp
theorem frees_len : ∀ (l : List Int) (M : PMem),(M.frees l).ns.length = M.ns.length
 | [],_=>rfl
 | n :: l,M=>by show ((M.free n).frees l).ns.length = _; rw [frees_len l,free_len]
theorem freesIf_len (ht : Bool) (tm : Int) : ∀ (l : List Nat) (M : PMem),(M.freesIf ht tm l).ns.length = M.ns.length
 | [],_=>rfl
 | n :: l,M=>by
  unfold PMem.freesIf;rw [freesIf_len ht tm l];split
  ·exact free_len _ _
  ·rfl
theorem kills_len : ∀ (l : List Int) (M : PMem),(M.kills l).ns.length = M.ns.length
 | [],_=>rfl
 | n :: l,M=>by show ((M.kill n).kills l).ns.length = _; rw [kills_len l]; exact modN_len _ _ _
theorem retires_len (tm : Int) : ∀ (l : List Int) (M : PMem),(M.retires tm l).ns.length = M.ns.length
 | [],_=>rfl
 | n :: l,M=>by show ((M.retire n tm).retires tm l).ns.length = _; rw [retires_len tm l]; exact modN_len _ _ _
theorem lock_len (M : PMem) (n t : Int) : (M.lock n t).1.ns.length = M.ns.length:=by
 unfold PMem.lock;split
 ·split
  ·rfl
  ·exact modN_len _ _ _
 ·rfl
theorem lead_len (M : PMem) (n : Int) (s : Bool) : (M.lead n s).ns.length = M.ns.length:=by
 unfold PMem.lead; split
 ·exact modN_len _ _ _
 ·rfl
theorem unlock_len (M : PMem) (t : Int) : (M.unlock t).ns.length = M.ns.length:=by simp [PMem.unlock]
theorem sum_le (f : PThread->Nat) (K : Nat) : ∀ (l : List PThread),(∀ t ∈ l,f t<=K)->(l.map f).sum<=l.length * K
 | [],_=>by simp
 | a :: l,h=>by
  have ih:=sum_le f K l (fun t ht=>h t (by simp [ht]));have ha:=h a (by simp);simp only [List.map_cons,List.sum_cons,List.length_cons,Nat.add_mul];omega
theorem filt_len {α : Type} (p : α->Bool) (l : List α) : count p l<=l.length:=by unfold count; exact List.length_filter_le _ _
theorem join_len (M : PMem) (a b : Int) : (M.join a b).1.ns.length = M.ns.length:=by
 unfold PMem.join;simp only;rw [addLink_len,addLink_len,make_len]
section
variable {g g' : Gh} {M M' : PMem} {c c' T : Int} {r r' : PSweep} {i j : Nat} {t t' u : PThread} {ts ts' : List PThread} {P P' : PSt} {x d st : Int} {s : Bool} {key : Int} {k : PWork} {tr : Tr} {L n n' : Nat}
theorem step_len : (P.step i t).1.mem.ns.length = P.mem.ns.length:=by
 unfold PSt.step;split
 ·rfl
 ·rfl
 ·rfl
 ·rfl
 ·split
  ·unfold PSt.read;simp only;split <;> rfl
  ·unfold PSt.update;split
   ·rfl
   ·unfold PSt.lock;split
    ·split
     ·exact lock_len _ _ _
     ·rfl
    ·rfl
   ·show (P.check i t.work).mem.ns.length = _;unfold PSt.check;split
    ·exact unlock_len _ _
    ·split <;> rfl
   ·show (P.prepare i t.work).mem.ns.length = _;unfold PSt.prepare;split
    ·rfl
    ·show (if t.work.kind = 1 then P.prepareInsert t.work else P.prepareRemove t.work).1.ns.length = _;split
     ·unfold PSt.prepareInsert;simp only;split
      ·show ((((P.mem.make _ _).1.addLink _ _).pend _ _ _)).ns.length = _;rw [pend_len,addLink_len,make_len]
      ·show ((((P.mem.make _ _).1.join _ _).1.pend _ _ _)).ns.length = _;rw [pend_len,join_len,make_len]
     ·unfold PSt.prepareRemove;simp only;split <;> exact pend_len _ _ _ _
   ·show (P.take i t.work).mem.ns.length = _;unfold PSt.take;split
    ·show ((P.mem.unpend _ _).frees _).ns.length = _;rw [frees_len,unpend_ns]
    ·simp only;split
     ·rfl
     ·show (P.mem.stampsNew _ _).ns.length = _;rw [stampsNew_ns]
   ·exact kills_len _ _
   ·exact lead_len _ _ _
   ·show (P.mem.stamp _ _ _).ns.length = _;rw [stamp_ns]
   ·show (P.unlock i t.work).mem.ns.length = _;unfold PSt.unlock;simp only;show (if _ then _ else _ : PMem).ns.length = _;split
    ·rw [retires_len,unlock_len]
    ·exact unlock_len _ _
   ·rfl
theorem sweep_len : P.doSweep.1.mem.ns.length = P.mem.ns.length:=by
 unfold PSt.doSweep;simp only;split
 ·rfl
 ·split
  ·split <;> rfl
  ·split
   ·rfl
   ·exact freesIf_len _ _ _ _
theorem Inv.bound (h : Inv g P) (hV : InvV g P) (hR : InvR g P) (N : Nat) (hl : P.mem.ns.length = N + 2) : Phi (N + 2) g P<=P.ts.length * ((P.ts.length + 2) * (N + 16)):=by
 unfold Phi;refine sum_le _ _ _ ?_;intro t ht;obtain ⟨i,hi⟩:=List.mem_iff_getElem?.1 ht;have hT:=h.th i t hi;have hu:=filt_len unl P.ts;generalize hcu : count unl P.ts = u at *;have e1 : (P.ts.length + 2) * (N + 16) = (P.ts.length + 1) * (N + 4) + (P.ts.length + 1) * 12 + (N + 16):=by
  rw [show P.ts.length + 2 = (P.ts.length + 1) + 1 by omega,Nat.add_mul (P.ts.length + 1) 1,show N + 16 = (N + 4) + 12 by omega,Nat.mul_add (P.ts.length + 1)]; omega
 rw [e1];have e2 : ∀ s,s<=1->(u + s) * (N + 2 + 2)<=(P.ts.length + 1) * (N + 4):=fun s hs=>Nat.mul_le_mul (by omega) (by omega)
 by_cases hb : t.busy = true
 ·have hnx:=hT.nx hb;by_cases hr : t.work.kind = 3\/t.work.kind = 4
  ·rcases hT.rd hb hr with h4 | h13
   ·rcases (show t.work.next = 4\/t.work.next<=3 by omega) with e | e
    ·rw [phi_r4 hb hr e];obtain ⟨hv,t0,t1⟩:=hV.rd i t hi ⟨hb,hr,by omega,by omega⟩;have hg:=hV.gts _ t0 t1;have hsz:=hv.size hg.dj hg.z;have hle : rs g t.work<=(g.V t.work.time).size:=by
      unfold rs;rcases hr with hr | hr
      ·rw [if_pos hr];have e1:=Tr.len_size (k:=t.work.key) (g.V t.work.time);have e2:=Tr.rem_len (k:=t.work.key) (g.V t.work.time) t.work.stand;split <;> omega
      ·rw [if_neg (by omega)];obtain ⟨W,w1,_,w3,_⟩:=(hR i t hi).sc hb hr e;rw [Stk.lsz hg.dj hg.z w1]; exact w3
     omega
    ·rw [phi_r3 hb hr e]; omega
   ·rw [phi_r13 hb hr h13]; omega
  ·have hs:=e2 _ (stale_le g P.mem P.clock P.ts t.work);rcases (show 7<=t.work.next\/t.work.next = 6\/t.work.next = 5\/t.work.next = 4\/t.work.next<=3 by omega) with e | e | e | e | e
   ·rw [phi_u7 hb hr e]; omega
   ·rw [phi_u6 hb hr e]; omega
   ·rw [phi_u5 hb hr e]; omega
   ·rw [phi_u4 hb hr e]
    have:=wp_le (L:=N + 2) (by omega) g P.mem P.clock P.ts t.work.stand
    omega
   ·rw [phi_u3 hb hr e]
    have:=e2 0 (by omega)
    simp only [Nat.add_zero] at this;omega
 ·rw [phi_idle (by simpa using hb)]; omega
end
theorem fresh_seen (nn en : Nat) (he : 1<=en) : Wm (freshMem nn en)/\(freshMem nn en).ns.length = nn + 2/\(∀ x,(freshMem nn en).node x = if x = 0 then linked false 1 anchorNode else if x = 1 then endNode else PNode.zero)/\(∀ x b,Pd (freshMem nn en) x b = [])/\(∀ x b s d,Sd (freshMem nn en) x b s d ↔ x = 0/\b = false/\s = 0/\d = 1):=by
 have hz : ∀ e ∈ List.replicate en PEntry.zero,e = PEntry.zero:=fun e he=>(List.mem_replicate.1 he).2
 obtain ⟨M0,hM0⟩ : ∃ M0 : PMem,M0 = ⟨freshNodes nn,List.replicate en PEntry.zero⟩:=⟨_,rfl⟩;have hn0 : ∀ x,M0.node x = if x = 0 then anchorNode else if x = 1 then endNode else PNode.zero:=fun x=>by rw [hM0]; exact fresh_nodes nn _ x
 have hw0 : Wm M0:=by
  refine ⟨by rw [hM0]; simp [freshNodes],?_,?_⟩
  ·intro e he _; rw [hM0] at he; exact hz e he
  ·intro x hx;rw [hn0] at hx ⊢;by_cases h0 : x = 0
   ·rw [if_pos h0] at hx; exact nomatch hx
   ·rw [if_neg h0] at hx ⊢;by_cases h1 : x = 1
    ·rw [if_pos h1] at hx; exact nomatch hx
    ·rw [if_neg h1]
 have hp0 : ∀ x b,Pd M0 x b = []:=by
  intro x b;rw [hM0];unfold Pd;rw [List.filter_eq_nil_iff.2]
  ·rfl
  ·intro e he; rw [hz e he,isPd_z]; decide
 have hs0 : ∀ x b s d,¬ Sd M0 x b s d:=by
  rintro x b s d ⟨e,he,h1,_⟩;rw [hM0] at he;rw [hz e he,isSt_z] at h1; cases h1
 have hr0 : 0 < M0.room.2:=by
  rw [hM0];unfold PMem.room;simp only;have : count (fun x : PEntry=>!x.used) (List.replicate en PEntry.zero) = en:=by
   unfold count;rw [List.filter_eq_self.2]
   ·simp
   ·intro e he; rw [hz e he]; rfl
  rw [this]; omega
 obtain ⟨g1,g2,g3,g4,g5,_⟩:=addLink_e (n:=0) (to:=1) (s:=false) hw0 (by rw [hn0,if_pos rfl]; rfl) (by rw [hn0,if_pos rfl]; rfl) (hp0 0 false) hr0;have hfm : freshMem nn en = (M0.addLink 0 1).stampNew 0 0:=by rw [hM0]; rfl
 generalize M0.addLink 0 1 = M1 at *;obtain ⟨s1,s2,s3,s4⟩:=stamp_e (n:=0) (d:=1) (s:=false) 0 g2 (by rw [g4,if_pos ⟨rfl,rfl⟩]);have hfm2 : freshMem nn en = M1.stamp 0 false 0:=by
  rw [hfm];unfold PMem.stampNew;rw [stamp_no (M:=M1.stamp 0 false 0) (by rw [s3,if_neg (by simp),g4,if_neg (by simp)]; exact hp0 0 true)]
 rw [hfm2];refine ⟨s2,?_,?_,?_,?_⟩
 ·rw [s1,g1,hM0]; simp [freshNodes]
 ·intro x;rw [node_ns s1,g3];split
  ·rw [hn0,if_pos rfl]
  ·next h=>rw [hn0,if_neg h]
 ·intro x b;rw [s3];split
  ·rfl
  ·next h=>rw [g4,if_neg h]; exact hp0 x b
 ·intro x b s d;rw [s4,g5];constructor
  ·rintro (h | h)
   ·exact absurd h (hs0 x b s d)
   ·exact h
  ·exact .inr
def newG : Gh:=⟨fun _=>.lf 1 1099511627777 0,fun _=>0,fun _ _=>False,fun _=>False⟩
theorem newG_gt : Gt (newG.V 0):=by
 refine ⟨trivial,?_,trivial,⟨rfl,rfl,rfl⟩,?_⟩
 ·intro e; have : (0 : Int) = 1:=e; omega
 ·intro x k v h h1; exact absurd h.1 h1
theorem inv_fresh {T N E L : Int} (hE : 1<=E) : Inv newG (freshP 1 T N E L)/\InvV newG (freshP 1 T N E L)/\InvR newG (freshP 1 T N E L)/\(freshP 1 T N E L).mem.ns.length = N.toNat + 2:=by
 obtain ⟨w1,w2,w3,w4,w5⟩:=fresh_seen N.toNat E.toNat (by omega);have hm : (freshP 1 T N E L).mem = freshMem N.toNat E.toNat:=rfl;have hts : ∀ (i : Nat) t,(freshP 1 T N E L).ts[i]? = some t->t = PThread.zero:=fun i t ht=>(List.mem_replicate.1 (List.mem_of_getElem? ht)).2
 have nb : ∀ (i : Nat) t,(freshP 1 T N E L).ts[i]? = some t->t.busy = false:=fun i t ht=>by rw [hts i t ht]; rfl
 have nex : ∀ {p : PThread->Prop},(∀ t,p t->t.busy = true)->¬ Ex (freshP 1 T N E L).ts p:=by
  rintro p hp ⟨i,t,ht,hh⟩
  have:=hp t hh
  rw [nb i t ht] at this; cases this
 have nd:=w3;have us : ∀ x,Us (freshMem N.toNat E.toNat) x->x = 0\/x = 1:=by
  intro x hx;simp only [Us] at hx; rw [nd] at hx;by_cases h0 : x = 0
  ·exact .inl h0
  ·by_cases h1 : x = 1
   ·exact .inr h1
   ·rw [if_neg h0,if_neg h1] at hx; exact nomatch hx
 have nde : ∀ x,((freshMem N.toNat E.toNat).node x).dead = false/\((freshMem N.toNat E.toNat).node x).retired = false:=by
  intro x; rw [nd]; split
  ·exact ⟨rfl,rfl⟩
  ·split <;> exact ⟨rfl,rfl⟩
 have n0 : (freshMem N.toNat E.toNat).node 0 = linked false 1 anchorNode:=by rw [nd,if_pos rfl]
 have n1 : (freshMem N.toNat E.toNat).node 1 = endNode:=by rw [nd,if_neg (by decide),if_pos rfl]
 have nin : ∀ {p : Prop} {x : Int},(newG.V 0).Inn x->p:=fun h=>h.elim
 have gd : ∀ x,Gd newG 0 (freshP 1 T N E L).ts x ↔ x = 1:=by
  intro x;constructor
  ·rintro ⟨e | e,_⟩
   ·exact e.elim
   ·exact e
  ·rintro rfl; exact ⟨.inr rfl,nex (fun t h=>h.1)⟩
 have n1l : Ln (freshMem N.toNat E.toNat) 1 = 0:=by simp only [Ln]; rw [n1]; rfl
 have hN : InvN newG (freshMem N.toNat E.toNat) 0 PSweep.zero (freshP 1 T N E L).ts:=by
  refine ⟨newG_gt,⟨fun x q h=>h.elim,?_⟩,?_,?_,?_,fun x h=>h.elim,?_,fun x h=>h.elim,?_,?_,?_,?_,?_,fun x s h=>h.elim,fun x k h=>h.elim,fun x=>Int.le_refl _⟩
  ·rintro x q w ⟨rfl,rfl,rfl⟩;simp only [Us,Ln,Ky]; rw [n1]; exact ⟨rfl,rfl,rfl,rfl⟩
  ·simp only [Us,Ln]; rw [n0]; exact ⟨rfl,rfl,rfl,rfl⟩
  ·intro x _; exact nde x
  ·intro x hx;rcases us x hx with e | e
   ·exact .inl e
   ·exact .inr (.inl e)
  ·intro x hx; simp only [De] at hx; rw [(nde x).1] at hx; cases hx
  ·intro x hx; simp only [Re] at hx; rw [(nde x).2] at hx; cases hx
  ·intro x hx; simp only [De] at hx; rw [(nde x).1] at hx; cases hx
  ·rintro x s d ⟨rfl,rfl,rfl⟩;left; simp only [Ld]; rw [n0]; rfl
  ·intro x s hx hs;have h0 : x = 0:=by
    rcases hx with e | ⟨e1,e2⟩
    ·exact e
    ·rw [gd] at e2; subst e2; omega
   have hs':=hs h0;subst h0; subst hs';have hl : Ld (freshMem N.toNat E.toNat) 0 false = 1:=by simp only [Ld]; rw [n0]; rfl
   rw [hl,gd];refine ⟨rfl,fun e=>by omega,fun e=>?_,?_⟩
   ·simp only [Re] at e; rw [(nde 1).2] at e; cases e
   ·rintro ⟨n,hn,_⟩; cases hn
  ·intro x s k hx _ hs hl;exfalso;have h0 : x = 0:=by
    rcases hx with e | ⟨e1,e2⟩
    ·exact e
    ·rw [gd] at e2; subst e2; omega
   subst h0;have : s = false:=by rw [<- hs]; exact sd0 (by simp only [Ln]; rw [n0]; rfl) k
   subst this;have hld : Ld (freshMem N.toNat E.toNat) 0 false = 1:=by simp only [Ld]; rw [n0]; rfl
   rw [hld] at hl; omega
 have hI : Inv newG (freshP 1 T N E L):=by
  refine ⟨rfl,w1,hN,⟨?_,?_⟩,⟨?_,?_,?_,?_,?_,?_,fun _=>⟨rfl,rfl⟩⟩,?_⟩
  ·intro x s st d hd;rw [hm] at hd;obtain ⟨rfl,rfl,rfl,rfl⟩:=(w5 x s st d).1 hd;rw [hm]; simp only [Us,Ln]; rw [n0];exact ⟨rfl,Int.le_refl _,Int.le_refl _,by decide⟩
  ·intro x s d hd; rw [hm,w4] at hd; cases hd
  ·intro x hx;rw [hm] at hx ⊢;left;simp only [Ho];rcases us x hx with e | e
   ·rw [e,n0]; rfl
   ·rw [e,n1]; rfl
  ·intro a b u v x ha hb hu _; have:=hu.1; rw [nb a u ha] at this; cases this
  ·intro a b u v x x' y ha hb hu _; have:=hu.1; rw [nb a u ha] at this; cases this
  ·rintro x ⟨n,hn,_⟩; cases hn
  ·exact ⟨Int.le_refl _,Int.le_refl _⟩
  ·show 0<=_; omega
  ·intro i t ht;have htz:=hts i t ht;subst htz;refine Th.low (fun b=>nomatch b) (fun b=>nomatch b) (fun b=>nomatch b) rfl (fun b=>nomatch b) ?_ (fun b=>nomatch b) (fun b=>nomatch b) (fun b=>nomatch b) (fun b=>nomatch b) (fun b=>nomatch b) (fun b=>nomatch b) (fun b=>nomatch b) (fun b=>nomatch b);intro x hx h;rw [hm] at hx h;simp only [Ho] at h;rcases us x hx with e | e
   ·rw [e,n0] at h; have : (-1 : Int) = i:=h; omega
   ·rw [e,n1] at h; have : (-1 : Int) = i:=h; omega
 refine ⟨hI,⟨?_,fun T' _ _=>newG_gt,?_⟩,?_,w2⟩
 ·refine hI.nowOf ?_;rintro x s d ⟨rfl,rfl,rfl⟩;refine ⟨0,.inl (by rw [hm,w5]; exact ⟨rfl,rfl,rfl,rfl⟩),?_⟩;rintro st' d' (e | ⟨e,_⟩)
  ·rw [hm,w5] at e; exact .inr ⟨e.2.2.1,e.2.2.2⟩
  ·exact absurd e (nex (fun t h=>h.1))
 ·intro i t ht hr; have:=hr.1; rw [nb i t ht] at this; cases this
 ·intro i t ht;have htz:=hts i t ht;subst htz;exact ⟨(fun b=>nomatch b),(fun b=>nomatch b),(fun b=>nomatch b),(fun b=>nomatch b),(fun b=>nomatch b)⟩
end T
end
section
namespace T
section
variable {g g' : Gh} {i j : Nat} {t t' u : PThread} {P P' : PSt} {N n n' : Nat}
structure All (g : Gh) (P : PSt) : Prop where
 i : Inv g P
 v : InvV g P
 r : InvR g P
theorem All.step (h : All g P) (ht : P.ts[i]? = some t) (hb : t.busy = true) : All (nextG g P i t) (P.step i t).1:=⟨h.i.step ht hb,h.v.step h.i ht hb,h.r.step h.v h.i ht hb⟩
theorem All.sweep (h : All g P) : All (sweepG g P) P.doSweep.1:=⟨h.i.sweep,h.v.sweep h.i,h.r.sweep⟩
theorem All.begin (h : All g P) (ht : P.ts[i]? = some t) (hb : t.busy = false) {kd ky va : Int} {sp : List (Int × Int)} (hp : properB kd ky sp = true) : All g (P.setT i { t with busy:=true,work:=newWork kd ky va sp }):=by
 obtain ⟨w1,w2,w3,w4,w5,w6,w7,w8,w9⟩:=newWork_ok (va:=va) hp;have hsp : kd = 4->spansOkX sp = true:=by
  intro e;have h0 : checkOp kd ky sp = 0:=of_decide_eq_true hp;unfold checkOp at h0;rw [if_neg (by omega),if_pos e] at h0;cases hh : (isIn sp.length 1 16 && spansOkX sp)
  ·rw [hh] at h0; exact absurd h0 (by decide)
  ·rw [Bool.and_eq_true] at hh; exact hh.2
 have hnt : kd = 4->(newWork kd ky va sp).noted = []:=by
  intro e; subst e; rfl
 have hspan : kd = 4->(newWork kd ky va sp).spans = sp:=by
  intro e; subst e; rfl
 refine ⟨h.i.begin ht hb w1 (by rw [w2]; exact w3) w4 w5 (fun e=>by rw [w2] at e; exact ⟨(w6 e).1,(w6 e).2.1⟩) (fun e=>by rw [w2] at e; exact (w7 e).1) (fun e=>by rw [w2] at e; exact (w7 e).2.1) (fun e=>by rw [w2] at e; exact w8 e),h.v.begin ht hb w1,h.r.begin ht w1 (fun _ e=>?_) (fun e=>?_)⟩
 ·have e : (newWork kd ky va sp).kind = 4:=e;rw [w2] at e;show spansOkX (newWork kd ky va sp).spans = true;rw [hspan e]; exact hsp e
 ·have e : (newWork kd ky va sp).kind = 4:=e;rw [w2] at e; exact hnt e
def TPot (N : Nat) (P : PSt) (n : Nat) : Prop:=∃ g,All g P/\P.mem.ns.length = N + 2/\Phi (N + 2) g P<=n
def treeKin : Kin where
 κ:=1
 hκ:=.inr rfl
 Pot:=TPot
 kind:=fun ⟨_,h,_⟩=>h.i.kind
 move:=by
  rintro N n i P t ⟨g,h,hl,hp⟩ ht hb hm
  have:=h.i.drops h.v h.r hl ht hb hm
  exact ⟨Phi (N + 2) (nextG g P i t) (P.step i t).1,by omega,nextG g P i t,h.step ht hb,by rw [step_len]; exact hl,Nat.le_refl _⟩
 wait:=fun ⟨_,h,_⟩ ht hb hm=>(h.i.waits ht hb hm).1
 live:=fun ⟨_,h,_⟩ ht hb=>h.i.live ht hb
 bound:=fun ⟨g,h,hl,_⟩=>⟨g,h,hl,h.i.bound h.v h.r _ hl⟩
 beg:=by
  rintro N n i P t kd ky va sp ⟨g,h,hl,hp⟩ ht hb hpr;exact ⟨_,g,h.begin ht hb hpr,hl,Nat.le_refl _⟩
 swp:=by
  rintro N n P ⟨g,h,hl,hp⟩;exact ⟨_,sweepG g P,h.sweep,by rw [sweep_len]; exact hl,Nat.le_refl _⟩
 new:=by
  intro T N E L hE;obtain ⟨h1,h2,h3,h4⟩:=inv_fresh (T:=T) (N:=N) (L:=L) hE;exact ⟨_,newG,⟨h1,h2,h3⟩,h4,Nat.le_refl _⟩
end
end T
end
section
open Go.RowKit
theorem tends_any : LawHolds 5:=by
 intro k t n e l W sa c acts rt rn re rl hlen hacts;have HA:=(mkH (Calls Tryz.prog 11 #[cfg k t n e l,.slice sa acts.length c,.int .i64 1] (W.alloc (.cells #[.int .i64 k,.int .i64 t,.int .i64 n,.int .i64 e,.int .i64 l] 23)) _) <|lends_calls T.treeKin k t n e l _ sa c acts rt rn re rl hlen (fun i a ha=>⟨(hacts i a ha).1.keep ((Fr.refl _ _).alloc _),(hacts i a ha).2⟩));clear hacts;unfold cfg at HA ⊢
 go_enter Tryz.func5,Tryz.ntmps5
 go_wp2_with fail;refine Calls.mono HA.out ?_;rintro r w1 ⟨rfl,hF1⟩;have HF1:=(mkH (Fr (fun _=>False) W w1) <|((Fr.refl _ _).alloc _).trans hF1);clear hF1 HA;go_wp2;go_ret;exact ⟨rfl,HF1.out⟩
end
section
open Go.ChangeShapes Go.WideShapes Go.ChangeAt Go.RowKit Go.Joins Go.Deep
theorem tends_contract (hany : LawHolds 5) (H : Type) (enc : TypeId × Value->H) (W : World) (base : Nat) (args : Array Value) (ds gs : List (DataW H)) (before : List MemPlace)
  (hval0 : ∀ (j : Nat) t v,Tryz.f5.params[j]? = some t->args[j]? = some v->Value.okWide Tryz.prog W .any base t v)
  (hW : DataW.Whole enc Tryz.prog Tryz.f5.params.toList Rows.treeEndsSpec.vars false W args.toList ds gs before) (hk : Rows.uptoSmall H (ds ++ gs) = true) :
  Calls Tryz.prog 5 args W fun e W'=>∃ v,e = .returned v/\Rows.treeEndsSpec.post enc Tryz.prog Tryz.f5 false true false false W args v W':=by
 have hval : ∀ (j : Nat) t v,Tryz.f5.params[j]? = some t->args[j]? = some v->Value.okWide Tryz.prog W .any base t v:=hval0;have hW':=hW;obtain ⟨p,q,hA0,hV,rfl,_,_⟩:=hW;have hA : DataW.TrodAll enc Tryz.prog W 0 (fun _=>true) true Tryz.f5.params.toList args.toList ds p:=hA0;rw [Tryz.params5] at hA hval;obtain ⟨v0,vs0,d0,ds0,p0,q0,hargs,rfl,rfl,h0,r0⟩:=trodAll_cons hA;obtain ⟨v1,vs1,d1,ds1,p1,q1,hargs1,rfl,rfl,h1,r1⟩:=trodAll_cons r0;obtain ⟨rfl,rfl,rfl⟩:=trodAll_nil r1;obtain rfl : args = #[v0,v1]:=by cases args; simp_all
 obtain ⟨rfl,rfl⟩:=trodVars_none hV;have k0:=h0;have k1:=h1;have lt0 : ∀ x ∈ p0,x.block < W.heap.size:=by obtain ⟨m,hm⟩:=k0; exact DataW.trod_lt m _ _ _ hm
 have lt1 : ∀ x ∈ p1,x.block < W.heap.size:=by obtain ⟨m,hm⟩:=k1; exact DataW.trod_lt m _ _ _ hm
 obtain ⟨k,t,n,e,l,rfl,rt,rn,re,rl⟩:=cfg_open (hval 0 23 v0 rfl rfl) h0;obtain ⟨sa,m,c,acts,rfl,hm,hl,hacts⟩:=acts_open (hval 1 24 v1 rfl rfl) h1;have hb : Rows.uptoBulk d1<=2 ^ 20:=by
  have h : Rows.uptoBulkAll ([d0,d1] ++ [])<=1048576:=of_decide_eq_true hk;simp only [List.cons_append,List.nil_append,Rows.uptoBulkAll] at h;omega
 clear hA0 hval0;subst hl;refine (hany k t n e l W sa c acts rt rn re rl (Nat.le_trans hm hb) (fun i a ha=>⟨(hacts i a ha).1,Nat.le_trans (hacts i a ha).2 hb⟩)).mono fun r W' ⟨he,hf⟩=>?_
 subst he;have bel : Below W.heap.size W W':=hf.below (fun _ _ h=>h);exact ⟨_,rfl,_,_,_,[],_,[],hW',trodAll_mk1 (shut_bool Tryz.underlying4 _),trodAll_cons_mk (Below.trod Tryz.laidOut (by kernel_rfl) (of_decide_eq_true (by kernel_rfl)) k0 bel lt0) (trodAll_cons_mk (Below.trod Tryz.laidOut (by kernel_rfl) (of_decide_eq_true (by kernel_rfl)) k1 bel lt1) trodAll_mk0),rfl,bel.frame _,fun h=>by cases h⟩
theorem tends_lifted (hany : LawHolds 5) (os : Os) (started : os.Started) (H : Type) (enc : TypeId × Value->H) (F : Stop.Interp) :
  ReturnsInHanded {} Tryz.checked os 5 .any ((Rows.OpenSpec.upto Rows.treeEndsSpec).pre6 enc Tryz.prog Tryz.f5 Rows.treeEndsUptoRow.domain false) (((Rows.OpenSpec.upto Rows.treeEndsSpec).at F).post enc Tryz.prog Tryz.f5 false true false false):=by
 refine returnsInHanded_of_cond (C:=Tryz.checked) (s:=Rows.OpenSpec.upto Rows.treeEndsSpec) (k:=Rows.uptoSmall) rfl Tryz.own started (by kernel_rfl) Tryz.func5
  (OpenSpec.witness (enc:=enc) (C:=Tryz.checked) (s:=Rows.OpenSpec.upto Rows.treeEndsSpec) (k:=Rows.uptoSmall) rfl false ⟨#[],#[.agg #[.int .i64 0,.int .i64 0,.int .i64 0,.int .i64 0,.int .i64 0],.slice none 0 0],[]⟩ 8 (by kernel_rfl) (by kernel_rfl) (by kernel_rfl)
   (x:=([.agg [.lit (.int .i64 0),.lit (.int .i64 0),.lit (.int .i64 0),.lit (.int .i64 0),.lit (.int .i64 0)],.nil],[],[])) (by kernel_rfl) rfl (by kernel_rfl)) ?_
 intro W base args ds gs before hval hW _ hk _;exact tends_contract hany H enc W base args ds gs before hval hW hk
theorem tends_frame (hany : LawHolds 5) : Rows.TreeEndsUptoSaid :=
 OpenClaim.holds_of_cond 5 Tryz.f5 rfl rfl rfl rfl rfl rfl rfl ⟨rfl,rfl,rfl,rfl,rfl⟩ rfl rfl rfl rfl rfl (by kernel_rfl) Tryz.func5 (by kernel_rfl)
  (of_decide_eq_true (by kernel_rfl)) (by unfold Func.isWrapper; first | (rw [if_pos (by decide +kernel)]; kernel_rfl) | (rw [if_neg (by decide +kernel)]; exact ⟨rfl,rfl⟩))
  (fun os started H enc _ F=>tends_lifted hany os started H enc F)
end
section
theorem tends_holds : Rows.TreeEndsUptoSaid:=tends_frame tends_any
#print axioms tends_holds
end
end Go.Proofs.YtfccelbmacjifabGreat
