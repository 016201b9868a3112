import Derived.Test.YtfccelbmacjifaaGreatP0
import Derived.Test.YtfccelbmacjifaaGreatP19
set_option linter.unusedSimpArgs false
set_option maxRecDepth 100000
set_option maxHeartbeats 4000000
namespace Go.Proofs.YtfccelbmacjifaaGreat
section
section
variable {C C' : Int->Prop} {M M' : PMem} {c c' : Int} {r : PSweep} {i j : Nat} {t t' : PThread} {ts : List PThread} {P : PSt} {x : Int} {k : PWork}
def nextC (C : Int->Prop) (t : PThread) : Int->Prop :=
 if t.work.next = 10/\t.work.kind = 2 then (fun x=>C x/\x≠t.work.ahead) else if t.work.next = 10/\t.work.kind = 1 then (fun x=>C x\/x ∈ t.work.made) else C
theorem nextC_ne (h : t.work.next≠10) : nextC C t = C:=by
 unfold nextC; rw [if_neg (fun hh=>h hh.1),if_neg (fun hh=>h hh.1)]
theorem Inv.prepare (h : Inv C P) (ht : P.ts[i]? = some t) (hb : t.busy = true) (hn : t.work.next = 7) : Inv C (P.prepare i t.work):=by
 obtain ⟨hk,_⟩:=h.mine ht hb (by omega) (by omega);unfold PSt.prepare;split
 ·exact h.settle ht hb (.inr hn) rfl
 ·next hroom =>
  rcases hk with hk | hk
  ·have hne : P.needs t.work.kind = (1,2):=by unfold PSt.needs; rw [hk,if_neg (by decide),if_neg (by rw [h.kind]; decide)]
   rw [hne] at hroom;simp only [hk,if_true];exact h.prepI ht hb hn hk (by simp only at hroom; omega) (by simp only at hroom; omega)
  ·have hne : P.needs t.work.kind = (0,1):=by unfold PSt.needs; rw [hk,if_pos rfl]
   rw [hne] at hroom;simp only [hk,show ¬ ((2 : Int) = 1) by decide,if_false];exact h.prepR ht hb hn hk (by simp only at hroom; omega)
theorem Inv.take (h : Inv C P) (ht : P.ts[i]? = some t) (hb : t.busy = true) (hn : t.work.next = 8) : Inv C (P.take i t.work):=by
 have hT:=h.th i t ht;obtain ⟨hk,_⟩:=h.mine ht hb (by omega) (by omega);obtain ⟨t1,t2⟩:=hT.ts hb (by omega) (by omega);have hu : P.mem.unpend t.work.tsrc t.work.tside = P.mem.unpend t.work.stand false:=by rw [t1,t2]
 unfold PSt.take;rw [hu];split
 ·rcases hk with hk | hk
  ·exact h.overI ht hb hn hk _ rfl
  ·rw [show (P.mem.unpend t.work.stand false).frees t.work.made = P.mem.unpend t.work.stand false by rw [(hT.p2 hb hk (by omega) (by omega)).2]; rfl];exact h.overR ht hb hn hk _ rfl
 ·rcases hk with hk | hk
  ·rw [if_neg (show ¬ t.work.kind = 2 by omega)];exact h.takeI ht hb hn hk { did:=true,stamp:=P.clock + 1 } ⟨rfl,rfl⟩
  ·rw [if_pos hk];exact h.takeR ht hb hn hk { did:=true,stamp:=P.clock + 1,value:=(P.mem.node t.work.ahead).value } ⟨rfl,rfl⟩
theorem Inv.unlock (h : Inv C P) (ht : P.ts[i]? = some t) (hb : t.busy = true) (hn : t.work.next = 12) : Inv C (P.unlock i t.work):=by
 unfold PSt.unlock;simp only;by_cases hh : t.work.kind = 2/\t.work.ans.did = true
 ·rw [if_pos hh]; exact h.retired ht hb hn hh.1 hh.2
 ·rw [if_neg hh,setMW_to P ht]; exact h.unlock0 ht hb hn hh
theorem Inv.linkIs (h : Inv C P) (ht : P.ts[i]? = some t) (hb : t.busy = true) (hn : t.work.next = 4) (hk : t.work.kind = 3\/t.work.kind = 4) : ∃ x,P.linkNext t.work = (x,false)/\Gd P.mem C x/\Safe P.mem P.sweep i t.work.time x/\(t.work.kind = 3->x = t.work.stand)/\(t.work.kind = 4->t.work.links = [(x,false)]):=by
 have hT:=h.th i t ht;rcases hk with hk | hk
 ·have hl:=hT.l3 hb (by omega);obtain ⟨g1,g2,g3⟩:=hT.xs hb (by omega) (by omega) (by omega);refine ⟨t.work.stand,?_,g1,g2,fun _=>rfl,fun h4=>by omega⟩;unfold PSt.linkNext;rw [hl,(h.side g1 t.work.key).1]
 ·obtain ⟨x,e,g1,g2⟩:=hT.xl hb hk hn;refine ⟨x,?_,g1,g2,fun h3=>by omega,fun _=>e⟩;unfold PSt.linkNext;rw [e]
theorem Inv.read (h : Inv C P) (ht : P.ts[i]? = some t) (hb : t.busy = true) (hn : t.work.next = 4) (hk : t.work.kind = 3\/t.work.kind = 4) : Inv C (P.read i t.work).1:=by
 obtain ⟨x,h1,h2,h3,h4,h5⟩:=h.linkIs ht hb hn hk;unfold PSt.read;rw [h1];simp only;by_cases hp : P.mem.hasPending x false = true
 ·rw [if_pos hp]; exact h
 ·rw [if_neg hp];have hp' : Pd P.mem x = []:=by
   by_cases q : Pd P.mem x = []
   ·exact q
   ·exact absurd (hasPd_iff.2 q) hp
  rcases hk with hk | hk
  ·rw [if_pos hk]
   have:=h4 hk
   subst this;exact h.lookUp ht hb hn hk hp'
  ·rw [if_neg (by omega)];exact h.scan ht hb hn hk (h5 hk) hp'
theorem Inv.step (h : Inv C P) (ht : P.ts[i]? = some t) (hb : t.busy = true) : Inv (nextC C t) (P.step i t).1:=by
 have hT:=h.th i t ht;have hnx:=hT.nx hb;have hkd:=hT.kd hb;have hrd:=hT.rd hb;rcases (show t.work.next = 1\/t.work.next = 2\/t.work.next = 3\/t.work.next = 13\/(4<=t.work.next/\t.work.next<=12) by omega) with hn | hn | hn | hn | hn
 ·rw [nextC_ne (by omega)];unfold PSt.step; simp only [hn];exact h.step1 ht hb hn
 ·rw [nextC_ne (by omega)];unfold PSt.step; simp only [hn];exact h.step2 ht hb hn
 ·rw [nextC_ne (by omega)];unfold PSt.step; simp only [hn];exact h.step3 ht hb hn
 ·rw [nextC_ne (by omega)];unfold PSt.step; simp only [hn];exact h.step13 ht hn
 ·have hs : P.step i t = if t.work.kind = 3\/t.work.kind = 4 then P.read i t.work else P.update i t.work:=by
   unfold PSt.step;split <;> first | (rename_i hh; omega) | rfl
  rw [hs];by_cases hk : t.work.kind = 3\/t.work.kind = 4
  ·rw [if_pos hk]
   have:=hrd hk
   rw [nextC_ne (by omega)];exact h.read ht hb (by omega) hk
  ·rw [if_neg hk];have hk : t.work.kind = 1\/t.work.kind = 2:=by omega
   unfold PSt.update;rcases (show t.work.next = 4\/t.work.next = 5\/t.work.next = 6\/t.work.next = 7\/t.work.next = 8\/t.work.next = 9\/t.work.next = 10\/t.work.next = 11\/t.work.next = 12 by omega) with hn | hn | hn | hn | hn | hn | hn | hn | hn
   ·rw [nextC_ne (by omega)]; simp only [hn]; exact h.walk ht hb hn hk
   ·rw [nextC_ne (by omega)]; simp only [hn];rcases h.lock ht hb hn with ⟨_,_,q⟩ | ⟨_,q⟩
    ·exact q
    ·rw [q]; exact h
   ·rw [nextC_ne (by omega)]; simp only [hn]; exact h.check ht hb hn
   ·rw [nextC_ne (by omega)]; simp only [hn]; exact h.prepare ht hb hn
   ·rw [nextC_ne (by omega)]; simp only [hn]; exact h.take ht hb hn
   ·rw [nextC_ne (by omega)]; simp only [hn]; exact h.killed ht hb hn
   ·simp only [hn];unfold nextC;rcases hk with hk | hk
    ·rw [if_neg (by omega),if_pos ⟨hn,hk⟩]; exact h.linkI ht hb hn hk
    ·rw [if_pos ⟨hn,hk⟩]; exact h.linkR ht hb hn hk
   ·rw [nextC_ne (by omega)]; simp only [hn];obtain ⟨t1,t2⟩:=hT.ts hb (by omega) (by omega);rw [show P.mem.stamp t.work.tsrc t.work.tside t.work.ans.stamp = P.mem.stamp t.work.stand false t.work.ans.stamp by rw [t1,t2]];exact h.stamped ht hb hn
   ·rw [nextC_ne (by omega)]; simp only [hn]; exact h.unlock ht hb hn
end
end
section
section
variable {C C' : Int->Prop} {M M' : PMem} {c c' : Int} {r r' : PSweep} {i j : Nat} {t t' : PThread} {ts : List PThread} {P : PSt} {x : Int} {k : PWork}
theorem Th.swept (h : Th C M c r i t)
  (hx : ∀ x,(x = 1\/Gd M C x)->Safe M r i t.work.time x->t.busy = true->4<=t.work.next->(M'.node x = M.node x/\Pd M' x = Pd M x/\∀ s d,Sd M' x s d->Sd M x s d)/\Safe M' r' i t.work.time x)
  (hf : ∀ x,Fresh x t->M'.node x = M.node x/\Pd M' x = Pd M x/\∀ s d,Sd M' x s d->Sd M x s d)
  (hu : ∀ x,Us M' x->M'.node x = M.node x)
  (htm : t.busy = true->3<=t.work.next->i + 1 < r'.made->(r'.hasTime = true/\r'.time<=t.work.time)\/r'.clock<=t.work.time) : Th C M' c r' i t:=by
 have hs : t.busy = true->t.work.kind≠4->4<=t.work.next->t.work.next<=12->(M'.node t.work.stand = M.node t.work.stand/\Pd M' t.work.stand = Pd M t.work.stand/\∀ s d,Sd M' t.work.stand s d->Sd M t.work.stand s d)/\Safe M' r' i t.work.time t.work.stand:=by
  intro b k4 h4 h12;obtain ⟨g1,g2,_⟩:=h.xs b k4 h4 h12;exact hx _ (.inr g1) g2 b h4
 have ha : t.busy = true->5<=t.work.next->t.work.next<=12->(M'.node t.work.ahead = M.node t.work.ahead/\Pd M' t.work.ahead = Pd M t.work.ahead/\∀ s d,Sd M' t.work.ahead s d->Sd M t.work.ahead s d)/\Safe M' r' i t.work.time t.work.ahead:=by
  intro b h5 h12;obtain ⟨g1,g2,_⟩:=h.cs b h5 h12;exact hx _ g1 g2 b (by omega)
 have k4 : t.busy = true->5<=t.work.next->t.work.next<=12->t.work.kind≠4:=by
  intro b h5 h12 e
  have:=h.rd b (.inr e)
  omega
 have hw : t.busy = true->5<=t.work.next->t.work.next<=12->wl M' t.work = wl M t.work:=by
  intro b h5 h12;have e : Ky M' t.work.ahead = Ky M t.work.ahead:=by simp only [Ky]; rw [(ha b h5 h12).1.1]
  unfold wl; rw [e]
 have hgd : ∀ x,M'.node x = M.node x->(Gd M' C x ↔ Gd M C x):=fun x e=>by unfold Gd De; rw [e]
 refine ⟨h.kd,h.nx,h.rd,h.sl,?_,?_,h.l4,?_,?_,h.ky,h.hi,h.lk,?_,?_,?_,h.m7,?_,?_,?_,?_,h.n9,?_,h.ts,?_,?_,?_,?_,h.l3⟩
 ·intro b h3; exact ⟨(h.tm b h3).1,htm b h3⟩
 ·intro x hux;have e:=hu x hux;have hux' : Us M x:=by simp only [Us] at hux ⊢; rw [<- e]; exact hux
  simp only [Ho]; rw [e]; exact h.hd x hux'
 ·intro b h5; rw [hw b (by omega) (by omega)]; exact h.l5 b h5
 ·intro b h6 h12; rw [hw b (by omega) h12]; exact h.l6 b h6 h12
 ·intro b q4 h4 h12;obtain ⟨⟨e,_⟩,s⟩:=hs b q4 h4 h12;obtain ⟨g1,g2,g3⟩:=h.xs b q4 h4 h12;exact ⟨(hgd _ e).2 g1,s,by simp only [Ky]; rw [e]; exact g3⟩
 ·intro b q4 h4;obtain ⟨x,e,g1,g2⟩:=h.xl b q4 h4;obtain ⟨⟨e1,_⟩,s⟩:=hx x (.inr g1) g2 b (by omega);exact ⟨x,e,(hgd _ e1).2 g1,s⟩
 ·intro b h5 h12;obtain ⟨⟨e,_⟩,s⟩:=ha b h5 h12;obtain ⟨g1,g2,g3,g4⟩:=h.cs b h5 h12;exact ⟨g1.imp id (hgd _ e).2,s,g3,by simp only [Ky]; rw [e]; exact g4⟩
 ·intro b h7 h11;have e1:=(hs b (k4 b (by omega) (by omega)) (by omega) (by omega)).1.1;have e2:=(ha b (by omega) (by omega)).1.1;simp only [Ky]; rw [e1,e2]; exact h.c7 b h7 h11
 ·intro b h7 h10;have e1:=(hs b (k4 b (by omega) (by omega)) (by omega) (by omega)).1.1;simp only [Ld]; rw [e1]; exact h.c10 b h7 h10
 ·intro b k2 h7 h9;rw [(ha b (by omega) (by omega)).1.1]; exact h.d9 b k2 h7 h9
 ·intro b k2 h10;simp only [De]; rw [(ha b (by omega) (by omega)).1.1]; exact h.d10 b k2 h10
 ·intro ho;have b:=ho.1;have hn:=ho.2.2.1;have e1:=(hs b (k4 b (by omega) (by omega)) (by omega) (by omega)).1.1;have e2:=(ha b (by omega) (by omega)).1.1;simp only [Ld,De,Ky]; rw [e1,e2]; exact h.ot ho
 ·intro b k1 hn;obtain ⟨n,f1,f2,f3,f4,f5,f6,f7,f8,f9,f10,f11⟩:=h.f8 b k1 hn;obtain ⟨g1,g2,g3⟩:=hf n ⟨b,k1,hn,by rw [f1]; simp⟩;have e1:=(hs b (k4 b (by omega) (by omega)) (by omega) (by omega)).1.2.1;refine ⟨n,f1,f2,f3,?_⟩;simp only [Us,Ky,Ld];rw [g1,g2,e1];exact ⟨f4,f5,f6,f7,f8,f9,f10,fun h8=>⟨(f11 h8).1,fun s d hh=>(f11 h8).2 s d (g3 s d hh)⟩⟩
 ·intro b k2 h8 h10;have e1:=(hs b (k4 b (by omega) (by omega)) (by omega) (by omega)).1.2.1;have e2:=(ha b (by omega) (by omega)).1.1;simp only [Ld]; rw [e1,e2]; exact h.p2 b k2 h8 h10
 ·intro b h11;obtain ⟨e1,e2,_⟩:=(hs b (k4 b (by omega) (by omega)) (by omega) (by omega)).1;simp only [Ld]; rw [e1,e2]; exact h.p11 b h11
 ·intro b h9 h11;obtain ⟨s1,s2,s3,s4⟩:=h.s9 b h9 h11;exact ⟨s1,s2,s3,fun s d hh=>s4 s d ((hs b (k4 b (by omega) (by omega)) (by omega) (by omega)).1.2.2 s d hh)⟩
theorem mem_retired : ∀ (l : List PNode) (k n : Nat),n ∈ retiredFrom l k ↔ ∃ j e,n = k + j/\l[j]? = some e/\e.retired = true
 | [],k,n=>by simp [retiredFrom]
 | x :: l,k,n=>by
  have ih:=mem_retired l (k + 1) n;unfold retiredFrom;constructor
  ·intro h;have h' : (n = k/\x.retired = true)\/n ∈ retiredFrom l (k + 1):=by
    split at h
    ·next hx=>rcases List.mem_cons.1 h with h | h; exact .inl ⟨h,hx⟩; exact .inr h
    ·exact .inr h
   rcases h' with ⟨h1,h2⟩ | h1
   ·exact ⟨0,x,by omega,rfl,h2⟩
   ·obtain ⟨j,e,h2,h3,h4⟩:=ih.1 h1;exact ⟨j + 1,e,by omega,by simpa using h3,h4⟩
  ·rintro ⟨j,e,h1,h2,h3⟩;cases j with
   | zero =>
    simp at h2; subst h2;rw [if_pos h3,h1]; simp
   | succ j =>
    have:=ih.2 ⟨j,e,by omega,by simpa using h2,h3⟩
    split
    ·exact List.mem_cons_of_mem _ this
    ·exact this
theorem inSw_new (M : PMem) (r : PSweep) (h : r.retired = retiredFrom M.ns 0) (x : Int) : InSw r x ↔ Re M x:=by
 unfold InSw;rw [h];constructor
 ·rintro ⟨n,hn,rfl⟩;obtain ⟨j,e,h1,h2,h3⟩:=(mem_retired _ _ _).1 hn;obtain rfl : n = j:=by omega
  show (M.node n).retired = true;rw [(node_get h2).1]; exact h3
 ·intro hr;have hn : M.hasNode x = true:=by
   cases hh : M.hasNode x
   ·simp only [Re] at hr; unfold PMem.node at hr; rw [hh] at hr; exact nomatch hr
   ·rfl
  obtain ⟨k,e,rfl,h1,h2⟩:=node_at hn;exact ⟨k,(mem_retired _ _ _).2 ⟨k,e,by omega,h1,by simp only [Re] at hr; rw [h2] at hr; exact hr⟩,rfl⟩
theorem Inv.sweep0 (h : Inv C P) : Inv C { P with sweep:={ P.sweep with made:=1,clock:=P.clock,retired:=retiredFrom P.mem.ns 0 } }:=by
 have hin:=inSw_new P.mem { P.sweep with made:=1,clock:=P.clock,retired:=retiredFrom P.mem.ns 0 } rfl;generalize hr : ({ P.sweep with made:=1,clock:=P.clock,retired:=retiredFrom P.mem.ns 0 } : PSweep) = r1 at *;have hm1 : r1.made = 1:=by rw [<- hr]
 have hc1 : r1.clock = P.clock:=by rw [<- hr]
 refine ⟨h.kind,h.wm,?_,?_,?_,?_⟩
 ·obtain ⟨n0,n1,mc,kr,mi,md,mr,mo⟩:=h.n;refine ⟨n0,n1,mc,kr,mi,md,mr,?_⟩;intro y hy hc;obtain ⟨z1,z2,z3⟩:=mo y hy hc;refine ⟨z1,z2,?_⟩;rcases z3 with z | z | ⟨g1,g2,g3,g4,_⟩
  ·exact .inl z
  ·exact .inr (.inl z)
  ·exact .inr (.inr ⟨g1,g2,g3,g4,fun _=>(hin y).2 g3⟩)
 ·obtain ⟨ms,pd,nw,ol,dr⟩:=h.e;refine ⟨ms,pd,nw,?_,?_⟩
  ·intro x s d hs hrd;rcases ol x s d hs hrd with z | ⟨z1,z2,_⟩
   ·exact .inl z
   ·exact .inr ⟨z1,z2,fun _=>(hin x).2 z1⟩
  ·intro hh;simp only at hh;rw [hm1] at hh; omega
 ·obtain ⟨us,ki,ou,ho,pw,sw,sc,sm,sz⟩:=h.o;refine ⟨us,ki,ou,ho,pw,?_,?_,?_,?_⟩
  ·intro x hx
   have:=(hin x).1 hx
   exact ⟨this,by simp only; rw [hc1]; exact (h.n.mr x this).2.2⟩
  ·simp only; rw [hc1]; exact ⟨Int.le_refl _,sc.2⟩
  ·simp only; rw [hm1]; omega
  ·intro hh; simp only at hh; rw [hm1] at hh; omega
 ·intro i t ht;have hT:=h.th i t ht;refine hT.swept (M':=P.mem) (r':=r1) ?_ (fun x _=>⟨rfl,rfl,fun _ _=>id⟩) (fun _ _=>rfl) (fun _ _ hh=>by rw [hm1] at hh; omega);intro x hx hs _ _;exact ⟨⟨rfl,rfl,fun _ _=>id⟩,hs.1,hs.2.1,fun hh=>by rw [hm1] at hh; omega⟩
theorem Inv.sweepLook (h : Inv C P) (hl : P.sweep.made - 1 < P.ts.length) (hs : (P.th (P.sweep.made - 1)).slot≠1) : Inv C { P with sweep:={ P.sweep.lookAt (P.th (P.sweep.made - 1)) with made:=P.sweep.made + 1 } }:=by
 have hu : P.ts[P.sweep.made - 1]? = some (P.th (P.sweep.made - 1)):=by
  simp [PSt.th,List.getElem?_eq_getElem hl]
 generalize P.th (P.sweep.made - 1) = u at *;have hret : (P.sweep.lookAt u).retired = P.sweep.retired:=by unfold PSweep.lookAt; split <;> rfl
 have hclk : (P.sweep.lookAt u).clock = P.sweep.clock:=by unfold PSweep.lookAt; split <;> rfl
 have hkeep : ∀ tm : Int,P.sweep.hasTime = true->P.sweep.time<=tm->(P.sweep.lookAt u).hasTime = true/\(P.sweep.lookAt u).time<=tm:=by
  intro tm h1 h2;unfold PSweep.lookAt;split
  ·refine ⟨rfl,?_⟩;simp only [h1];split
   ·next hh=>simp at hh; omega
   ·exact h2
  ·exact ⟨h1,h2⟩
 have hnote : u.slot = 2->(P.sweep.lookAt u).hasTime = true/\(P.sweep.lookAt u).time<=u.work.time:=by
  intro h2;unfold PSweep.lookAt;rw [if_pos h2];refine ⟨rfl,?_⟩;simp only;split
  ·exact Int.le_refl _
  ·next hh=>simp at hh; omega
 generalize hr : ({ P.sweep.lookAt u with made:=P.sweep.made + 1 } : PSweep) = r1 at *;have e1 : r1.made = P.sweep.made + 1:=by rw [<- hr]
 have e2 : r1.retired = P.sweep.retired:=by rw [<- hr]; exact hret
 have e3 : r1.clock = P.sweep.clock:=by rw [<- hr]; exact hclk
 have e4 : r1.hasTime = (P.sweep.lookAt u).hasTime:=by rw [<- hr]
 have e5 : r1.time = (P.sweep.lookAt u).time:=by rw [<- hr]
 have hin : ∀ x,InSw r1 x ↔ InSw P.sweep x:=fun x=>by unfold InSw; rw [e2]
 refine ⟨h.kind,h.wm,?_,?_,?_,?_⟩
 ·obtain ⟨n0,n1,mc,kr,mi,md,mr,mo⟩:=h.n;refine ⟨n0,n1,mc,kr,mi,md,mr,?_⟩;intro y hy hc;simp only [hin];exact mo y hy hc
 ·obtain ⟨ms,pd,nw,ol,dr⟩:=h.e;refine ⟨ms,pd,nw,?_,?_⟩
  ·intro x s d hs hrd;simp only [hin];exact ol x s d hs hrd
  ·intro hh;simp only at hh;rw [e1] at hh; omega
 ·obtain ⟨us,ki,ou,ho,pw,sw,sc,sm,sz⟩:=h.o;refine ⟨us,ki,ou,ho,pw,?_,?_,?_,?_⟩
  ·intro x hx;simp only; rw [e3];exact sw x ((hin x).1 hx)
  ·simp only; rw [e3]; exact sc
  ·simp only; rw [e1]; omega
  ·intro hh; simp only at hh; rw [e1] at hh; omega
 ·intro i t ht;have hT:=h.th i t ht;have key : t.busy = true->3<=t.work.next->i + 1 < r1.made->(i + 1 < P.sweep.made)\/(r1.hasTime = true/\r1.time<=t.work.time):=by
   intro b h3 hp;rw [e1] at hp;by_cases hq : i + 1 < P.sweep.made
   ·exact .inl hq
   ·right;have hi : i = P.sweep.made - 1:=by omega
    subst hi;rw [hu] at ht; injection ht with ht; subst ht
    rw [e4,e5];apply hnote
    have:=hT.sl
    rw [if_pos ⟨b,by omega⟩] at this;split at this
    ·exact absurd this hs
    ·exact this
  refine hT.swept (M':=P.mem) (r':=r1) ?_ (fun x _=>⟨rfl,rfl,fun _ _=>id⟩) (fun _ _=>rfl) ?_
  ·intro x hx hsf b h4;refine ⟨⟨rfl,rfl,fun _ _=>id⟩,hsf.1,hsf.2.1,fun hp=>?_⟩;rcases key b (by omega) hp with hq | hq
   ·rcases hsf.2.2 hq with ⟨z1,z2⟩ | ⟨z1,z2⟩
    ·left; rw [e4,e5]; exact hkeep _ z1 z2
    ·right; rw [e3,hin]; exact ⟨z1,z2⟩
   ·exact .inl hq
  ·intro b h3 hp;rcases key b h3 hp with hq | hq
   ·rcases (hT.tm b h3).2 hq with ⟨z1,z2⟩ | z
    ·left; rw [e4,e5]; exact hkeep _ z1 z2
    ·right; rw [e3]; exact z
   ·exact .inl hq
theorem Inv.sweepDrop (h : Inv C P) (hm : P.sweep.made = P.ts.length + 1) {e : Int} (he : e<=P.sweep.clock/\(P.sweep.hasTime = true->e<=P.sweep.time)) (he2 : e = P.sweep.clock\/(P.sweep.hasTime = true/\e = P.sweep.time)) : Inv C { P with mem:=P.mem.drop e,sweep:={ P.sweep with made:=P.sweep.made + 1 } }:=by
 obtain ⟨g1,g2,g3,g4⟩:=drop_ok h.wm e;have hnd:=node_ns g1;generalize P.mem.drop e = M1 at *;have hsub : ∀ x s d,Sd M1 x s d->Sd P.mem x s d:=fun x s d hs=>((g4 x s d).1 hs).1
 have hvd : ∀ x s s' d,Sd M1 x s d->s < s'->Vd P.mem P.ts x s'->Vd M1 P.ts x s':=by
  rintro x s s' d hs hlt (⟨d',hv⟩ | hv)
  ·left;have h1:=((g4 x s d).1 hs).2 s' d' hv hlt;exact ⟨d',(g4 x s' d').2 ⟨hv,fun s2 d2 _ hl hle=>by omega⟩⟩
  ·exact .inr hv
 refine ⟨h.kind,g2,?_,?_,?_,?_⟩
 ·obtain ⟨n0,n1,mc,kr,mi,md,mr,mo⟩:=h.n.same hnd (Int.le_refl _);exact ⟨n0,n1,mc,kr,mi,md,mr,mo⟩
 ·obtain ⟨ms,pd,nw,ol,dr⟩:=h.e;refine ⟨?_,?_,?_,?_,?_⟩
  ·intro x s d hs;simp only [Us,De,Lt,Ky,hnd];exact ms x s d (hsub x s d hs)
  ·intro x d hd;simp only [g3] at hd;exact pd x d hd
  ·intro x s d hs;simp only [Ld,hnd];rcases nw x s d (hsub x s d hs) with z | ⟨s',z1,z2⟩
   ·exact .inl z
   ·exact .inr ⟨s',z1,hvd x s s' d hs z1 z2⟩
  ·intro x s d hs hr;simp only [Re,Ra,hnd] at hr ⊢;rcases ol x s d (hsub x s d hs) hr with ⟨s',z1,z2,z3⟩ | z
   ·exact .inl ⟨s',z1,z2,hvd x s s' d hs z1 z3⟩
   ·exact .inr z
  ·intro _ x s d hs hin hf;simp only [Ra,hnd] at hf ⊢;have hin : InSw P.sweep d:=hin;have hf : P.sweep.hasTime = true->(P.mem.node d).retiredAt < P.sweep.time:=hf;obtain ⟨hr,hrc⟩:=h.o.sw d hin;rcases ol x s d (hsub x s d hs) hr with ⟨s',z1,z2,z3⟩ | ⟨_,z2,z3⟩
   ·exfalso;simp only [Ra] at z2 hrc;have hle : s'<=e:=by
     rcases he2 with q | ⟨q1,q2⟩
     ·omega
     ·have:=hf q1; omega
    rcases z3 with ⟨d',z3⟩ | ⟨j,u,hj,y1,y2,y3,y4,y5,y6⟩
    ·exact ((g4 x s d).1 hs).2 s' d' z3 z1 hle
    ·have hT:=h.th j u hj;have hjl:=(List.getElem?_eq_some_iff.1 hj).1;have hs9:=(hT.s9 y1 y3 y4).2.1;rw [y6] at hs9;rcases (hT.tm y1 (by omega)).2 (by omega) with ⟨q1,q2⟩ | q
     ·have:=hf q1; omega
     ·omega
   ·exact ⟨z3 hin,z2⟩
 ·obtain ⟨us,ki,ou,ho,pw,sw,sc,sm,sz⟩:=h.o;refine ⟨?_,?_,?_,?_,pw,?_,sc,?_,?_⟩
  ·simpa only [Us,De,hnd] using us
  ·simpa only [De,hnd] using ki
  ·simpa only [De,hnd] using ou
  ·simpa only [Us,Ho,hnd] using ho
  ·intro x hx; simp only [Re,Ra,hnd]; exact sw x hx
  ·simp only; omega
  ·intro hh; simp only at hh; omega
 ·intro i t ht;have hT:=h.th i t ht;have hil : i < P.ts.length:=(List.getElem?_eq_some_iff.1 ht).1;refine hT.swept ?_ (fun x _=>⟨hnd x,g3 x,fun s d=>hsub x s d⟩) (fun x _=>hnd x) (fun b h3 _=>(hT.tm b h3).2 (by omega));intro x hx hs _ _;refine ⟨⟨hnd x,g3 x,fun s d=>hsub x s d⟩,?_⟩;unfold Safe;simp only [Us,Re,Ra,hnd];exact ⟨hs.1,hs.2.1,fun _=>hs.2.2 (by omega)⟩
end
end
section
section
variable {C C' : Int->Prop} {M M' : PMem} {c c' : Int} {r r' : PSweep} {i j : Nat} {t t' : PThread} {ts : List PThread} {P : PSt} {x : Int} {k : PWork}
def Gone (M : PMem) (ht : Bool) (tm : Int) (l : List Nat) (x : Int) : Prop:=(∃ n ∈ l,((n : Nat) : Int) = x)/\(ht = true->Ra M x < tm)
theorem freesIf_ok (ht : Bool) (tm : Int) : ∀ (l : List Nat) (M : PMem),Wm M->(∀ n ∈ l,M.hasNode (n : Int) = true/\(n : Int)≠0/\(n : Int)≠1) ->
  Wm (M.freesIf ht tm l)/\(M.freesIf ht tm l).ns.length = M.ns.length/\(∀ x,(Gone M ht tm l x->(M.freesIf ht tm l).node x = PNode.zero/\Pd (M.freesIf ht tm l) x = []/\∀ s d,¬ Sd (M.freesIf ht tm l) x s d)/\(¬ Gone M ht tm l x->(M.freesIf ht tm l).node x = M.node x/\Pd (M.freesIf ht tm l) x = Pd M x/\∀ s d,Sd (M.freesIf ht tm l) x s d ↔ Sd M x s d))
 | [],M,hw,_=>⟨hw,rfl,fun x=>⟨fun h=>(by obtain ⟨n,hn,_⟩:=h.1; cases hn),fun _=>⟨rfl,rfl,fun _ _=>Iff.rfl⟩⟩⟩
 | n :: l,M,hw,hl=>by
  obtain ⟨h1,h2⟩:=hl n (by simp);unfold PMem.freesIf;by_cases hc : (!ht || decide ((M.node (n : Int)).retiredAt < tm)) = true
  ·rw [if_pos hc];have hc' : ht = true->Ra M n < tm:=by
    intro e; rw [e] at hc; simpa using hc
   obtain ⟨f1,f2,f3,f4,f5⟩:=free_e hw h1 h2;obtain ⟨i1,i2,i3⟩:=freesIf_ok ht tm l (M.free n) f2 (fun m hm=>by rw [hasN_len f1]; exact hl m (by simp [hm]));refine ⟨i1,by rw [i2,f1],fun x=>?_⟩;obtain ⟨a,b⟩:=i3 x;by_cases hx : x = (n : Int)
   ·have hg : Gone M ht tm (n :: l) x:=⟨⟨n,by simp,hx.symm⟩,by rw [hx]; exact hc'⟩;refine ⟨fun _=>?_,fun h=>absurd hg h⟩;by_cases hG : Gone (M.free n) ht tm l x
    ·exact a hG
    ·obtain ⟨b1,b2,b3⟩:=b hG;rw [b1,b2,f3,f4,if_pos hx,if_pos hx];exact ⟨rfl,rfl,fun s d hs=>((f5 x s d).1 ((b3 s d).1 hs)).1 hx⟩
   ·have hiff : Gone (M.free n) ht tm l x ↔ Gone M ht tm (n :: l) x:=by
     unfold Gone;have : Ra (M.free n) x = Ra M x:=by simp only [Ra]; rw [f3,if_neg hx]
     rw [this];refine and_congr ⟨?_,?_⟩ Iff.rfl
     ·rintro ⟨m,hm,e⟩; exact ⟨m,by simp [hm],e⟩
     ·rintro ⟨m,hm,e⟩;rcases List.mem_cons.1 hm with rfl | hm
      ·exact absurd e.symm hx
      ·exact ⟨m,hm,e⟩
    refine ⟨fun h=>a (hiff.2 h),fun h=>?_⟩;obtain ⟨b1,b2,b3⟩:=b (fun hh=>h (hiff.1 hh));rw [b1,b2,f3,f4,if_neg hx,if_neg hx];exact ⟨rfl,rfl,fun s d=>by rw [b3,f5]; exact ⟨fun h=>h.2,fun h=>⟨hx,h⟩⟩⟩
  ·rw [if_neg hc];obtain ⟨i1,i2,i3⟩:=freesIf_ok ht tm l M hw (fun m hm=>hl m (by simp [hm]));refine ⟨i1,i2,fun x=>?_⟩;have hiff : Gone M ht tm l x ↔ Gone M ht tm (n :: l) x:=by
    constructor
    ·rintro ⟨⟨m,hm,e⟩,h⟩; exact ⟨⟨m,by simp [hm],e⟩,h⟩
    ·rintro ⟨⟨m,hm,e⟩,h⟩;rcases List.mem_cons.1 hm with rfl | hm
     ·exfalso;apply hc;cases hh : ht
      ·rfl
      ·have:=h hh
       rw [<- e] at this;simpa using this
     ·exact ⟨⟨m,hm,e⟩,h⟩
   rw [<- hiff]; exact i3 x
theorem Inv.sweepFree (h : Inv C P) (hm : P.sweep.made = P.ts.length + 2) : Inv C { P with mem:=P.mem.freesIf P.sweep.hasTime P.sweep.time P.sweep.retired,sweep:=PSweep.zero }:=by
 have hre : ∀ x,InSw P.sweep x->Re P.mem x/\De P.mem x/\¬ C x/\x≠0/\x≠1:=by
  intro x hx;have h1:=(h.o.sw x hx).1;obtain ⟨h2,h3,_⟩:=h.n.mr x h1;refine ⟨h1,h2,h3,?_,?_⟩
  ·rintro rfl; exact h3 h.n.a0.1
  ·rintro rfl; simp only [De] at h2; rw [h.n.a1.2.2.2.1] at h2; cases h2
 obtain ⟨g1,g2,g3⟩:=freesIf_ok P.sweep.hasTime P.sweep.time P.sweep.retired P.mem h.wm (by
  intro n hn;obtain ⟨_,h2,_,h4,h5⟩:=hre (n : Int) ⟨n,hn,rfl⟩;exact ⟨hasN_used (h.n.md _ h2).1,h4,h5⟩)
 generalize P.mem.freesIf P.sweep.hasTime P.sweep.time P.sweep.retired = M1 at *;have fr : ∀ x,Gone P.mem P.sweep.hasTime P.sweep.time P.sweep.retired x->Re P.mem x/\De P.mem x/\¬ C x/\x≠0/\x≠1/\InSw P.sweep x:=fun x hx=>by
  obtain ⟨a,b,c,d,e⟩:=hre x hx.1;exact ⟨a,b,c,d,e,hx.1⟩
 generalize hF : Gone P.mem P.sweep.hasTime P.sweep.time P.sweep.retired = F at *;have hFi : ∀ x,InSw P.sweep x->(P.sweep.hasTime = true->Ra P.mem x < P.sweep.time)->F x:=fun x h1 h2=>by rw [<- hF]; exact ⟨h1,h2⟩
 have hFt : ∀ x,F x->(P.sweep.hasTime = true->Ra P.mem x < P.sweep.time):=fun x hx=>by rw [<- hF] at hx; exact hx.2
 have e0 : ∀ x,¬ F x->M1.node x = P.mem.node x:=fun x hx=>((g3 x).2 hx).1
 have ez : ∀ x,F x->M1.node x = PNode.zero:=fun x hx=>((g3 x).1 hx).1
 have nU : ∀ x,Us M1 x->¬ F x/\Us P.mem x:=by
  intro x hx;by_cases hf : F x
  ·simp only [Us] at hx; rw [ez x hf] at hx; exact nomatch hx
  ·exact ⟨hf,by simp only [Us] at hx ⊢; rw [e0 x hf] at hx; exact hx⟩
 have nD : ∀ x,De M1 x->¬ F x/\De P.mem x:=by
  intro x hx;by_cases hf : F x
  ·simp only [De] at hx; rw [ez x hf] at hx; exact nomatch hx
  ·exact ⟨hf,by simp only [De] at hx ⊢; rw [e0 x hf] at hx; exact hx⟩
 have nR : ∀ x,Re M1 x->¬ F x/\Re P.mem x:=by
  intro x hx;by_cases hf : F x
  ·simp only [Re] at hx; rw [ez x hf] at hx; exact nomatch hx
  ·exact ⟨hf,by simp only [Re] at hx ⊢; rw [e0 x hf] at hx; exact hx⟩
 have nC : ∀ x,C x->¬ F x:=fun x hc hf=>(fr x hf).2.2.1 hc
 have n1' : ¬ F 1:=fun hf=>(fr 1 hf).2.2.2.2.1 rfl
 have nS : ∀ x s d,Sd M1 x s d->¬ F x/\Sd P.mem x s d:=by
  intro x s d hs;by_cases hf : F x
  ·exact absurd hs (((g3 x).1 hf).2.2 s d)
  ·exact ⟨hf,((((g3 x).2 hf).2.2) s d).1 hs⟩
 have nSd : ∀ x s d,¬ F x->Sd P.mem x s d->¬ F d:=by
  intro x s d hx hs hf;obtain ⟨q1,q2,q3,q4,q5,q6⟩:=fr d hf;obtain ⟨z1,z2⟩:=h.e.dr hm x s d hs q6 (hFt d hf);exact hx (hFi x z1 (fun e=>by have:=hFt d hf e; omega))
 have nL : ∀ y,De P.mem y->¬ C y->¬ F y->¬ F (Ld P.mem y):=by
  intro y hy hc hf hg;obtain ⟨q1,q2,q3,q4,q5,q6⟩:=fr _ hg;obtain ⟨_,_,z⟩:=h.n.mo y hy hc;rcases z with z | z | ⟨_,_,z3,z4,z5⟩
  ·exact q5 z
  ·exact q3 z
  ·have h1:=z4 q1;exact hf (hFi y (z5 q6) (fun e=>by have:=hFt _ hg e; omega))
 have hsd : ∀ x s d,¬ F x->Sd P.mem x s d->Sd M1 x s d:=fun x s d hx hs=>((((g3 x).2 hx).2.2) s d).2 hs
 have hvd : ∀ x s,¬ F x->Vd P.mem P.ts x s->Vd M1 P.ts x s:=by
  rintro x s hx (⟨d,hv⟩ | hv)
  ·exact .inl ⟨d,hsd x s d hx hv⟩
  ·exact .inr hv
 have hz : ∀ x,¬ InSw PSweep.zero x:=by rintro x ⟨n,hn,_⟩; cases hn
 refine ⟨h.kind,g1,?_,?_,?_,?_⟩
 ·obtain ⟨n0,n1,mc,kr,mi,md,mr,mo⟩:=h.n;refine ⟨?_,?_,?_,?_,?_,?_,?_,?_⟩
  ·rw [e0 0 (nC 0 n0.1)]; exact n0
  ·simp only [Us,Ky]; rw [e0 1 n1']; exact n1
  ·intro x hx;obtain ⟨z1,z2,z3,z4,z5,z6⟩:=mc x hx;have hl : ¬ F (Ld P.mem x):=by rcases z4 with z | z; rw [z]; exact n1'; exact nC _ z
   simp only [Us,Ld,Lt,Ky] at *;rw [e0 x (nC x hx),e0 _ hl];exact ⟨z1,z2,z3,z4,z5,z6⟩
  ·intro x hx h0 h1;obtain ⟨q1,q2⟩:=nU x hx;simp only [Ky]; rw [e0 x q1]; exact kr x q2 h0 h1
  ·intro x y hx hy he;simp only [Ld] at he;rw [e0 x (nC x hx),e0 y (nC y hy)] at he;exact mi x y hx hy he
  ·intro x hx;obtain ⟨q1,q2⟩:=nD x hx;simp only [Us]; rw [e0 x q1]; exact md x q2
  ·intro x hx;obtain ⟨q1,q2⟩:=nR x hx;simp only [De,Ra]; rw [e0 x q1]; exact mr x q2
  ·intro y hy hc;obtain ⟨q1,q2⟩:=nD y hy;obtain ⟨z1,z2,z3⟩:=mo y q2 hc;have hl:=nL y q2 hc q1;simp only [Ld,Ky,De,Re,Ra] at *;rw [e0 y q1,e0 _ hl];refine ⟨z1,z2,?_⟩;rcases z3 with z | z | ⟨y1,y2,y3,y4,_⟩
   ·exact .inl z
   ·exact .inr (.inl z)
   ·exact .inr (.inr ⟨y1,y2,y3,y4,fun hh=>absurd hh (hz _)⟩)
 ·obtain ⟨ms,pd,nw,ol,dr⟩:=h.e;refine ⟨?_,?_,?_,?_,?_⟩
  ·intro x s d hs;obtain ⟨q1,q2⟩:=nS x s d hs;simp only [Us,De,Lt,Ky];rw [e0 x q1,e0 d (nSd x s d q1 q2)];exact ms x s d q2
  ·intro x d hd;by_cases hf : F x
   ·simp only at hd; rw [((g3 x).1 hf).2.1] at hd; cases hd
   ·simp only at hd; rw [((g3 x).2 hf).2.1] at hd; exact pd x d hd
  ·intro x s d hs;obtain ⟨q1,q2⟩:=nS x s d hs;simp only [Ld];rw [e0 x q1];rcases nw x s d q2 with z | ⟨s',z1,z2⟩
   ·exact .inl z
   ·exact .inr ⟨s',z1,hvd x s' q1 z2⟩
  ·intro x s d hs hr;obtain ⟨q1,q2⟩:=nS x s d hs;obtain ⟨r1,r2⟩:=nR d hr;simp only [Re,Ra];rw [e0 x q1,e0 d r1];rcases ol x s d q2 r2 with ⟨s',z1,z2,z3⟩ | ⟨z1,z2,_⟩
   ·exact .inl ⟨s',z1,z2,hvd x s' q1 z3⟩
   ·exact .inr ⟨z1,z2,fun hh=>absurd hh (hz _)⟩
  ·intro hh;have : (0 : Nat) = P.ts.length + 2:=hh;omega
 ·obtain ⟨us,ki,ou,ho,pw,sw,sc,sm,sz⟩:=h.o;refine ⟨?_,?_,?_,?_,pw,?_,?_,?_,?_⟩
  ·intro x hx;obtain ⟨q1,q2⟩:=nU x hx;simp only [De]; rw [e0 x q1]; exact us x q2
  ·intro x hx hC;exact ki x (nD x hx).2 hC
  ·intro x hx hC hr;obtain ⟨q1,q2⟩:=nD x hx;rw [e0 x q1] at hr;exact ou x q2 hC hr
  ·intro x hx;obtain ⟨q1,q2⟩:=nU x hx;simp only [Ho]; rw [e0 x q1]; exact ho x q2
  ·intro x hx; exact absurd hx (hz x)
  ·exact ⟨sc.2,sc.2⟩
  ·show 0<=_; omega
  ·intro _; exact ⟨rfl,rfl⟩
 ·intro i t ht;have hT:=h.th i t ht;have hil : i < P.ts.length:=(List.getElem?_eq_some_iff.1 ht).1;have hno : ∀ {p : Prop},i + 1 < PSweep.zero.made->p:=fun hh=>by have : i + 1 < 0:=hh; omega
  refine hT.swept ?_ ?_ (fun x hx=>e0 x (nU x hx).1) (fun _ _ hh=>hno hh)
  ·intro x hx hs _ _;have hf : ¬ F x:=by
    intro hf;obtain ⟨q1,_,_,_,_,q6⟩:=fr x hf;have h1:=hs.2.1 q1;rcases hs.2.2 (by omega) with ⟨z1,z2⟩ | ⟨_,z2⟩
    ·have:=hFt x hf z1; omega
    ·exact z2 q6
   obtain ⟨b1,b2,b3⟩:=(g3 x).2 hf;refine ⟨⟨b1,b2,fun s d=>(b3 s d).1⟩,?_⟩;unfold Safe;simp only [Us,Re,Ra];rw [b1];exact ⟨hs.1,hs.2.1,fun hh=>hno hh⟩
  ·intro x hx;have hf : ¬ F x:=by
    intro hf;obtain ⟨_,q2,_⟩:=fr x hf;obtain ⟨y1,y2,y3,y4⟩:=hx;obtain ⟨n,f1,_,_,_,_,f6,_⟩:=hT.f8 y1 y2 y3;rw [mem_one f1 y4] at q2;simp only [De] at q2; rw [f6] at q2; cases q2
   obtain ⟨b1,b2,b3⟩:=(g3 x).2 hf;exact ⟨b1,b2,fun s d=>(b3 s d).1⟩
theorem Inv.sweep (h : Inv C P) : Inv C P.doSweep.1:=by
 unfold PSt.doSweep;simp only;split
 ·exact h.sweep0
 ·next hm =>
  split
  ·next hl =>
   split
   ·exact h
   ·next hs=>exact h.sweepLook hl hs
  ·next hl =>
   split
   ·next he =>
    refine h.sweepDrop (by omega) ?_ ?_
    ·split
     ·next hh=>simp at hh; exact ⟨by omega,fun _=>Int.le_refl _⟩
     ·next hh =>
      refine ⟨Int.le_refl _,fun e=>?_⟩;simp [e] at hh; exact hh
    ·split
     ·next hh=>simp at hh; exact .inr ⟨hh.1,rfl⟩
     ·exact .inl rfl
   ·next he =>
    have:=h.o.sm
    exact h.sweepFree (by omega)
end
end
section
def Nk (M M' : PMem) (x : Int) : Prop:=(Ky M' x = Ky M x/\(M'.node x).value = (M.node x).value)/\(De M x->De M' x)
def Nl (M M' : PMem) (x : Int) : Prop:=Nk M M' x/\Ld M' x = Ld M x
section
variable {C C' : Int->Prop} {M M' M2 : PMem} {c c' : Int} {r r' : PSweep} {i j : Nat} {t t' : PThread} {ts : List PThread} {P : PSt} {x : Int} {k : PWork}
theorem Nl.refl (M : PMem) (x : Int) : Nl M M x:=⟨⟨⟨rfl,rfl⟩,id⟩,rfl⟩
theorem Nl.trans (h : Nl M M' x) (g : Nl M' M2 x) : Nl M M2 x:=⟨⟨⟨g.1.1.1.trans h.1.1.1,g.1.1.2.trans h.1.1.2⟩,fun d=>g.1.2 (h.1.2 d)⟩,g.2.trans h.2⟩
theorem nl_node (h : M'.node x = M.node x) : Nl M M' x:=by unfold Nl Nk Ky De Ld; rw [h]; exact ⟨⟨⟨rfl,rfl⟩,id⟩,rfl⟩
theorem nl_ns (h : M'.ns = M.ns) (x : Int) : Nl M M' x:=nl_node (node_ns h x)
theorem nl_modN (M : PMem) (n : Int) (f : PNode->PNode) (hf : ∀ e,((f e).key = e.key/\(f e).value = e.value)/\(e.dead = true->(f e).dead = true)/\(f e).leads = e.leads) (x : Int) : Nl M (M.modN n f) x:=by
 by_cases hn : M.hasNode n = true
 ·have:=node_modN hn f x
  by_cases e : x = n
  ·subst e;rw [if_pos rfl] at this;unfold Nl Nk Ky De Ld;rw [this];obtain ⟨h1,h2,h3⟩:=hf (M.node x);exact ⟨⟨h1,h2⟩,by rw [h3]⟩
  ·rw [if_neg e] at this; exact nl_node this
 ·have : M.modN n f = M:=by unfold PMem.modN; rw [if_neg hn]
  rw [this]; exact Nl.refl _ _
theorem nk_lead (M : PMem) (n : Int) (s : Bool) (x : Int) : Nk M (M.lead n s) x:=by
 unfold PMem.lead;split
 ·generalize (M.ent (M.pending n s)).dst = d;by_cases hn : M.hasNode n = true
  ·have:=node_modN hn (fun x=>{ x with leads:=upd x.leads s d }) x
   by_cases e : x = n
   ·subst e;rw [if_pos rfl] at this;unfold Nk Ky De;rw [this];exact ⟨⟨rfl,rfl⟩,id⟩
   ·rw [if_neg e] at this; exact (nl_node this).1
  ·have : ∀ f,M.modN n f = M:=fun f=>by unfold PMem.modN; rw [if_neg hn]
   rw [this]; exact (Nl.refl _ _).1
 ·exact (Nl.refl _ _).1
theorem nl_unlock (M : PMem) (t x : Int) : Nl M (M.unlock t) x:=by
 unfold Nl Nk Ky De Ld;rw [unlock_node];unfold unlocked;split <;> exact ⟨⟨⟨rfl,rfl⟩,id⟩,rfl⟩
theorem pend_ns (M : PMem) (n : Int) (s : Bool) (to : Int) : (M.pend n s to).ns = M.ns:=by unfold PMem.pend; split <;> rfl
theorem unpend_ns (M : PMem) (n : Int) (s : Bool) : (M.unpend n s).ns = M.ns:=by unfold PMem.unpend; split <;> rfl
theorem stamp_ns (M : PMem) (n : Int) (s : Bool) (st : Int) : (M.stamp n s st).ns = M.ns:=by unfold PMem.stamp; split <;> rfl
theorem stampsNew_ns (st : Int) : ∀ (l : List Int) (M : PMem),(M.stampsNew st l).ns = M.ns
 | [],_=>rfl
 | n :: l,M=>by
  show ((M.stampNew n st).stampsNew st l).ns = _;rw [stampsNew_ns st l];unfold PMem.stampNew;rw [stamp_ns,stamp_ns]
theorem Inv.keeps (h : Inv C P) (ht : P.ts[i]? = some t) (hb : t.busy = true) (x : Int) (hx : x = 1\/Gd P.mem C x) : Nk P.mem (P.step i t).1.mem x/\(t.work.next≠10->Nl P.mem (P.step i t).1.mem x):=by
 suffices hs : (t.work.next = 10->Nk P.mem (P.step i t).1.mem x)/\(t.work.next≠10->Nl P.mem (P.step i t).1.mem x) by
  by_cases hn : t.work.next = 10
  ·exact ⟨hs.1 hn,hs.2⟩
  ·exact ⟨(hs.2 hn).1,hs.2⟩
 have hT:=h.th i t ht;have hnx:=hT.nx hb;have hkd:=hT.kd hb;have hrd:=hT.rd hb;have hux:=h.gdUs hx;rcases (show t.work.next = 1\/t.work.next = 2\/t.work.next = 3\/t.work.next = 13\/(4<=t.work.next/\t.work.next<=12) by omega) with hn | hn | hn | hn | hn
 ·refine ⟨fun e=>by omega,fun _=>?_⟩;unfold PSt.step; simp only [hn]; exact Nl.refl _ _
 ·refine ⟨fun e=>by omega,fun _=>?_⟩;unfold PSt.step; simp only [hn]; exact Nl.refl _ _
 ·refine ⟨fun e=>by omega,fun _=>?_⟩;unfold PSt.step; simp only [hn]; exact Nl.refl _ _
 ·refine ⟨fun e=>by omega,fun _=>?_⟩;unfold PSt.step; simp only [hn]; exact Nl.refl _ _
 ·have hs : P.step i t = if t.work.kind = 3\/t.work.kind = 4 then P.read i t.work else P.update i t.work:=by
   unfold PSt.step;split <;> first | (rename_i hh; omega) | rfl
  rw [hs];by_cases hk : t.work.kind = 3\/t.work.kind = 4
  ·rw [if_pos hk]
   have:=hrd hk
   refine ⟨fun e=>by omega,fun _=>?_⟩;unfold PSt.read;simp only;split <;> exact Nl.refl _ _
  ·rw [if_neg hk];have hk : t.work.kind = 1\/t.work.kind = 2:=by omega
   unfold PSt.update;rcases (show t.work.next = 4\/t.work.next = 5\/t.work.next = 6\/t.work.next = 7\/t.work.next = 8\/t.work.next = 9\/t.work.next = 10\/t.work.next = 11\/t.work.next = 12 by omega) with hn | hn | hn | hn | hn | hn | hn | hn | hn
   ·refine ⟨fun e=>by omega,fun _=>?_⟩;simp only [hn]; exact Nl.refl _ _
   ·refine ⟨fun e=>by omega,fun _=>?_⟩;simp only [hn];rcases h.lock ht hb hn with ⟨_,q,_⟩ | ⟨_,q⟩
    ·rw [q];show Nl P.mem (P.mem.modN (lockNext t.work) fun x=>{ x with holder:=(i : Int) }) x;exact nl_modN _ _ (fun x=>{ x with holder:=(i : Int) }) (fun e=>⟨⟨rfl,rfl⟩,id,rfl⟩) x
    ·rw [q]; exact Nl.refl _ _
   ·refine ⟨fun e=>by omega,fun _=>?_⟩;simp only [hn];unfold PSt.check;split
    ·show Nl P.mem (P.mem.unlock i) x;exact nl_unlock _ _ _
    ·split <;> (show Nl P.mem P.mem x; exact Nl.refl _ _)
   ·refine ⟨fun e=>by omega,fun _=>?_⟩;simp only [hn];unfold PSt.prepare;split
    ·exact Nl.refl _ _
    ·next hroom =>
     rcases hk with hk | hk
     ·have hne : P.needs t.work.kind = (1,2):=by unfold PSt.needs; rw [hk,if_neg (by decide),if_neg (by rw [h.kind]; decide)]
      rw [hne] at hroom;simp only [hk,if_true];obtain ⟨n,M1,q1,q2,_,q4,_⟩:=h.grown ht hb hn (by simp only at hroom; omega) (by simp only at hroom; omega);rw [q2];refine nl_node ?_;show M1.node x = _;rw [q4,if_neg (show ¬ x = n from fun e=>q1 (e ▸ hux))]
     ·simp only [hk,show ¬ ((2 : Int) = 1) by decide,if_false];refine nl_ns ?_ x;show (P.prepareRemove t.work).1.ns = _;unfold PSt.prepareRemove;simp only [if_pos h.kind];exact pend_ns _ _ _ _
   ·refine ⟨fun e=>by omega,fun _=>?_⟩;simp only [hn];unfold PSt.take;split
    ·rcases hk with hk | hk
     ·obtain ⟨n,f1,f2,f3,f4,f5,f6,f7,f8,f9,f10,f11⟩:=hT.f8 hb hk (.inl hn);obtain ⟨t1,t2⟩:=hT.ts hb (by omega) (by omega);obtain ⟨u1,u2,u3,u4⟩:=unpend_e h.wm f10;have hnd:=node_ns u1;obtain ⟨_,_,v3,_,_⟩:=free_e (n:=n) u2 (hasN_used (by rw [hnd]; exact f4)) ⟨f2,f3⟩;refine nl_node ?_;show ((P.mem.unpend t.work.tsrc t.work.tside).frees t.work.made).node x = _;rw [t1,t2,f1];show ((P.mem.unpend t.work.stand false).free n).node x = _;rw [v3,if_neg,hnd];rintro rfl;rcases hx with q | q | q
      ·exact f3 q
      ·exact f5 q
      ·simp only [De] at q; rw [f6] at q; cases q
     ·refine nl_ns ?_ x;show ((P.mem.unpend t.work.tsrc t.work.tside).frees t.work.made).ns = _;rw [(hT.p2 hb hk (by omega) (by omega)).2];exact unpend_ns _ _ _
    ·split
     ·exact Nl.refl _ _
     ·exact nl_ns (stampsNew_ns _ _ _) x
   ·refine ⟨fun e=>by omega,fun _=>?_⟩;simp only [hn];have hto : P.mem.kills (P.takenOut t.work) = P.mem.modN t.work.ahead fun x=>{ x with dead:=true }:=by
     unfold PSt.takenOut;rw [if_neg (by rw [h.kind]; decide)]; rfl
    rw [hto];show Nl P.mem (P.mem.modN t.work.ahead fun x=>{ x with dead:=true }) x;exact nl_modN _ _ (fun x=>{ x with dead:=true }) (fun e=>⟨⟨rfl,rfl⟩,fun _=>rfl,rfl⟩) x
   ·refine ⟨fun _=>?_,fun e=>absurd hn e⟩;simp only [hn];show Nk P.mem (P.mem.lead t.work.tsrc t.work.tside) x;exact nk_lead _ _ _ _
   ·refine ⟨fun e=>by omega,fun _=>?_⟩;simp only [hn];show Nl P.mem (P.mem.stamp t.work.tsrc t.work.tside t.work.ans.stamp) x;exact nl_ns (stamp_ns _ _ _ _) x
   ·refine ⟨fun e=>by omega,fun _=>?_⟩;simp only [hn];unfold PSt.unlock;simp only;split
    ·have hre : (P.mem.unlock i).retires P.clock (P.takenOut t.work) = (P.mem.unlock i).modN t.work.ahead fun x=>{ x with retired:=true,retiredAt:=P.clock }:=by
      unfold PSt.takenOut;rw [if_neg (by rw [h.kind]; decide)]; rfl
     rw [hre];show Nl P.mem ((P.mem.unlock i).modN t.work.ahead fun x=>{ x with retired:=true,retiredAt:=P.clock }) x;exact (nl_unlock _ _ _).trans (nl_modN _ _ (fun x=>{ x with retired:=true,retiredAt:=P.clock }) (fun e=>⟨⟨rfl,rfl⟩,id,rfl⟩) x)
    ·show Nl P.mem (P.mem.unlock i) x;exact nl_unlock _ _ _
end
end
end Go.Proofs.YtfccelbmacjifaaGreat
