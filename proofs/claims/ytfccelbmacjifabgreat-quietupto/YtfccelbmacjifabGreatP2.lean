import Derived.Test.YtfccelbmacjifabGreatP0
import Derived.Test.YtfccelbmacjifabGreatP1
set_option linter.unusedSimpArgs false
set_option maxRecDepth 100000
set_option maxHeartbeats 4000000
namespace Go.Proofs.YtfccelbmacjifabGreat
section
section
variable {C C' : Int->Prop} {M M' : PMem} {c c' : Int} {r : PSweep} {i j : Nat} {t t' : PThread} {ts : List PThread} {P : PSt}
theorem wl_pos (M : PMem) (k : PWork) : 1<=wl M k/\wl M k<=2:=by unfold wl; split <;> omega
theorem Th.mid (h : Th C M c r i t) (hb : t.busy = true) (hl : 0 < t.work.locks) : 5<=t.work.next/\t.work.next<=12/\(t.work.kind = 1\/t.work.kind = 2):=by
 have h1:=h.nx hb;have h2:=h.l4 hb;have h3:=h.kd hb;have h4:=h.rd hb;refine ⟨?_,?_,?_⟩
 ·rcases Nat.lt_or_ge t.work.next 5 with h5 | h5
  ·have:=h2 (.inl (by omega)); omega
  ·exact h5
 ·rcases Nat.lt_or_ge t.work.next 13 with h5 | h5
  ·omega
  ·have:=h2 (.inr (by omega)); omega
 ·rcases h3 with h3 | h3 | h3
  ·exact .inl h3
  ·exact .inr h3
  ·have:=h2 (h4 h3); omega
theorem Th.heldUs (h : Th C M c r i t) (hb : t.busy = true) {x : Int} (hx : x ∈ [t.work.stand,t.work.ahead].take t.work.locks) : Us M x/\(x = 1\/Gd M C x)/\0 < t.work.locks/\(x = t.work.stand\/x = t.work.ahead):=by
 have hl : 0 < t.work.locks:=by
  rcases Nat.eq_zero_or_pos t.work.locks with h0 | h0
  ·rw [h0] at hx; simp at hx
  ·exact h0
 obtain ⟨h1,h2,h3⟩:=h.mid hb hl;have hx' : x = t.work.stand\/x = t.work.ahead:=by
  have:=List.mem_of_mem_take hx
  simpa using this
 rcases hx' with rfl | rfl
 ·have:=h.xs hb (by omega) (by omega) h2
  exact ⟨this.2.1.1,.inr this.1,hl,.inl rfl⟩
 ·have:=h.cs hb h1 h2
  exact ⟨this.2.1.1,this.1,hl,.inr rfl⟩
theorem Th.hStand (h : Th C M c r i t) (hb : t.busy = true) (h6 : 6<=t.work.next) (h12 : t.work.next<=12) : Us M t.work.stand/\Ho M t.work.stand = i:=by
 have hl:=h.l6 hb h6 h12;have hw:=wl_pos M t.work;have hm : t.work.stand ∈ [t.work.stand,t.work.ahead].take t.work.locks:=by
  rcases (show t.work.locks = 1\/t.work.locks = 2 by omega) with e | e <;> rw [e] <;> simp
 have hu:=(h.heldUs hb hm).1;exact ⟨hu,(h.hd _ hu).2 ⟨hb,hm⟩⟩
theorem Th.hAhead (h : Th C M c r i t) (hb : t.busy = true) (h6 : 6<=t.work.next) (h12 : t.work.next<=12) (hk : t.work.kind = 2) (hk2 : Ky M t.work.ahead = t.work.key) : Us M t.work.ahead/\Ho M t.work.ahead = i:=by
 have hl:=h.l6 hb h6 h12;have hw : wl M t.work = 2:=by unfold wl; rw [if_pos ⟨hk,hk2⟩]
 have hm : t.work.ahead ∈ [t.work.stand,t.work.ahead].take t.work.locks:=by
  rw [hl,hw]; simp
 have hu:=(h.heldUs hb hm).1;exact ⟨hu,(h.hd _ hu).2 ⟨hb,hm⟩⟩
theorem Safe.rely {time x : Int} (h : Safe M r i time x) (hc : time<=c) (hu : Us M' x) (hr : Re M' x->(Re M x/\Ra M' x = Ra M x)\/c<=Ra M' x) : Safe M' r i time x:=by
 refine ⟨hu,?_,h.2.2⟩;intro h1;rcases hr h1 with ⟨h2,h3⟩ | h2
 ·rw [h3]; exact h.2.1 h2
 ·omega
theorem Th.rely (h : Th C M c r j t) (hcc : c<=c')
  (ha : ∀ x,x = 1\/Gd M C x->Us M' x/\Ky M' x = Ky M x/\(Gd M C x->Gd M' C' x)/\(Re M' x->(Re M x/\Ra M' x = Ra M x)\/c<=Ra M' x))
  (hb : ∀ x,Us M x->(Ho M x = j\/Fresh x t)->M'.node x = M.node x/\Pd M' x = Pd M x/\(∀ s d,Sd M' x s d->Sd M x s d)/\(C' x ↔ C x))
  (hc : ∀ x,Us M' x->(Ho M' x = j ↔ Us M x/\Ho M x = j)) : Th C' M' c' r j t:=by
 have hw : t.busy = true->5<=t.work.next->t.work.next<=12->wl M' t.work = wl M t.work:=by
  intro b h5 h12
  have:=(ha _ (h.cs b h5 h12).1).2.1
  unfold wl; rw [this]
 have hst : t.busy = true->6<=t.work.next->t.work.next<=12->M'.node t.work.stand = M.node t.work.stand/\Pd M' t.work.stand = Pd M t.work.stand/\(∀ s d,Sd M' t.work.stand s d->Sd M t.work.stand s d)/\(C' t.work.stand ↔ C t.work.stand):=by
  intro b h6 h12;obtain ⟨h1,h2⟩:=h.hStand b h6 h12;exact hb _ h1 (.inl h2)
 have hah : t.busy = true->6<=t.work.next->t.work.next<=12->t.work.kind = 2->Ky M t.work.ahead = t.work.key->M'.node t.work.ahead = M.node t.work.ahead/\Pd M' t.work.ahead = Pd M t.work.ahead/\(∀ s d,Sd M' t.work.ahead s d->Sd M t.work.ahead s d)/\(C' t.work.ahead ↔ C t.work.ahead):=by
  intro b h6 h12 hk hk2;obtain ⟨h1,h2⟩:=h.hAhead b h6 h12 hk hk2;exact hb _ h1 (.inl h2)
 refine ⟨h.kd,h.nx,h.rd,h.sl,?_,?_,h.l4,?_,?_,h.ky,h.hi,h.lk,?_,?_,?_,h.m7,?_,?_,?_,?_,h.n9,?_,h.ts,?_,?_,?_,?_,h.l3⟩
 ·intro b h3; have:=h.tm b h3; exact ⟨by omega,this.2⟩
 ·intro x hu;rw [hc x hu];constructor
  ·rintro ⟨h1,h2⟩; exact (h.hd x h1).1 h2
  ·rintro ⟨h1,h2⟩
   have:=(h.heldUs h1 h2).1
   exact ⟨this,(h.hd x this).2 ⟨h1,h2⟩⟩
 ·intro b h5; rw [hw b (by omega) (by omega)]; exact h.l5 b h5
 ·intro b h6 h12; rw [hw b (by omega) h12]; exact h.l6 b h6 h12
 ·intro b h4 h5 h6;obtain ⟨h1,h2,h3⟩:=h.xs b h4 h5 h6;obtain ⟨g1,g2,g3,g4⟩:=ha _ (.inr h1);exact ⟨g3 h1,h2.rely (h.tm b (by omega)).1 g1 g4,by rw [g2]; exact h3⟩
 ·intro b h4 h5;obtain ⟨x,h0,h1,h2⟩:=h.xl b h4 h5;obtain ⟨g1,g2,g3,g4⟩:=ha _ (.inr h1);exact ⟨x,h0,g3 h1,h2.rely (h.tm b (by omega)).1 g1 g4⟩
 ·intro b h5 h6;obtain ⟨h1,h2,h3,h4⟩:=h.cs b h5 h6;obtain ⟨g1,g2,g3,g4⟩:=ha _ h1;exact ⟨h1.imp id g3,h2.rely (h.tm b (by omega)).1 g1 g4,h3,by rw [g2]; exact h4⟩
 ·intro b h5 h6;obtain ⟨h1,h2,h3⟩:=h.c7 b h5 h6;obtain ⟨g1,_,_,g4⟩:=hst b (by omega) (by omega)
  have:=(ha _ (h.cs b (by omega) (by omega)).1).2.1
  exact ⟨g4.2 h1,by rw [g1]; exact h2,by rw [this]; exact h3⟩
 ·intro b h5 h6
  have:=(hst b (by omega) (by omega)).1
  show (M'.node t.work.stand).leads false = _;rw [this]; exact h.c10 b h5 h6
 ·intro b hk h5 h6
  have:=(hah b (by omega) (by omega) hk ((h.c7 b (by omega) (by omega)).2.2.2 hk)).1
  rw [this]; exact h.d9 b hk h5 h6
 ·intro b hk h5
  have:=(hah b (by omega) (by omega) hk ((h.c7 b (by omega) (by omega)).2.2.2 hk)).1
  show (M'.node t.work.ahead).dead = true;rw [this]; exact h.d10 b hk h5
 ·intro ho;obtain ⟨q1,q2,q3,q4,q5,q6⟩:=h.ot ho;obtain ⟨b,hk,hn,_⟩:=ho;obtain ⟨g1,_,_,g4⟩:=hst b (by omega) (by omega);obtain ⟨e1,_,_,e4⟩:=hah b (by omega) (by omega) hk q6;refine ⟨g4.2 q1,?_,?_,?_,?_,?_⟩
  ·show (M'.node _).leads false = (M'.node _).leads false;rw [g1,e1]; exact q2
  ·show (M'.node _).dead = true;rw [e1]; exact q3
  ·rw [e4]; exact q4
  ·rw [e1]; exact q5
  ·show (M'.node _).key = _;rw [e1]; exact q6
 ·intro b hk hn;obtain ⟨n,f1,f2,f3,f4,f5,f6,f7,f8,f9,f10,f11⟩:=h.f8 b hk hn;have hF : Fresh n t:=⟨b,hk,hn,by rw [f1]; simp⟩;obtain ⟨g1,g2,g3,g4⟩:=hb n f4 (.inr hF);have hs:=hst b (by omega) (by omega);refine ⟨n,f1,f2,f3,?_,?_,?_,?_,?_,?_,?_,?_⟩
  ·show (M'.node n).used = true; rw [g1]; exact f4
  ·rw [g4]; exact f5
  ·rw [g1]; exact f6
  ·show (M'.node n).key = _; rw [g1]; exact f7
  ·rw [g1]; exact f8
  ·show (M'.node n).leads false = _; rw [g1]; exact f9
  ·rw [hs.2.1]; exact f10
  ·intro h8;rw [g2];exact ⟨(f11 h8).1,fun s d hh=>(f11 h8).2 s d (g3 s d hh)⟩
 ·intro b hk h5 h6;have e1:=(hah b (by omega) (by omega) hk ((h.c7 b (by omega) (by omega)).2.2.2 hk)).1;have e2:=(hst b (by omega) (by omega)).2.1;obtain ⟨q1,q2⟩:=h.p2 b hk h5 h6;refine ⟨?_,q2⟩;rw [e2,q1];show _ = [(M'.node _).leads false];rw [e1]
 ·intro b h5;obtain ⟨e1,e2,_⟩:=hst b (by omega) (by omega);rw [e2,h.p11 b h5];show _ = [(M'.node _).leads false];rw [e1]
 ·intro b h5 h6;obtain ⟨q1,q2,q3,q4⟩:=h.s9 b h5 h6;exact ⟨q1,q2,by omega,fun s d hh=>q4 s d ((hst b (by omega) (by omega)).2.2.1 s d hh)⟩
theorem HoldEq.refl (M : PMem) : HoldEq M M:=fun x=>⟨(M.node x).holder,rfl⟩
theorem HoldEq.to (hh : HoldEq M M') (x : Int) : (M'.node x).used = (M.node x).used/\(M'.node x).dead = (M.node x).dead/\(M'.node x).retired = (M.node x).retired/\(M'.node x).retiredAt = (M.node x).retiredAt/\(M'.node x).key = (M.node x).key/\(M'.node x).leads = (M.node x).leads/\(M'.node x).links = (M.node x).links:=by
 obtain ⟨g,hg⟩:=hh x; rw [hg]; exact ⟨rfl,rfl,rfl,rfl,rfl,rfl,rfl⟩
theorem vd_set {x s : Int} (ht : ts[i]? = some t) (h : Vd M ts x s) (hs : ∀ d,Sd M x s d->∃ d',Sd M' x s d') (hp : Vs x s t->Vs x s t') : Vd M' (ts.set i t') x s:=by
 rcases h with ⟨d,h⟩ | h
 ·obtain ⟨d',h'⟩:=hs d h; exact .inl ⟨d',h'⟩
 ·exact .inr (h.set ht hp)
theorem Inv.hold (h : Inv C P) (ht : P.ts[i]? = some t) (hct : Calm t) (hct' : Calm t') (hw : Wm M') (he : M'.es = P.mem.es) (hh : HoldEq P.mem M')
  (chg : ∀ x,M'.node x = P.mem.node x\/((x = 1\/Gd P.mem C x)/\(Ho P.mem x = -1\/Ho P.mem x = i)/\(Ho M' x = -1\/Ho M' x = i)))
  (hth : Th C M' P.clock P.sweep i t') : Inv C { P with mem:=M',ts:=P.ts.set i t' }:=by
 have hi:=(List.getElem?_eq_some_iff.1 ht).1;have q:=hh.to;have q1:=fun x=>(q x).1
 have q2:=fun x=>(q x).2.1
 have q3:=fun x=>(q x).2.2.1
 have q4:=fun x=>(q x).2.2.2.1
 have q5:=fun x=>(q x).2.2.2.2.1
 have q6:=fun x=>(q x).2.2.2.2.2.1
 have hsd:=fun x s d=>sd_es (M:=P.mem) (M':=M') he x s d
 have hpd:=fun x=>pd_es (M:=P.mem) (M':=M') he x
 refine ⟨h.kind,hw,h.n.congr hh,?_,?_,?_⟩
 ·obtain ⟨ms,pd,nw,ol,dr⟩:=h.e;refine ⟨?_,?_,?_,?_,?_⟩
  ·intro x s d hs
   have:=ms x s d ((hsd x s d).1 hs)
   simpa only [Us,De,Lt,Ky,q1,q2,q5] using this
  ·intro x d hd;rw [hpd] at hd;exact (pd x d hd).set ht (fun hp=>hp.elim (fun h=>absurd h hct.pends) (fun h=>absurd h hct.fresh8))
  ·intro x s d hs;rcases nw x s d ((hsd x s d).1 hs) with h1 | ⟨s',h1,h2⟩
   ·left; show d = (M'.node x).leads false; rw [q6]; exact h1
   ·exact .inr ⟨s',h1,vd_set ht h2 (fun d h=>⟨d,(hsd _ _ _).2 h⟩) (fun h=>absurd h hct.vs)⟩
  ·intro x s d hs hr;have hr' : Re P.mem d:=by show (P.mem.node d).retired = true; rw [<- q3]; exact hr
   simp only [Ra,Re,q3,q4];rcases ol x s d ((hsd x s d).1 hs) hr' with ⟨s',h1,h2,h3⟩ | h1
   ·exact .inl ⟨s',h1,h2,vd_set ht h3 (fun d h=>⟨d,(hsd _ _ _).2 h⟩) (fun h=>absurd h hct.vs)⟩
   ·exact .inr h1
  ·intro hm x s d hs hin hf;simp only [Ra,q4] at hf ⊢;exact dr (by simpa using hm) x s d ((hsd x s d).1 hs) hin hf
 ·obtain ⟨us,ki,ou,ho,pw,sw,sc,sm,sz⟩:=h.o;refine ⟨?_,?_,?_,?_,?_,?_,sc,by simpa using sm,sz⟩
  ·intro x hx;simp only [Us,De,q1,q2] at hx ⊢;rcases us x hx with h1 | h1 | h1 | h1
   ·exact .inl h1
   ·exact .inr (.inl h1)
   ·exact .inr (.inr (.inl h1))
   ·exact .inr (.inr (.inr (h1.set ht (fun h=>absurd h hct.fresh))))
  ·intro x hx hC;simp only [De,q2] at hx;exact (ki x hx hC).set ht (fun h=>absurd h hct.killing)
  ·intro x hx hC hr;simp only [De,q2] at hx;rw [q3] at hr;exact (ou x hx hC hr).set ht (fun h=>absurd h hct.outing)
  ·intro x hx;simp only [Us,q1] at hx;rcases chg x with h1 | ⟨_,_,h1 | h1⟩
   ·have:=ho x hx
    simp only [Ho,h1,List.length_set] at this ⊢;exact this
   ·exact .inl h1
   ·exact .inr ⟨i,by simpa using hi,h1⟩
  ·intro a b u v x ha hb hu hv;rw [List.getElem?_set] at ha hb;by_cases ea : i = a
   ·subst ea; simp [hi] at ha; subst ha; exact absurd hu hct'.fresh
   ·by_cases eb : i = b
    ·subst eb; simp [hi] at hb; subst hb; exact absurd hv hct'.fresh
    ·rw [if_neg ea] at ha; rw [if_neg eb] at hb;exact pw a b u v x ha hb hu hv
  ·intro x hx;simp only [Re,Ra,q3,q4];exact sw x hx
 ·intro j u hj;rw [List.getElem?_set] at hj;by_cases ej : i = j
  ·subst ej; simp [hi] at hj; subst hj; exact hth
  ·rw [if_neg ej] at hj;have hT:=h.th j u hj;refine hT.rely (Int.le_refl _) ?_ ?_ ?_
   ·intro x hx;refine ⟨?_,q5 x,?_,?_⟩
    ·show (M'.node x).used = true;rw [q1];rcases hx with rfl | hx | hx
     ·exact h.n.a1.2.1
     ·exact (h.n.mc x hx).1
     ·exact (h.n.md x hx).1
    ·intro hg;unfold Gd De;rw [q2]; exact hg
    ·intro hr;left;simp only [Re,Ra,q3,q4] at hr ⊢;exact ⟨hr,trivial⟩
   ·intro x hu hx;have hn : M'.node x = P.mem.node x:=by
     rcases chg x with h1 | ⟨h1,h2,_⟩
     ·exact h1
     ·exfalso;rcases hx with hx | hx
      ·simp only [Ho] at hx h2; omega
      ·obtain ⟨b,hk,hn,hm⟩:=hx;obtain ⟨n,f1,f2,f3,f4,f5,f6,_⟩:=hT.f8 b hk hn;rw [f1] at hm;simp at hm;subst hm;rcases h1 with h1 | h1 | h1
       ·exact f3 h1
       ·exact f5 h1
       ·simp only [De] at h1; rw [f6] at h1; cases h1
    exact ⟨hn,hpd x,fun s d=>(hsd x s d).1,Iff.rfl⟩
   ·intro x hu;have hu' : Us P.mem x:=by show (P.mem.node x).used = true; rw [<- q1]; exact hu
    rcases chg x with h1 | ⟨_,h2,h3⟩
    ·simp only [Ho,h1]; exact ⟨fun h=>⟨hu',h⟩,fun h=>h.2⟩
    ·constructor
     ·intro h4; simp only [Ho] at h3 h4; omega
     ·rintro ⟨_,h4⟩; simp only [Ho] at h2 h4; omega
theorem Inv.calm (h : Inv C P) (ht : P.ts[i]? = some t) (hct : Calm t) (hct' : Calm t') (hth : Th C P.mem P.clock P.sweep i t') : Inv C { P with ts:=P.ts.set i t' } :=
 h.hold ht hct hct' h.wm rfl (HoldEq.refl _) (fun _=>.inl rfl) hth
end
end
section
section
variable {C C' : Int->Prop} {M M' : PMem} {c c' : Int} {r : PSweep} {i j : Nat} {t t' : PThread} {ts : List PThread} {P : PSt} {x : Int}
theorem Th.of6 (h6 : t.busy = true->t.work.next<=6\/t.work.next = 13\/(t.work.next = 12/\¬ (t.work.kind = 2/\t.work.ans.did = true)))
  (kd : t.busy = true->t.work.kind = 1\/t.work.kind = 2\/t.work.kind = 3\/t.work.kind = 4)
  (nx : t.busy = true->1<=t.work.next/\t.work.next<=13)
  (rd : t.busy = true->(t.work.kind = 3\/t.work.kind = 4)->t.work.next<=4\/t.work.next = 13)
  (sl : t.slot = if t.busy = true/\t.work.next≠1 then (if t.work.next<=3 then 1 else 2) else 0)
  (tm : t.busy = true->3<=t.work.next->t.work.time<=c/\(i + 1 < r.made->(r.hasTime = true/\r.time<=t.work.time)\/r.clock<=t.work.time))
  (hd : ∀ x,Us M x->(Ho M x = i ↔ t.busy = true/\x ∈ [t.work.stand,t.work.ahead].take t.work.locks))
  (l4 : t.busy = true->t.work.next<=4\/t.work.next = 13->t.work.locks = 0)
  (l5 : t.busy = true->t.work.next = 5->t.work.locks < wl M t.work)
  (l6 : t.busy = true->6<=t.work.next->t.work.next<=12->t.work.locks = wl M t.work)
  (ky : t.busy = true->t.work.kind≠4->0<=t.work.key/\t.work.key<=1099511627776)
  (hi : t.busy = true->t.work.kind = 4->greatestHi t.work.spans<=1099511627776)
  (lk : t.busy = true->t.work.kind = 4->t.work.next<=3->t.work.links = [(0,false)])
  (xs : t.busy = true->t.work.kind≠4->4<=t.work.next->t.work.next<=12->Gd M C t.work.stand/\Safe M r i t.work.time t.work.stand/\(t.work.stand = 0\/Ky M t.work.stand < t.work.key))
  (xl : t.busy = true->t.work.kind = 4->t.work.next = 4->∃ x,t.work.links = [(x,false)]/\Gd M C x/\Safe M r i t.work.time x)
  (cs : t.busy = true->5<=t.work.next->t.work.next<=12->(t.work.ahead = 1\/Gd M C t.work.ahead)/\Safe M r i t.work.time t.work.ahead/\t.work.ahead≠0/\t.work.key<=Ky M t.work.ahead)
  (m7 : t.busy = true->t.work.next<=7->t.work.made = [])
  (l3 : t.busy = true->t.work.kind≠4->t.work.links = []) : Th C M c r i t:=by
 refine ⟨kd,nx,rd,sl,tm,hd,l4,l5,l6,ky,hi,lk,xs,xl,cs,m7,?_,?_,?_,?_,?_,?_,?_,?_,?_,?_,?_,l3⟩
 ·intro b h1 h2; have:=h6 b; omega
 ·intro b h1 h2; have:=h6 b; omega
 ·intro b _ h1 h2; have:=h6 b; omega
 ·intro b _ h1; have:=h6 b; omega
 ·intro b h1; have:=h6 b; omega
 ·rintro ⟨b,hk,hn,_⟩;rcases h6 b with h | h | h
  ·omega
  ·omega
  ·rcases hn with hn | hn
   ·omega
   ·exact absurd ⟨hk,hn.2⟩ h.2
 ·intro b h1 h2; have:=h6 b; omega
 ·intro b _ h1; have:=h6 b; omega
 ·intro b _ h1 h2; have:=h6 b; omega
 ·intro b h1; have:=h6 b; omega
 ·intro b h1 h2; have:=h6 b; omega
theorem calm6 (h6 : t.busy = true->t.work.next<=7\/t.work.next = 13\/(t.work.next = 12/\¬ (t.work.kind = 2/\t.work.ans.did = true))) : Calm t:=fun b _=>h6 b
theorem Th.free (h : Th C M c r i t) (hl : t.busy = true->t.work.next<=4\/t.work.next = 13) (x : Int) (hx : Us M x) : ¬ Ho M x = i:=by
 rw [h.hd x hx];rintro ⟨b,hm⟩;rw [h.l4 b (hl b)] at hm;simp at hm
theorem take0 {a b x : Int} {l : Nat} (h : l = 0) : x ∈ [a,b].take l ↔ False:=by rw [h]; simp
theorem Inv.gdUs (h : Inv C P) (hx : x = 1\/Gd P.mem C x) : Us P.mem x:=by
 rcases hx with rfl | hx | hx
 ·exact h.n.a1.2.1
 ·exact (h.n.mc x hx).1
 ·exact (h.n.md x hx).1
theorem Inv.gdLinks (h : Inv C P) (hx : Gd P.mem C x) : (P.mem.node x).links = 1/\x≠1:=by
 rcases hx with hx | hx
 ·exact ⟨(h.n.mc x hx).2.1,fun e=>h.n.a1.1 (e ▸ hx)⟩
 ·exact ⟨(h.n.md x hx).2,fun e=>by subst e; simp only [De] at hx; rw [h.n.a1.2.2.2.1] at hx; cases hx⟩
theorem Inv.side (h : Inv C P) (hx : Gd P.mem C x) (key : Int) : P.mem.sideFor x key = false/\P.mem.hasLink x false = true/\P.leadsFrom x key = Ld P.mem x:=by
 have h1:=(h.gdLinks hx).1;have h2:=h.gdUs (.inr hx);have h3 : P.mem.sideFor x key = false:=by unfold PMem.sideFor; rw [h1]; rfl
 have h4 : P.mem.hasLink x false = true:=hasLink_iff.2 ⟨hasN_used h2,by omega⟩;exact ⟨h3,h4,by unfold PSt.leadsFrom PMem.leadsTo; rw [h3,h4]; rfl⟩
theorem Inv.notSw (h : Inv C P) (hx : x = 1\/C x) : ¬ InSw P.sweep x/\(P.mem.node x).retired = false:=by
 have hr : (P.mem.node x).retired = false:=by
  rcases hx with rfl | hx
  ·exact h.n.a1.2.2.2.2.1
  ·exact (h.n.mc x hx).2.2.1
 refine ⟨?_,hr⟩;intro hs
 have:=(h.o.sw x hs).1
 simp only [Re] at this;rw [hr] at this; cases this
theorem Inv.safe (h : Inv C P) (hx : x = 1\/C x) {time : Int} (ht : i + 1 < P.sweep.made->(P.sweep.hasTime = true/\P.sweep.time<=time)\/P.sweep.clock<=time) : Safe P.mem P.sweep i time x:=by
 obtain ⟨h1,h2⟩:=h.notSw hx;refine ⟨h.gdUs (hx.imp id Or.inl),?_,?_⟩
 ·intro hr; simp only [Re] at hr; rw [h2] at hr; cases hr
 ·intro hm;rcases ht hm with h3 | h3
  ·exact .inl h3
  ·exact .inr ⟨h3,h1⟩
theorem Inv.next (h : Inv C P) (hx : Gd P.mem C x) : (Ld P.mem x = 1\/Gd P.mem C (Ld P.mem x))/\Ld P.mem x≠0/\Lt P.mem x (Ld P.mem x):=by
 by_cases hc : C x
 ·obtain ⟨_,_,_,h1,h2,h3⟩:=h.n.mc x hc;exact ⟨h1.imp id .inl,h2,h3⟩
 ·have hd : De P.mem x:=hx.resolve_left hc;obtain ⟨h1,h2,h3⟩:=h.n.mo x hd hc;refine ⟨?_,h1,.inr h2⟩;rcases h3 with h3 | h3 | h3
  ·exact .inl h3
  ·exact .inr (.inl h3)
  ·exact .inr (.inr h3.1)
theorem Inv.safeNext (h : Inv C P) (hx : Gd P.mem C x) {time : Int} (ht : i + 1 < P.sweep.made->(P.sweep.hasTime = true/\P.sweep.time<=time)\/P.sweep.clock<=time) (hs : Safe P.mem P.sweep i time x) : Safe P.mem P.sweep i time (Ld P.mem x):=by
 by_cases hc : C x
 ·exact h.safe (h.n.mc x hc).2.2.2.1 ht
 ·have hd : De P.mem x:=hx.resolve_left hc;obtain ⟨h1,h2,h3⟩:=h.n.mo x hd hc;rcases h3 with h3 | h3 | ⟨g1,g2,g3,g4,g5⟩
  ·exact h.safe (.inl h3) ht
  ·exact h.safe (.inr h3) ht
  ·refine ⟨h.gdUs (.inr (.inr g1)),?_,?_⟩
   ·intro hr
    have:=hs.2.1 g3
    have:=g4 hr
    omega
   ·intro hm;rcases hs.2.2 hm with h4 | h4
    ·exact .inl h4
    ·exact .inr ⟨h4.1,fun hh=>h4.2 (g5 hh)⟩
theorem Inv.zero (h : Inv C P) {time : Int} (ht : i + 1 < P.sweep.made->(P.sweep.hasTime = true/\P.sweep.time<=time)\/P.sweep.clock<=time) : Gd P.mem C 0/\Safe P.mem P.sweep i time 0:=⟨.inl h.n.a0.1,h.safe (.inr h.n.a0.1) ht⟩
theorem Inv.step1 (h : Inv C P) (ht : P.ts[i]? = some t) (hb : t.busy = true) (hn : t.work.next = 1) : Inv C { P with ts:=P.ts.set i { t with slot:=1,work:={ t.work with next:=2 } } }:=by
 have hT:=h.th i t ht;refine h.calm ht (calm6 fun _=>by omega) (calm6 fun _=>.inl (by show 2<=7; omega)) ?_;refine Th.of6 (fun _=>.inl (by show 2<=6; omega)) hT.kd (fun _=>by show 1<=2/\2<=13; omega) (fun _ _=>.inl (by show 2<=4; omega)) ?_ ?_ ?_ (fun b _=>hT.l4 b (by omega)) ?_ ?_ hT.ky hT.hi (fun b k _=>hT.lk b k (by omega)) ?_ ?_ ?_ (fun b _=>hT.m7 b (by omega)) hT.l3
 ·show (1 : Int) = if t.busy = true/\(2 : Nat)≠1 then (if (2 : Nat)<=3 then 1 else 2) else 0
  simp [hb]
 ·intro b h3; have h3' : 3<=2:=h3; omega
 ·intro x hx;rw [take0 (hT.l4 hb (by omega))];simp only [and_false,iff_false];exact hT.free (fun _=>by omega) x hx
 ·intro b h5; have : (2 : Nat) = 5:=h5; omega
 ·intro b h6; have : 6<=(2 : Nat):=h6; omega
 ·intro b _ h4; have : 4<=(2 : Nat):=h4; omega
 ·intro b _ h4; have : (2 : Nat) = 4:=h4; omega
 ·intro b h5; have : 5<=(2 : Nat):=h5; omega
theorem Inv.step2 (h : Inv C P) (ht : P.ts[i]? = some t) (hb : t.busy = true) (hn : t.work.next = 2) : Inv C { P with ts:=P.ts.set i { t with work:={ t.work with time:=P.clock,next:=3 } } }:=by
 have hT:=h.th i t ht;refine h.calm ht (calm6 fun _=>by omega) (calm6 fun _=>.inl (by show 3<=7; omega)) ?_;refine Th.of6 (fun _=>.inl (by show 3<=6; omega)) hT.kd (fun _=>by show 1<=3/\3<=13; omega) (fun _ _=>.inl (by show 3<=4; omega)) ?_ ?_ ?_ (fun b _=>hT.l4 b (by omega)) ?_ ?_ hT.ky hT.hi (fun b k _=>hT.lk b k (by omega)) ?_ ?_ ?_ (fun b _=>hT.m7 b (by omega)) hT.l3
 ·show t.slot = if t.busy = true/\(3 : Nat)≠1 then (if (3 : Nat)<=3 then 1 else 2) else 0
  rw [hT.sl,hn]; simp [hb]
 ·intro b h3; exact ⟨Int.le_refl _,fun _=>.inr h.o.sc.1⟩
 ·intro x hx;rw [take0 (hT.l4 hb (by omega))];simp only [and_false,iff_false];exact hT.free (fun _=>by omega) x hx
 ·intro b h5; have : (3 : Nat) = 5:=h5; omega
 ·intro b h6; have : 6<=(3 : Nat):=h6; omega
 ·intro b _ h4; have : 4<=(3 : Nat):=h4; omega
 ·intro b _ h4; have : (3 : Nat) = 4:=h4; omega
 ·intro b h5; have : 5<=(3 : Nat):=h5; omega
theorem Inv.step3 (h : Inv C P) (ht : P.ts[i]? = some t) (hb : t.busy = true) (hn : t.work.next = 3) : Inv C { P with ts:=P.ts.set i { t with slot:=2,work:=t.work.home } }:=by
 have hT:=h.th i t ht;have htm:=hT.tm hb (by omega);have h0:=h.zero (i:=i) htm.2;refine h.calm ht (calm6 fun _=>by omega) (calm6 fun _=>.inl (by show 4<=7; omega)) ?_;refine Th.of6 (fun _=>.inl (by show 4<=6; omega)) hT.kd (fun _=>by show 1<=4/\4<=13; omega) (fun _ _=>.inl (by show 4<=4; omega)) ?_ (fun _ _=>htm) ?_ (fun b _=>hT.l4 b (by omega)) ?_ ?_ hT.ky hT.hi ?_ ?_ ?_ ?_ (fun b _=>hT.m7 b (by omega)) hT.l3
 ·show (2 : Int) = if t.busy = true/\(4 : Nat)≠1 then (if (4 : Nat)<=3 then 1 else 2) else 0
  simp [hb]
 ·intro x hx;simp only;rw [take0 (show t.work.home.locks = 0 from hT.l4 hb (by omega))];simp only [and_false,iff_false];exact hT.free (fun _=>by omega) x hx
 ·intro b h5; have : (4 : Nat) = 5:=h5; omega
 ·intro b h6; have : 6<=(4 : Nat):=h6; omega
 ·intro b _ h4; have : (4 : Nat)<=3:=h4; omega
 ·intro b _ h4 _; exact ⟨h0.1,h0.2,.inl rfl⟩
 ·intro b k h4; exact ⟨0,hT.lk hb k (by omega),h0⟩
 ·intro b h5; have : 5<=(4 : Nat):=h5; omega
theorem Inv.step13 (h : Inv C P) (ht : P.ts[i]? = some t) (hn : t.work.next = 13) : Inv C { P with ts:=P.ts.set i t.leave }:=by
 have hT:=h.th i t ht;have hf : t.leave.busy = false:=rfl;refine h.calm ht (calm6 fun _=>by omega) (calm6 fun b=>by rw [hf] at b; cases b) ?_;have nb : ∀ {p : Prop},t.leave.busy = true->p:=fun b=>by rw [hf] at b; cases b
 refine Th.of6 nb nb nb nb (by rw [hf]; rfl) nb ?_ nb nb nb nb nb nb nb nb nb nb nb;intro x hx;simp only [hf,false_and,iff_false]
 have:=hT.free (fun _=>.inr hn) x hx
 simpa using this
theorem Inv.begin (h : Inv C P) (ht : P.ts[i]? = some t) (hb : t.busy = false) {k : PWork} (h1 : k.next = 1) (h2 : k.kind = 1\/k.kind = 2\/k.kind = 3\/k.kind = 4) (h3 : k.locks = 0) (h4 : k.made = []) (h5 : k.kind≠4->0<=k.key/\k.key<=1099511627776) (h6 : k.kind = 4->greatestHi k.spans<=1099511627776/\k.links = [(0,false)]) (h7 : k.kind≠4->k.links = []) : Inv C { P with ts:=P.ts.set i { t with busy:=true,work:=k } }:=by
 have hT:=h.th i t ht;refine h.calm ht (fun b=>by rw [hb] at b; cases b) (calm6 fun _=>.inl (by show k.next<=7; omega)) ?_;refine Th.of6 (fun _=>.inl (by show k.next<=6; omega)) (fun _=>h2) (fun _=>by show 1<=k.next/\k.next<=13; omega) (fun _ _=>.inl (by show k.next<=4; omega)) ?_ ?_ ?_ (fun b _=>h3) ?_ ?_ (fun _=>h5) (fun _ k4=>(h6 k4).1) (fun _ k4 _=>(h6 k4).2) ?_ ?_ ?_ (fun _ _=>h4) (fun _=>h7)
 ·show t.slot = if true = true/\k.next≠1 then (if k.next<=3 then 1 else 2) else 0
  rw [hT.sl,hb,h1]; simp
 ·intro _ hh; have : 3<=k.next:=hh; omega
 ·intro x hx;simp only;rw [take0 h3];simp only [and_false,iff_false];exact hT.free (fun b=>by rw [hb] at b; cases b) x hx
 ·intro _ hh; have : k.next = 5:=hh; omega
 ·intro _ hh; have : 6<=k.next:=hh; omega
 ·intro _ _ hh; have : 4<=k.next:=hh; omega
 ·intro _ _ hh; have : k.next = 4:=hh; omega
 ·intro _ hh; have : 5<=k.next:=hh; omega
end
end
section
section
variable {C C' : Int->Prop} {M M' : PMem} {c c' : Int} {r : PSweep} {i j : Nat} {t t' : PThread} {ts : List PThread} {P : PSt} {x : Int}
theorem setW_to (P : PSt) (ht : P.ts[i]? = some t) (k : PWork) : P.setW i k = { P with ts:=P.ts.set i { t with work:=k } }:=by
 unfold PSt.setW
 congr 1
 apply List.ext_getElem?;intro j;rw [List.getElem?_modify,List.getElem?_set];by_cases e : i = j
 ·subst e;obtain ⟨h1,h2⟩:=List.getElem?_eq_some_iff.1 ht;simp [h1,h2]
 ·simp [e]
theorem setMW_to (P : PSt) (ht : P.ts[i]? = some t) (M : PMem) (k : PWork) : (P.setM M).setW i k = { P with mem:=M,ts:=P.ts.set i { t with work:=k } }:=setW_to (P.setM M) ht k
theorem Inv.gd01 (h : Inv C P) (hx : Gd P.mem C x) (h0 : x≠0) : 0<=Ky P.mem x/\Ky P.mem x<=1099511627776:=h.n.kr x (h.gdUs (.inr hx)) h0 (h.gdLinks hx).2
theorem Th.pdStand (h : Th C M c r i t) (hb : t.busy = true) (hk : t.work.kind = 1\/t.work.kind = 2) (h8 : 8<=t.work.next) (h11 : t.work.next<=11) : ∃ d,Pd M t.work.stand = [d]:=by
 rcases (show t.work.next = 11\/t.work.next = 9\/(t.work.next = 8\/t.work.next = 10) by omega) with hn | hn | hn
 ·exact ⟨_,h.p11 hb hn⟩
 ·have:=h.n9 hb hn
  exact ⟨_,(h.p2 hb this (by omega) (by omega)).1⟩
 ·rcases hk with hk | hk
  ·obtain ⟨n,_,_,_,_,_,_,_,_,_,f,_⟩:=h.f8 hb hk hn;exact ⟨_,f⟩
  ·exact ⟨_,(h.p2 hb hk (by omega) (by omega)).1⟩
theorem Inv.led (h : Inv C P) (hx : Gd P.mem C x) {time : Int} (ht : i + 1 < P.sweep.made->(P.sweep.hasTime = true/\P.sweep.time<=time)\/P.sweep.clock<=time) (hs : Safe P.mem P.sweep i time x) (hp : Pd P.mem x = []) :
  (P.mem.ledTo x false time = 1\/Gd P.mem C (P.mem.ledTo x false time))/\Safe P.mem P.sweep i time (P.mem.ledTo x false time)/\P.mem.ledTo x false time≠0/\Lt P.mem x (P.mem.ledTo x false time):=by
 have hvs : ∀ s',¬ Ex P.ts (Vs x s'):=by
  rintro s' ⟨j,u,hj,b,hk,h9,h11,hst,_⟩;obtain ⟨d,hd⟩:=(h.th j u hj).pdStand b hk (by omega) h11;rw [hst,hp] at hd; cases hd
 rcases ledTo_ok (M:=P.mem) (n:=x) (time:=time) (fun s d hh=>(h.e.ms x s d hh).2.2.1) with ⟨h1,_⟩ | ⟨s,h1,h2,h3⟩
 ·rw [h1];refine ⟨.inl rfl,h.safe (.inl rfl) ht,by decide,?_⟩;by_cases h0 : x = 0
  ·exact .inl h0
  ·right
   have:=h.gd01 hx h0
   have:=h.n.a1.2.2.2.2.2
   omega
 ·generalize P.mem.ledTo x false time = d at *;obtain ⟨_,_,_,_,g1,g2,g3⟩:=h.e.ms x s d h1;refine ⟨g2,?_,g1,g3⟩;by_cases hc : d = 1\/C d
  ·exact h.safe hc ht
  ·have hol : Re P.mem d->time < Ra P.mem d\/(Re P.mem x/\Ra P.mem x<=Ra P.mem d/\(InSw P.sweep d->InSw P.sweep x)):=by
    intro hr;rcases h.e.ol x s d h1 hr with ⟨s',a1,a2,a3⟩ | a1
    ·rcases a3 with ⟨d',a3⟩ | a3
     ·left;rcases Int.lt_or_le time s' with a4 | a4
      ·omega
      ·have:=h3 s' d' a3 a4; omega
     ·exact absurd a3 (hvs s')
    ·exact .inr a1
   refine ⟨h.gdUs (by rcases g2 with g | g | g; exact .inl g; exact .inr (.inl g); exact .inr (.inr g)),?_,?_⟩
   ·intro hr;rcases hol hr with a | ⟨a1,a2,_⟩
    ·omega
    ·have:=hs.2.1 a1; omega
   ·intro hm;rcases hs.2.2 hm with a | ⟨a1,a2⟩
    ·exact .inl a
    ·refine .inr ⟨a1,?_⟩;intro hi;obtain ⟨hr,hle⟩:=h.o.sw d hi;rcases hol hr with b | ⟨_,_,b⟩
     ·omega
     ·exact a2 (b hi)
theorem Inv.walked (h : Inv C P) (ht : P.ts[i]? = some t) (hb : t.busy = true) (hn : t.work.next = 4) {k : PWork} (h1 : k.kind = t.work.kind) (h2 : k.next = 4\/k.next = 13) (h3 : k.locks = t.work.locks) (h4 : k.key = t.work.key) (h5 : k.spans = t.work.spans) (h6 : k.made = t.work.made) (h7 : k.time = t.work.time) (h8 : k.kind≠4->k.links = t.work.links)
  (hx : k.kind≠4->k.next = 4->Gd P.mem C k.stand/\Safe P.mem P.sweep i k.time k.stand/\(k.stand = 0\/Ky P.mem k.stand < k.key))
  (hl : k.kind = 4->k.next = 4->∃ x,k.links = [(x,false)]/\Gd P.mem C x/\Safe P.mem P.sweep i k.time x) : Inv C (P.setW i k):=by
 have hT:=h.th i t ht;have hl0:=hT.l4 hb (.inl (by omega));rw [setW_to P ht];refine h.calm ht (calm6 fun _=>by omega) (calm6 fun _=>by show k.next<=7\/k.next = 13\/_; omega) ?_;refine Th.of6 (fun _=>by show k.next<=6\/k.next = 13\/_; omega) (fun b=>by show k.kind = 1\/k.kind = 2\/k.kind = 3\/k.kind = 4; rw [h1]; exact hT.kd b) (fun _=>by show 1<=k.next/\k.next<=13; omega) (fun _ _=>by show k.next<=4\/k.next = 13; omega) ?_ ?_ ?_ (fun b _=>by show k.locks = 0; omega) ?_ ?_ ?_ ?_ ?_ ?_ ?_ ?_ ?_ ?_
 ·show t.slot = if t.busy = true/\k.next≠1 then (if k.next<=3 then 1 else 2) else 0
  have e1 : t.slot = 2:=by rw [hT.sl,hn]; simp [hb]
  rw [e1];rcases h2 with e | e <;> rw [e] <;> simp [hb]
 ·intro b _;show k.time<=_/\(_->_\/_<=k.time);rw [h7]; exact hT.tm b (by omega)
 ·intro x hx;simp only;rw [take0 (show k.locks = 0 by omega)];simp only [and_false,iff_false];exact hT.free (fun _=>by omega) x hx
 ·intro _ hh; have : k.next = 5:=hh; omega
 ·intro _ hh hg; have : 6<=k.next:=hh; have : k.next<=12:=hg; omega
 ·intro b hh;show 0<=k.key/\k.key<=_;rw [h4]; exact hT.ky b (by rw [<- h1]; exact hh)
 ·intro b hh;show greatestHi k.spans<=_;rw [h5]; exact hT.hi b (by rw [<- h1]; exact hh)
 ·intro _ _ hh; have : k.next<=3:=hh; omega
 ·intro _ hk hh hg;have hh' : 4<=k.next:=hh
  have hg' : k.next<=12:=hg
  exact hx hk (by omega)
 ·intro _ hk hh; exact hl hk hh
 ·intro _ hh hg; have : 5<=k.next:=hh; have : k.next<=12:=hg; omega
 ·intro b hh;show k.made = [];rw [h6]; exact hT.m7 b (by omega)
 ·intro b h4';show k.links = [];rw [h8 h4']; exact hT.l3 b (by rw [<- h1]; exact h4')
theorem Inv.walk (h : Inv C P) (ht : P.ts[i]? = some t) (hb : t.busy = true) (hn : t.work.next = 4) (hk : t.work.kind = 1\/t.work.kind = 2) : Inv C (P.setW i (P.walk t.work)):=by
 have hT:=h.th i t ht;obtain ⟨g1,g2,g3⟩:=hT.xs hb (by omega) (by omega) (by omega);have htm:=hT.tm hb (by omega);have hky:=hT.ky hb (by omega);have hl0:=hT.l4 hb (.inl (by omega));obtain ⟨n1,n2,n3⟩:=h.next g1
 have n4:=h.safeNext g1 htm.2 g2;have hld:=(h.side g1 t.work.key).2.2;unfold PSt.walk;rw [hld];have hp : P.isPassed (Ld P.mem t.work.stand) t.work.key = decide (Ky P.mem (Ld P.mem t.work.stand) < t.work.key):=by
  unfold PSt.isPassed; rw [if_neg (by rw [h.kind]; decide)]
 rw [hp];generalize Ld P.mem t.work.stand = d at *;by_cases hlt : Ky P.mem d < t.work.key
 ·rw [if_pos (by simpa using hlt)];refine h.walked ht hb hn rfl (.inl hn) rfl rfl rfl rfl rfl (fun _=>rfl) (fun _ _=>⟨?_,n4,.inr hlt⟩) (fun k4=>absurd k4 (by show t.work.kind≠4; omega));rcases n1 with rfl | n1
  ·have:=h.n.a1.2.2.2.2.2; omega
  ·exact n1
 ·rw [if_neg (by simpa using hlt),setW_to P ht];refine h.calm ht (calm6 fun _=>by omega) (calm6 fun _=>.inl (by show 5<=7; omega)) ?_;refine Th.of6 (fun _=>.inl (by show 5<=6; omega)) hT.kd (fun _=>by show 1<=5/\5<=13; omega) (fun _ hh=>?_) ?_ (fun _ _=>htm) ?_ (fun _ hh=>?_) ?_ ?_ hT.ky hT.hi ?_ (fun _ _ _ _=>⟨g1,g2,g3⟩) ?_ (fun _ _ _=>⟨n1,n4,n2,by show t.work.key<=Ky P.mem d; omega⟩) (fun b _=>hT.m7 b (by omega)) hT.l3
  ·have : t.work.kind = 3\/t.work.kind = 4:=hh; omega
  ·show t.slot = if t.busy = true/\(5 : Nat)≠1 then (if (5 : Nat)<=3 then 1 else 2) else 0
   rw [hT.sl,hn]; simp [hb]
  ·intro x hx;simp only;rw [take0 hl0];simp only [and_false,iff_false];exact hT.free (fun _=>by omega) x hx
  ·have : (5 : Nat)<=4\/(5 : Nat) = 13:=hh; omega
  ·intro _ _;refine Nat.lt_of_lt_of_le ?_ (wl_pos _ _).1;show t.work.locks < 1;omega
  ·intro _ hh; have : 6<=(5 : Nat):=hh; omega
  ·intro _ _ hh; have : (5 : Nat)<=3:=hh; omega
  ·intro _ _ hh; have : (5 : Nat) = 4:=hh; omega
theorem Inv.lookUp (h : Inv C P) (ht : P.ts[i]? = some t) (hb : t.busy = true) (hn : t.work.next = 4) (hk : t.work.kind = 3) (hp : Pd P.mem t.work.stand = []) : Inv C (P.setW i (P.lookUp t.work (P.mem.ledTo t.work.stand false t.work.time))):=by
 have hT:=h.th i t ht;obtain ⟨g1,g2,g3⟩:=hT.xs hb (by omega) (by omega) (by omega);have htm:=hT.tm hb (by omega);have hky:=hT.ky hb (by omega);obtain ⟨n1,n2,n3,n4⟩:=h.led g1 htm.2 g2 hp;generalize P.mem.ledTo t.work.stand false t.work.time = d at *;unfold PSt.lookUp;have hps : P.isPassed d t.work.key = decide (Ky P.mem d < t.work.key):=by
  unfold PSt.isPassed; rw [if_neg (by rw [h.kind]; decide)]
 rw [hps];by_cases hlt : Ky P.mem d < t.work.key
 ·rw [if_pos (by simpa using hlt)];refine h.walked ht hb hn rfl (.inl hn) rfl rfl rfl rfl rfl (fun _=>rfl) (fun _ _=>⟨?_,n2,.inr hlt⟩) (fun k4=>absurd k4 (by show t.work.kind≠4; omega));rcases n1 with rfl | n1
  ·have:=h.n.a1.2.2.2.2.2; omega
  ·exact n1
 ·rw [if_neg (by simpa using hlt)];exact h.walked ht hb hn rfl (.inr rfl) rfl rfl rfl rfl rfl (fun h4=>by first | rfl | exact absurd hk h4) (fun _ hh=>by have : (13 : Nat) = 4:=hh; omega) (fun _ hh=>by have : (13 : Nat) = 4:=hh; omega)
theorem Inv.scan (h : Inv C P) (ht : P.ts[i]? = some t) (hb : t.busy = true) (hn : t.work.next = 4) (hk : t.work.kind = 4) {x : Int} (hl : t.work.links = [(x,false)]) (hp : Pd P.mem x = []) : Inv C (P.setW i (P.scan t.work (P.mem.ledTo x false t.work.time))):=by
 have hT:=h.th i t ht;obtain ⟨x',e1,g1,g2⟩:=hT.xl hb hk hn;rw [hl] at e1;simp at e1;subst e1;have htm:=hT.tm hb (by omega);have hhi:=hT.hi hb hk;obtain ⟨n1,n2,n3,n4⟩:=h.led g1 htm.2 g2 hp;generalize P.mem.ledTo x false t.work.time = d at *;unfold PSt.scan;simp only [hl,List.drop_one,List.tail_cons,List.append_nil];have hlw : P.linksWithin d (leastLo t.work.spans) (greatestHi t.work.spans) = if Ky P.mem d<=greatestHi t.work.spans then [(d,false)] else []:=by
  unfold PSt.linksWithin; rw [if_pos h.kind]
 rw [hlw];by_cases hle : Ky P.mem d<=greatestHi t.work.spans
 ·rw [if_pos hle,if_neg (by simp)];refine h.walked ht hb hn rfl (.inl hn) rfl rfl rfl rfl rfl (fun h4=>absurd hk h4) (fun h4=>absurd hk h4) (fun _ _=>⟨d,rfl,?_,n2⟩);rcases n1 with rfl | n1
  ·have:=h.n.a1.2.2.2.2.2; omega
  ·exact n1
 ·rw [if_neg hle,if_pos (show ([] : List (Int × Bool)).length = 0 from rfl)];exact h.walked ht hb hn rfl (.inr rfl) rfl rfl rfl rfl rfl (fun h4=>by first | rfl | exact absurd hk h4) (fun _ hh=>by have : (13 : Nat) = 4:=hh; omega) (fun _ hh=>by have : (13 : Nat) = 4:=hh; omega)
end
end
end Go.Proofs.YtfccelbmacjifabGreat
