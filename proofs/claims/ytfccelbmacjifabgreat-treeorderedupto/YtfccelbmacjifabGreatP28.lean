import Derived.Test.YtfccelbmacjifabGreatP0
import Derived.Test.YtfccelbmacjifabGreatP27
set_option linter.unusedSimpArgs false
set_option maxRecDepth 100000
set_option maxHeartbeats 4000000
namespace Go.Proofs.YtfccelbmacjifabGreat
section
namespace T
theorem filt_le {α : Type} (p q : α->Bool) : ∀ (l : List α),(∀ a ∈ l,q a = true->p a = true)->(l.filter q).length<=(l.filter p).length
 | [],_=>by simp
 | a :: l,h=>by
  have ih:=filt_le p q l (fun b hb=>h b (by simp [hb]));have ha:=h a (by simp);rw [List.filter_cons,List.filter_cons];by_cases hq : q a = true
  ·rw [if_pos hq,if_pos (ha hq)]; simpa using ih
  ·rw [if_neg hq];split
   ·simp; omega
   ·exact ih
theorem filt_lt {α : Type} (p q : α->Bool) : ∀ (l : List α),(∀ a ∈ l,q a = true->p a = true)->(∃ a ∈ l,p a = true/\q a = false)->(l.filter q).length < (l.filter p).length
 | [],_,h=>by obtain ⟨a,ha,_⟩:=h; cases ha
 | a :: l,h,hx=>by
  have hle:=filt_le p q l (fun b hb=>h b (by simp [hb]));have ha:=h a (by simp);rw [List.filter_cons,List.filter_cons];obtain ⟨b,hb,h1,h2⟩:=hx;rcases List.mem_cons.1 hb with rfl | hb
  ·rw [if_pos h1,if_neg (by rw [h2]; decide)]; simp; omega
  ·have ih:=filt_lt p q l (fun c hc=>h c (by simp [hc])) ⟨b,hb,h1,h2⟩;by_cases hq : q a = true
   ·rw [if_pos hq,if_pos (ha hq)]; simpa using ih
   ·rw [if_neg hq];split
    ·simp; omega
    ·exact ih
theorem sum_set (f g : PThread->Nat) : ∀ (ts : List PThread) (i : Nat) (t t' : PThread),ts[i]? = some t->(∀ j u,j≠i->ts[j]? = some u->g u<=f u)->g t' < f t->((ts.set i t').map g).sum < (ts.map f).sum
 | [],i,t,t',h,_,_=>by simp at h
 | a :: l,0,t,t',h,ho,hi=>by
  simp at h; subst h;have hl : (l.map g).sum<=(l.map f).sum:=by
   have : ∀ (m : List PThread),(∀ u ∈ m,g u<=f u)->(m.map g).sum<=(m.map f).sum:=by
    intro m
    induction m with
    | nil=>simp
    | cons b m ih =>
     intro hm;have h1:=hm b (by simp);have h2:=ih (fun u hu=>hm u (by simp [hu]));simp only [List.map_cons,List.sum_cons]; omega
   apply this;intro u hu;obtain ⟨j,hj⟩:=List.mem_iff_getElem?.1 hu;exact ho (j + 1) u (by omega) (by simpa using hj)
  simp only [List.set_cons_zero,List.map_cons,List.sum_cons]; omega
 | a :: l,i + 1,t,t',h,ho,hi=>by
  have ih:=sum_set f g l i t t' (by simpa using h) (fun j u hj hu=>ho (j + 1) u (by omega) (by simpa using hu)) hi;have h0:=ho 0 a (by omega) rfl;simp only [List.set_cons_succ,List.map_cons,List.sum_cons]; omega
theorem count_set_le (p : PThread->Bool) : ∀ {ts : List PThread} {i : Nat} {t t' : PThread},ts[i]? = some t->(p t' = true->p t = true)->count p (ts.set i t')<=count p ts
 | [],i,t,t',h=>by simp at h
 | a :: l,0,t,t',h=>by
  intro hp;simp at h; subst h;unfold count;rw [List.set_cons_zero,List.filter_cons,List.filter_cons];by_cases hq : p t' = true
  ·rw [if_pos hq,if_pos (hp hq)]; simp
  ·rw [if_neg hq]; split <;> simp
 | a :: l,i + 1,t,t',h=>by
  intro hp;have ih:=count_set_le p (ts:=l) (i:=i) (t:=t) (t':=t') (by simpa using h) hp;unfold count at *;rw [List.set_cons_succ,List.filter_cons,List.filter_cons];split <;> simp <;> omega
def Passed (g : Gh) (M : PMem) (c : Int) (ts : List PThread) (x p : Int) : Prop:=p = 0\/(x≠0/\Ln M p = 2/\Gd g c ts p/\g.B p<=g.B x)
open Classical in
noncomputable def wp (L : Nat) (g : Gh) (M : PMem) (c : Int) (ts : List PThread) (x : Int) : Nat:=((List.range L).filter (fun p=>decide (¬ Passed g M c ts x ((p : Nat) : Int)))).length
def Ahd (x : Int) (u : PThread) : Prop:=u.busy = true/\u.work.kind = 2/\(u.work.next = 9\/u.work.next = 10)/\u.work.stand = x
def Lk (g : Gh) (M : PMem) (c : Int) (ts : List PThread) (x : Int) : Prop:=x = 0\/(Ln M x = 2/\Gd g c ts x/\(¬ g.O x\/Ex ts (Ahd x)))
structure Okk (g : Gh) (M : PMem) (c : Int) (ts : List PThread) (k : PWork) : Prop where
 s : Lk g M c ts k.stand
 a : k.stand≠0->Lk g M c ts k.above/\Ld M k.above (sd M k.above k.key) = k.stand
 h : 5<=k.next->Ld M k.stand (sd M k.stand k.key) = k.ahead
open Classical in
noncomputable def stale (g : Gh) (M : PMem) (c : Int) (ts : List PThread) (k : PWork) : Nat:=if Okk g M c ts k then 0 else 1
def unl (t : PThread) : Bool:=t.busy && (decide (t.work.kind = 1\/t.work.kind = 2) && decide (t.work.next<=10))
noncomputable def phi (L : Nat) (g : Gh) (M : PMem) (c : Int) (ts : List PThread) (n : Nat) (t : PThread) : Nat :=
 if t.busy = false then 0
 else if t.work.kind = 3\/t.work.kind = 4 then (if t.work.next = 13 then 1 else if t.work.next = 4 then 2 + rs g t.work else L + 7 - t.work.next)
 else if 7<=t.work.next then 14 - t.work.next
 else (if t.work.next = 6 then 9 else if t.work.next = 5 then 11 - t.work.locks else if t.work.next = 4 then 11 + wp L g M c ts t.work.stand else L + 15 - t.work.next) + (n + (if 4<=t.work.next then stale g M c ts t.work else 0)) * (L + 2)
noncomputable def Phi (L : Nat) (g : Gh) (P : PSt) : Nat:=(P.ts.map (phi L g P.mem P.clock P.ts (count unl P.ts))).sum
section
variable {g g' : Gh} {M M' : PMem} {c c' T : Int} {r r' : PSweep} {i j : Nat} {t t' u : PThread} {ts ts' : List PThread} {P P' : PSt} {x d st : Int} {s : Bool} {key : Int} {k : PWork} {n : Int} {tr : Tr} {L : Nat}
open Classical in
theorem wp_mono (h : ∀ p,Passed g M c ts x p->Passed g' M' c' ts' x p) : wp L g' M' c' ts' x<=wp L g M c ts x:=by
 refine filt_le _ _ _ ?_;intro a _ hq;simp only [decide_eq_true_eq] at hq ⊢;exact fun hp=>hq (h _ hp)
open Classical in
theorem wp_le (hL : 1<=L) (g : Gh) (M : PMem) (c : Int) (ts : List PThread) (x : Int) : wp L g M c ts x + 1<=L:=by
 have h:=filt_lt (fun _ : Nat=>true) (fun p=>decide (¬ Passed g M c ts x ((p : Nat) : Int))) (List.range L) (fun _ _ _=>rfl) ⟨0,by simp; omega,rfl,by simp; exact .inl rfl⟩;have h2:=List.length_filter_le (fun _ : Nat=>true) (List.range L);rw [List.length_range] at h2;exact Nat.le_trans h h2
open Classical in
theorem Inv.wp_pos (h : Inv g P) (hL : 2<=L) (x : Int) : 1<=wp L g P.mem P.clock P.ts x:=by
 have h1:=h.n.one.2.2.1;have : 0 < ((List.range L).filter (fun p=>decide (¬ Passed g P.mem P.clock P.ts x ((p : Nat) : Int)))).length:=by
  refine List.length_pos_of_mem (a:=1) (List.mem_filter.2 ⟨by simp; omega,?_⟩);simp only [decide_eq_true_eq];rintro (e | ⟨_,e,_⟩)
  ·exact absurd e (by decide)
  ·have e : Ln P.mem 1 = 2:=e;omega
 exact this
open Classical in
theorem Inv.wp_lt (h : Inv g P) (hL : P.mem.ns.length = L) (hd : Ln P.mem d = 2) (hg : Gd g P.clock P.ts d) (hlt : g.B x < g.B d) : wp L g P.mem P.clock P.ts d < wp L g P.mem P.clock P.ts x:=by
 have hu:=h.usedGd (.inr hg);have hr:=hasN_iff.1 (hasN_used hu);have h0 : d≠0:=fun e=>h.gd0 (e ▸ hg)
 refine filt_lt _ _ _ ?_ ⟨d.toNat,by simp; omega,?_,?_⟩
 ·intro a _ hq;simp only [decide_eq_true_eq] at hq ⊢;rintro (e | ⟨e1,e2,e3,e4⟩)
  ·exact hq (.inl e)
  ·exact hq (.inr ⟨h0,e2,e3,by omega⟩)
 ·simp only [decide_eq_true_eq];have e : ((d.toNat : Nat) : Int) = d:=by omega
  rw [e];rintro (q | ⟨_,_,_,q⟩)
  ·exact h0 q
  ·omega
 ·have e : ((d.toNat : Nat) : Int) = d:=by omega
  rw [e];simp only [decide_eq_false_iff_not,Classical.not_not];exact .inr ⟨h0,hd,hg,Int.le_refl _⟩
theorem stale_le (g : Gh) (M : PMem) (c : Int) (ts : List PThread) (k : PWork) : stale g M c ts k<=1:=by unfold stale; split <;> omega
theorem stale_zero (h : Okk g M c ts k) : stale g M c ts k = 0:=by unfold stale; rw [if_pos h]
theorem stale_mono {k' : PWork} (h : Okk g M c ts k->Okk g' M' c' ts' k') : stale g' M' c' ts' k'<=stale g M c ts k:=by
 unfold stale;split
 ·omega
 ·next h1 =>
  split
  ·next h2=>exact absurd (h h2) h1
  ·omega
theorem Inv.lkOn (h : Inv g P) (hx : Lk g P.mem P.clock P.ts x) (hs : x = 0->s = false) (hl : Ln P.mem (Ld P.mem x s) = 2) : Lk g P.mem P.clock P.ts (Ld P.mem x s):=by
 have hx' : x = 0\/(Ln P.mem x = 2/\Gd g P.clock P.ts x):=by
  rcases hx with e | e
  ·exact .inl e
  ·exact .inr ⟨e.1,e.2.1⟩
 have hg:=(h.n.ph x s hx' hs).1;refine .inr ⟨hl,hg,?_⟩;by_cases hO : g.O (Ld P.mem x s)
 ·right;have viaT : x = 0/\s = false\/(g.V P.clock).Inn x->Ex P.ts (Ahd (Ld P.mem x s)):=by
   intro hi;obtain ⟨j,u,hj,b,hk,hn,e1,_⟩:=h.outLed hi hO;exact ⟨j,u,hj,b,hk,hn,e1⟩
  rcases hx with e | ⟨e1,e2,e3⟩
  ·exact viaT (.inl ⟨e,hs e⟩)
  ·by_cases hOx : g.O x
   ·exfalso;obtain ⟨j,u,hj,b,hk,hn,e⟩:=e3.resolve_left (fun q=>q hOx);have hT:=h.th j u hj;have q:=(hT.q9 b hk (by omega)).1;subst e;by_cases hss : s = sd P.mem u.work.stand u.work.key
    ·rw [hss,q.ld] at hl
     have:=(hT.cs b (by omega) (by omega)).2.2.1; omega
    ·rw [notSide hss] at hO;exact (h.n.ou _ hO).2.1 (Tr.ed_has q.a).1
   ·refine viaT (.inr ?_);have hH:=e2.1.resolve_left hOx;exact (h.n.inn hH).1.1 e1
 ·exact .inl hO
theorem Inv.okPass (h : Inv g P) (ht : P.ts[i]? = some t) (hb : t.busy = true) (hn : t.work.next = 6) (hok : Okk g P.mem P.clock P.ts t.work) : ¬ P.outdated t.work = true:=by
 have hT:=h.th i t ht;have live : ∀ x,Us P.mem x->Ho P.mem x = i->Lk g P.mem P.clock P.ts x->(P.mem.node x).dead = false:=by
  intro x hu hh hl;cases hd : (P.mem.node x).dead
  ·rfl
  ·exfalso;have hO:=h.n.od x hd;rcases hl with e | ⟨_,_,e⟩
   ·subst e;exact (h.n.ou 0 hO).2.2.1 rfl
   ·obtain ⟨j,u,hj,b,hk,hn',e⟩:=e.resolve_left (fun q=>q hO);have hs:=(h.th j u hj).hStand b (by omega) (by omega);rw [e,hh] at hs;have : i = j:=by have:=hs.2; omega
    subst this;rw [ht] at hj; injection hj with hj; subst hj
    omega
 rw [h.outd ht hb (by omega) (by omega)];rw [Classical.not_not];have hS:=hT.hStand hb (by omega) (by omega);refine ⟨live _ hS.1 hS.2 hok.s,hok.h (by omega),?_⟩;intro hm;have hA:=hT.hAbove h.n.one.1 hb (by omega) (by omega) hm;have hz:=hT.ns h.n.one.1 hb (by omega) (by omega) hm
 have:=hok.a hz
 exact ⟨live _ hA.1 hA.2 this.1,this.2⟩
end
end T
end
section
namespace T
section
variable {g g' : Gh} {M M' : PMem} {c c' T : Int} {r r' : PSweep} {i j : Nat} {t t' u : PThread} {ts ts' : List PThread} {P P' : PSt} {x d st : Int} {s : Bool} {key : Int} {k : PWork} {n : Int} {tr : Tr} {L : Nat}
theorem Inv.frStep (h : Inv g P) (ht : P.ts[i]? = some t) (hb : t.busy = true) (hu : Us P.mem x) (hf : Ex (P.step i t).1.ts (Fr x)) : Ex P.ts (Fr x):=by
 obtain ⟨P',n,hs,ho⟩:=h.out ht hb;rw [hs] at hf;have fin : ∀ {t' : PThread},Ex (P.ts.set i t') (Fr x)->(Fr x t'->Fr x t)->Ex P.ts (Fr x):=by
  intro t' hh hn;rcases (Ex.get ht).1 hh with e | ⟨j,u,_,hj,e⟩
  ·exact ⟨i,t,ht,hn e⟩
  ·exact ⟨j,u,hj,e⟩
 cases ho with
 | rwait=>exact hf
 | lwait=>exact hf
 | leave=>exact fin hf (fun e=>nomatch e.1)
 | prepI hn hk hr1 hr2 a n M1 ep ua un =>
  refine fin hf ?_;rintro ⟨_,_,_,e⟩;have e : x ∈ [a,n]:=e;simp at e;rcases e with rfl | rfl
  ·exact absurd hu ua
  ·exact absurd hu un
 | prepR hn hk=>exact fin hf (fun e=>by have : t.work.kind = 1:=e.2.1; omega)
 | come1=>exact fin hf (fun e=>by have : (2 : Nat) = 8\/(2 : Nat) = 10:=e.2.2.1; omega)
 | come2=>exact fin hf (fun e=>by have : (3 : Nat) = 8\/(3 : Nat) = 10:=e.2.2.1; omega)
 | come3=>exact fin hf (fun e=>by have : (4 : Nat) = 8\/(4 : Nat) = 10:=e.2.2.1; omega)
 | rgo hn hk hp k ek hsk=>exact fin hf (fun e=>by have : k.next = 8\/k.next = 10:=e.2.2.1; omega)
 | walkOn hn=>exact fin hf (fun e=>by have : t.work.next = 8\/t.work.next = 10:=e.2.2.1; omega)
 | walkEnd=>exact fin hf (fun e=>by have : (5 : Nat) = 8\/(5 : Nat) = 10:=e.2.2.1; omega)
 | lock hn hk hh nn hnn hn56=>exact fin hf (fun e=>by have : nn = 8\/nn = 10:=e.2.2.1; omega)
 | home=>exact fin hf (fun e=>by have : (4 : Nat) = 8\/(4 : Nat) = 10:=e.2.2.1; omega)
 | same=>exact fin hf (fun e=>by have : (12 : Nat) = 8\/(12 : Nat) = 10:=e.2.2.1; omega)
 | right=>exact fin hf (fun e=>by have : (7 : Nat) = 8\/(7 : Nat) = 10:=e.2.2.1; omega)
 | full=>exact fin hf (fun e=>by have : (12 : Nat) = 8\/(12 : Nat) = 10:=e.2.2.1; omega)
 | late=>exact fin hf (fun e=>by have : (12 : Nat) = 8\/(12 : Nat) = 10:=e.2.2.1; omega)
 | takeI hn hk=>exact fin hf (fun e=>⟨hb,hk,.inl hn,e.2.2.2⟩)
 | takeR=>exact fin hf (fun e=>by have : (9 : Nat) = 8\/(9 : Nat) = 10:=e.2.2.1; omega)
 | kill hn hk=>exact fin hf (fun e=>by have : t.work.kind = 1:=e.2.1; omega)
 | link=>exact fin hf (fun e=>by have : (11 : Nat) = 8\/(11 : Nat) = 10:=e.2.2.1; omega)
 | stamp=>exact fin hf (fun e=>by have : (12 : Nat) = 8\/(12 : Nat) = 10:=e.2.2.1; omega)
 | unlock=>exact fin hf (fun e=>by have : (13 : Nat) = 8\/(13 : Nat) = 10:=e.2.2.1; omega)
theorem Inv.ohStep (h : Inv g P) (ht : P.ts[i]? = some t) (hb : t.busy = true) (hx : g.O x\/(g.V P.clock).Has x) : (nextG g P i t).O x\/((nextG g P i t).V (P.step i t).1.clock).Has x:=by
 rw [h.clockStep ht hb];unfold nextG;by_cases hk : Took P t
 ·rw [if_pos hk,if_pos hk];obtain ⟨hn,hkd,hl⟩:=id hk;by_cases k2 : t.work.kind = 2
  ·rw [if_pos k2];have hcut:=h.cut ht hb (by omega) (by omega) k2;have hgo:=h.found ht hb (by omega) (by omega);show (g.O x\/x = t.work.stand\/x = t.work.ahead)\/Tr.Has (if P.clock + 1 = P.clock + 1 then _ else _) x;rw [if_pos rfl]
   have:=Tr.del_has (z:=x) h.n.gt.dj h.n.gt.z hcut
   rw [hgo] at this;rcases hx with e | e
   ·exact .inl (.inl e)
   ·by_cases q1 : x = t.work.stand
    ·exact .inl (.inr (.inl q1))
    ·by_cases q2 : x = t.work.ahead
     ·exact .inl (.inr (.inr q2))
     ·exact .inr (this.2 ⟨e,q1,q2⟩)
  ·rw [if_neg k2];show g.O x\/Tr.Has (if P.clock + 1 = P.clock + 1 then _ else _) x;rw [if_pos rfl];rcases hx with e | e
   ·exact .inl e
   ·exact .inr (Tr.ins_has.2 (.inl e))
 ·rw [if_neg hk,if_neg hk]; exact hx
theorem Inv.gdStep (h : Inv g P) (ht : P.ts[i]? = some t) (hb : t.busy = true) (hx : Gd g P.clock P.ts x) : Gd (nextG g P i t) (P.step i t).1.clock (P.step i t).1.ts x :=
 ⟨h.ohStep ht hb hx.1,fun hf=>hx.2 (h.frStep ht hb (h.usedGd (.inr hx)) hf)⟩
theorem Inv.not8 (h : Inv g P) (ht : P.ts[i]? = some t) (hx : x = 0\/Gd g P.clock P.ts x) : ¬ Fr8 x t:=by
 intro hf;have hf' : Fr x t:=⟨hf.1,hf.2.1,.inl hf.2.2.1,hf.2.2.2⟩;rcases hx with e | e
 ·exact (h.freshUs ht hf').2.1 e
 ·exact e.2 ⟨i,t,ht,hf'⟩
theorem Inv.bStep (h : Inv g P) (ht : P.ts[i]? = some t) (hb : t.busy = true) (hx : x = 0\/Gd g P.clock P.ts x) : (nextG g P i t).B x = g.B x:=by
 unfold nextG;by_cases hk : Took P t
 ·rw [if_pos hk];obtain ⟨hn,hkd,hl⟩:=id hk;by_cases k2 : t.work.kind = 2
  ·rw [if_pos k2]; rfl
  ·rw [if_neg k2];have k1 : t.work.kind = 1:=by omega
   obtain ⟨a,n,q⟩:=(h.th i t ht).f8 hb k1 hn;show (if x = t.work.made[1]?.getD 0 then _ else g.B x) = _;rw [if_neg];intro e;rw [q.md] at e;have e : x = n:=e;exact h.not8 ht hx ⟨hb,k1,hn,by rw [q.md,e]; simp⟩
 ·rw [if_neg hk]
theorem Inv.ldStep (h : Inv g P) (ht : P.ts[i]? = some t) (hb : t.busy = true) (hn10 : t.work.next≠10) (hu : Us P.mem x) (h8 : ¬ Fr8 x t) : ((P.step i t).1.mem.node x).leads = (P.mem.node x).leads:=by
 have hT:=h.th i t ht;obtain ⟨P',n,hs,ho⟩:=h.out ht hb;rw [hs];cases ho with
 | lock hn hk hh nn hnn hn56 =>
  have l1:=(h.lockIs ht hb hn).1;show ((P.mem.modN _ _).node x).leads = _;rw [node_modN (hasN_used l1)];split
  ·next e=>rw [e]
  ·rfl
 | home=>exact ((unlock_hold P.mem i).to x).2.2.2.2.2.1
 | prepI hn hk hr1 hr2 a n M1 ep ua un ne nd=>exact congrArg PNode.leads (nd x (fun e=>ua (e ▸ hu)) (fun e=>un (e ▸ hu)))
 | prepR hn hk hr M1 em nd=>exact congrArg PNode.leads (nd x)
 | late hn hk hl M1 em nd=>show (M1.node x).leads = _; rw [nd,if_neg h8]
 | takeI hn hk hl a n q M1 em nd=>exact congrArg PNode.leads (nd x)
 | kill hn hk M1 em =>
  have m:=h.mine ht hb (by omega) (by omega);have hto : P.takenOut t.work = [t.work.ahead,t.work.stand]:=by unfold PSt.takenOut; rw [if_pos h.kind]
  show (M1.node x).leads = _;rw [em,hto,(kills_two (h.usedGd (.inr m.ah)) m.us h.wm).2.2 x]
 | link hn=>exact absurd hn hn10
 | stamp hn hk d0 hp M1 em nd=>exact congrArg PNode.leads (nd x)
 | unlock hn hk M1 em =>
  show (M1.node x).leads = _;rw [em];have hl:=unlock_hold P.mem i;split
  ·next hh =>
   have m:=h.mine ht hb (by omega) (by omega);have hto : P.takenOut t.work = [t.work.ahead,t.work.stand]:=by unfold PSt.takenOut; rw [if_pos h.kind]
   rw [hto,(retires_two (by simp only [Us]; rw [(hl.to _).1]; exact h.usedGd (.inr m.ah)) (by simp only [Us]; rw [(hl.to _).1]; exact m.us) (h.wm.unlock i)).2.2 x];split <;> exact (hl.to x).2.2.2.2.2.1
  ·exact (hl.to x).2.2.2.2.2.1
 | _=>rfl
theorem Inv.tsStep (h : Inv g P) (ht : P.ts[i]? = some t) (hb : t.busy = true) : ∃ t',(P.step i t).1.ts = P.ts.set i t'/\(∀ x,Ahd x t->t.work.next≠10->Ahd x t')/\(Took P t->t.work.kind = 2->Ahd t.work.stand t')/\(unl t' = true->unl t = true)/\(t.work.next = 10->unl t' = false/\unl t = true):=by
 have hT:=h.th i t ht;have same : P.ts.set i t = P.ts:=by
  apply List.ext_getElem?;intro j;rw [List.getElem?_set];split
  ·next e=>subst e; split <;> simp_all
  ·rfl
 have un : ∀ {k : PWork},k.kind = t.work.kind->(k.next<=10->t.work.next<=10)->unl { t with work:=k } = true->unl t = true:=by
  intro k h1 h2;unfold unl;simp only [Bool.and_eq_true,decide_eq_true_eq];rintro ⟨q1,q2,q3⟩;exact ⟨q1,by rw [<- h1]; exact q2,h2 q3⟩
 have un' : ∀ {s : Int} {k : PWork},k.kind = t.work.kind->(k.next<=10->t.work.next<=10)->unl { t with slot:=s,work:=k } = true->unl t = true:=by
  intro s k h1 h2;unfold unl;simp only [Bool.and_eq_true,decide_eq_true_eq];rintro ⟨q1,q2,q3⟩;exact ⟨q1,by rw [<- h1]; exact q2,h2 q3⟩
 obtain ⟨P',n,hs,ho⟩:=h.out ht hb;rw [hs];have na : t.work.next≠9->t.work.next≠10->∀ x,¬ Ahd x t:=by rintro a1 a2 x ⟨_,_,e,_⟩; omega
 have nt : t.work.next≠8->¬ Took P t:=fun a e=>a e.1
 cases ho with
 | come1 hn=>exact ⟨_,rfl,fun x e=>absurd e (na (by omega) (by omega) x),fun e=>absurd e (nt (by omega)),un' rfl (fun _=>by omega),fun e=>by omega⟩
 | come2 hn=>exact ⟨_,rfl,fun x e=>absurd e (na (by omega) (by omega) x),fun e=>absurd e (nt (by omega)),un rfl (fun _=>by omega),fun e=>by omega⟩
 | come3 hn=>exact ⟨_,rfl,fun x e=>absurd e (na (by omega) (by omega) x),fun e=>absurd e (nt (by omega)),un' rfl (fun _=>by omega),fun e=>by omega⟩
 | leave hn=>exact ⟨_,rfl,fun x e=>absurd e (na (by omega) (by omega) x),fun e=>absurd e (nt (by omega)),fun e=>by simp [unl,PThread.leave] at e,fun e=>by omega⟩
 | rwait hn=>exact ⟨t,same.symm,fun x e _=>e,fun e=>absurd e (nt (by omega)),fun e=>e,fun e=>by omega⟩
 | lwait hn=>exact ⟨t,same.symm,fun x e _=>e,fun e=>absurd e (nt (by omega)),fun e=>e,fun e=>by omega⟩
 | rgo hn hk hp k ek hsk=>exact ⟨_,rfl,fun x e=>absurd e (na (by omega) (by omega) x),fun e=>absurd e (nt (by omega)),un hsk.1 (fun _=>by omega),fun e=>by omega⟩
 | walkOn hn hk=>exact ⟨_,rfl,fun x e=>absurd e (na (by omega) (by omega) x),fun e=>absurd e (nt (by omega)),un rfl (fun _=>by omega),fun e=>by omega⟩
 | walkEnd hn hk=>exact ⟨_,rfl,fun x e=>absurd e (na (by omega) (by omega) x),fun e=>absurd e (nt (by omega)),un rfl (fun _=>by omega),fun e=>by omega⟩
 | lock hn hk=>exact ⟨_,rfl,fun x e=>absurd e (na (by omega) (by omega) x),fun e=>absurd e (nt (by omega)),un rfl (fun _=>by omega),fun e=>by omega⟩
 | home hn hk=>exact ⟨_,rfl,fun x e=>absurd e (na (by omega) (by omega) x),fun e=>absurd e (nt (by omega)),un rfl (fun _=>by omega),fun e=>by omega⟩
 | same hn hk=>exact ⟨_,rfl,fun x e=>absurd e (na (by omega) (by omega) x),fun e=>absurd e (nt (by omega)),un rfl (fun _=>by omega),fun e=>by omega⟩
 | right hn hk=>exact ⟨_,rfl,fun x e=>absurd e (na (by omega) (by omega) x),fun e=>absurd e (nt (by omega)),un rfl (fun _=>by omega),fun e=>by omega⟩
 | full hn hk=>exact ⟨_,rfl,fun x e=>absurd e (na (by omega) (by omega) x),fun e=>absurd e (nt (by omega)),un rfl (fun _=>by omega),fun e=>by omega⟩
 | prepI hn hk=>exact ⟨_,rfl,fun x e=>absurd e (na (by omega) (by omega) x),fun e=>absurd e (nt (by omega)),un rfl (fun _=>by omega),fun e=>by omega⟩
 | prepR hn hk=>exact ⟨_,rfl,fun x e=>absurd e (na (by omega) (by omega) x),fun e=>absurd e (nt (by omega)),un rfl (fun _=>by omega),fun e=>by omega⟩
 | late hn hk hl=>exact ⟨_,rfl,fun x e=>absurd e (na (by omega) (by omega) x),fun e=>absurd hl e.2.2,un rfl (fun _=>by omega),fun e=>by omega⟩
 | takeI hn hk hl=>exact ⟨_,rfl,fun x e=>absurd e (na (by omega) (by omega) x),fun _ e=>by omega,un rfl (fun _=>by omega),fun e=>by omega⟩
 | takeR hn hk hl=>exact ⟨_,rfl,fun x e=>absurd e (na (by omega) (by omega) x),fun _ _=>⟨hb,hk,.inl rfl,rfl⟩,un rfl (fun _=>by omega),fun e=>by omega⟩
 | kill hn hk=>exact ⟨_,rfl,fun x e _=>⟨hb,hk,.inr rfl,e.2.2.2⟩,fun e=>absurd e (nt (by omega)),un rfl (fun _=>by omega),fun e=>by omega⟩
 | link hn hk =>
  refine ⟨_,rfl,fun x e a=>absurd hn a,fun e=>absurd e (nt (by omega)),un rfl (fun _=>by omega),fun _=>⟨?_,?_⟩⟩
  ·unfold unl; simp
  ·unfold unl; simp [hb,hk,hn]
 | stamp hn hk=>exact ⟨_,rfl,fun x e=>absurd e (na (by omega) (by omega) x),fun e=>absurd e (nt (by omega)),un rfl (fun e=>by have : 12<=10:=e; omega),fun e=>by omega⟩
 | unlock hn hk=>exact ⟨_,rfl,fun x e=>absurd e (na (by omega) (by omega) x),fun e=>absurd e (nt (by omega)),un rfl (fun e=>by have : 13<=10:=e; omega),fun e=>by omega⟩
theorem Inv.lnStep (h : Inv g P) (ht : P.ts[i]? = some t) (hb : t.busy = true) (hx : x = 0\/Gd g P.clock P.ts x) : Ln (P.step i t).1.mem x = Ln P.mem x/\Ky (P.step i t).1.mem x = Ky P.mem x:=by
 have:=h.keeps ht hb (h.usedGd hx) (h.not8 ht hx)
 exact ⟨this.2.2.1,this.2.1⟩
theorem Inv.lkStep (h : Inv g P) (ht : P.ts[i]? = some t) (hb : t.busy = true) (hn10 : t.work.next≠10) (hx : Lk g P.mem P.clock P.ts x) : Lk (nextG g P i t) (P.step i t).1.mem (P.step i t).1.clock (P.step i t).1.ts x:=by
 rcases hx with e | ⟨e1,e2,e3⟩
 ·exact .inl e
 ·right;refine ⟨by rw [(h.lnStep ht hb (.inr e2)).1]; exact e1,h.gdStep ht hb e2,?_⟩;obtain ⟨t',q1,q2,q3,_⟩:=h.tsStep ht hb;rw [q1];rcases e3 with e | e
  ·by_cases hk : Took P t/\t.work.kind = 2
   ·have hO : (nextG g P i t).O x ↔ g.O x\/x = t.work.stand\/x = t.work.ahead:=by unfold nextG; rw [if_pos hk.1,if_pos hk.2]; exact Iff.rfl
    rw [hO];by_cases es : x = t.work.stand
    ·right; rw [es]; exact Ex.new ht (q3 hk.1 hk.2)
    ·left;rintro (q | q | q)
     ·exact e q
     ·exact es q
     ·have m:=h.mine ht hb (by have:=hk.1.1; omega) (by have:=hk.1.1; omega);rw [q,m.al] at e1; omega
   ·left;have hO : (nextG g P i t).O = g.O:=by
     unfold nextG;by_cases h1 : Took P t
     ·rw [if_pos h1,if_neg (fun e=>hk ⟨h1,e⟩)]; rfl
     ·rw [if_neg h1]
    rw [hO]; exact e
  ·right;exact e.set ht (fun a=>q2 x a hn10)
end
end T
end
section
namespace T
section
variable {g g' : Gh} {M M' : PMem} {c c' T : Int} {r r' : PSweep} {i j : Nat} {t t' u : PThread} {ts ts' : List PThread} {P P' : PSt} {x d st : Int} {s : Bool} {key : Int} {k : PWork} {tr : Tr} {L n n' : Nat}
theorem mul_mono (h : n'<=n) {a b : Nat} (hab : a<=b) : (n' + a) * (L + 2)<=(n + b) * (L + 2):=Nat.mul_le_mul_right _ (by omega)
theorem Inv.wpStep (h : Inv g P) (ht : P.ts[i]? = some t) (hb : t.busy = true) (hx : x = 0\/Gd g P.clock P.ts x) : wp L (nextG g P i t) (P.step i t).1.mem (P.step i t).1.clock (P.step i t).1.ts x<=wp L g P.mem P.clock P.ts x:=by
 refine wp_mono ?_;rintro p (e | ⟨e1,e2,e3,e4⟩)
 ·exact .inl e
 ·exact .inr ⟨e1,by rw [(h.lnStep ht hb (.inr e3)).1]; exact e2,h.gdStep ht hb e3,by rw [h.bStep ht hb (.inr e3),h.bStep ht hb hx]; exact e4⟩
theorem Inv.phi_le (h : Inv g P) (ht : P.ts[i]? = some t) (hb : t.busy = true) (hj : P.ts[j]? = some u) (hn : n' + 1<=n\/(n'<=n/\t.work.next≠10)) :
  phi L (nextG g P i t) (P.step i t).1.mem (P.step i t).1.clock (P.step i t).1.ts n' u<=phi L g P.mem P.clock P.ts n u:=by
 have hU:=h.th j u hj;unfold phi;by_cases hub : u.busy = false
 ·rw [if_pos hub,if_pos hub]; exact Nat.le_refl _
 ·rw [if_neg hub,if_neg hub];have b : u.busy = true:=by simpa using hub
  by_cases hr : u.work.kind = 3\/u.work.kind = 4
  ·rw [if_pos hr,if_pos hr];by_cases h13 : u.work.next = 13
   ·rw [if_pos h13,if_pos h13]; exact Nat.le_refl _
   ·rw [if_neg h13,if_neg h13];by_cases h4 : u.work.next = 4
    ·rw [if_pos h4,if_pos h4];have : rs (nextG g P i t) u.work = rs g u.work:=by unfold rs; rw [nextG_V P t i (hU.tm b (by omega)).1]
     rw [this]; exact Nat.le_refl _
    ·rw [if_neg h4,if_neg h4]; exact Nat.le_refl _
  ·rw [if_neg hr,if_neg hr];by_cases h7 : 7<=u.work.next
   ·rw [if_pos h7,if_pos h7]; exact Nat.le_refl _
   ·rw [if_neg h7,if_neg h7];have hkd:=hU.kd b;have hk : u.work.kind = 1\/u.work.kind = 2:=by omega
    have hg : 4<=u.work.next->u.work.stand = 0\/Gd g P.clock P.ts u.work.stand:=fun h4=>(hU.xs b hk h4 (by omega)).1.z
    have h1 : (if u.work.next = 6 then 9 else if u.work.next = 5 then 11 - u.work.locks else if u.work.next = 4 then 11 + wp L (nextG g P i t) (P.step i t).1.mem (P.step i t).1.clock (P.step i t).1.ts u.work.stand else L + 15 - u.work.next)<=(if u.work.next = 6 then 9 else if u.work.next = 5 then 11 - u.work.locks else if u.work.next = 4 then 11 + wp L g P.mem P.clock P.ts u.work.stand else L + 15 - u.work.next):=by
     by_cases h6 : u.work.next = 6
     ·rw [if_pos h6,if_pos h6]; omega
     ·rw [if_neg h6,if_neg h6];by_cases h5 : u.work.next = 5
      ·rw [if_pos h5,if_pos h5]; omega
      ·rw [if_neg h5,if_neg h5];by_cases h4 : u.work.next = 4
       ·rw [if_pos h4,if_pos h4]
        have:=h.wpStep (L:=L) ht hb (hg (by omega)); omega
       ·rw [if_neg h4,if_neg h4]; omega
    refine Nat.add_le_add h1 ?_;by_cases h4 : 4<=u.work.next
    ·rw [if_pos h4,if_pos h4];rcases hn with hn | ⟨hn,h10⟩
     ·refine Nat.mul_le_mul_right _ ?_
      have:=stale_le (nextG g P i t) (P.step i t).1.mem (P.step i t).1.clock (P.step i t).1.ts u.work
      omega
     ·refine mul_mono hn (stale_mono ?_);intro ok;have lk:=fun x=>h.lkStep (x:=x) ht hb h10
      have gz : ∀ x,Lk g P.mem P.clock P.ts x->x = 0\/Gd g P.clock P.ts x:=by
       rintro x (e | e)
       ·exact .inl e
       ·exact .inr e.2.1
      have ld : ∀ x,Lk g P.mem P.clock P.ts x->∀ k,Ld (P.step i t).1.mem x (sd (P.step i t).1.mem x k) = Ld P.mem x (sd P.mem x k):=by
       intro x hx k;have hz:=gz x hx;have e1:=h.lnStep ht hb hz;rw [sd_congr e1.2 e1.1];simp only [Ld];rw [h.ldStep ht hb h10 (h.usedGd hz) (h.not8 ht hz)]
      refine ⟨lk _ ok.s,fun h0=>?_,fun h5=>?_⟩
      ·have:=ok.a h0
       exact ⟨lk _ this.1,by rw [ld _ this.1]; exact this.2⟩
      ·rw [ld _ ok.s]; exact ok.h h5
    ·rw [if_neg h4,if_neg h4];refine mul_mono ?_ (Nat.le_refl 0);omega
theorem phi_idle {ts : List PThread} (hb : t.busy = false) : phi L g M c ts n t = 0:=by unfold phi; rw [if_pos hb]
theorem phi_r13 {ts : List PThread} (hb : t.busy = true) (hr : t.work.kind = 3\/t.work.kind = 4) (hn : t.work.next = 13) : phi L g M c ts n t = 1:=by
 unfold phi; rw [if_neg (by simp [hb]),if_pos hr,if_pos hn]
theorem phi_r4 {ts : List PThread} (hb : t.busy = true) (hr : t.work.kind = 3\/t.work.kind = 4) (hn : t.work.next = 4) : phi L g M c ts n t = 2 + rs g t.work:=by
 unfold phi; rw [if_neg (by simp [hb]),if_pos hr,if_neg (by omega),if_pos hn]
theorem phi_r3 {ts : List PThread} (hb : t.busy = true) (hr : t.work.kind = 3\/t.work.kind = 4) (hn : t.work.next<=3) : phi L g M c ts n t = L + 7 - t.work.next:=by
 unfold phi; rw [if_neg (by simp [hb]),if_pos hr,if_neg (by omega),if_neg (by omega)]
theorem phi_u7 {ts : List PThread} (hb : t.busy = true) (hr : ¬ (t.work.kind = 3\/t.work.kind = 4)) (hn : 7<=t.work.next) : phi L g M c ts n t = 14 - t.work.next:=by
 unfold phi; rw [if_neg (by simp [hb]),if_neg hr,if_pos hn]
theorem phi_u6 {ts : List PThread} (hb : t.busy = true) (hr : ¬ (t.work.kind = 3\/t.work.kind = 4)) (hn : t.work.next = 6) : phi L g M c ts n t = 9 + (n + stale g M c ts t.work) * (L + 2):=by
 unfold phi; rw [if_neg (by simp [hb]),if_neg hr,if_neg (by omega),if_pos hn,if_pos (by omega)]
theorem phi_u5 {ts : List PThread} (hb : t.busy = true) (hr : ¬ (t.work.kind = 3\/t.work.kind = 4)) (hn : t.work.next = 5) : phi L g M c ts n t = 11 - t.work.locks + (n + stale g M c ts t.work) * (L + 2):=by
 unfold phi; rw [if_neg (by simp [hb]),if_neg hr,if_neg (by omega),if_neg (by omega),if_pos hn,if_pos (by omega)]
theorem phi_u4 {ts : List PThread} (hb : t.busy = true) (hr : ¬ (t.work.kind = 3\/t.work.kind = 4)) (hn : t.work.next = 4) : phi L g M c ts n t = 11 + wp L g M c ts t.work.stand + (n + stale g M c ts t.work) * (L + 2):=by
 unfold phi; rw [if_neg (by simp [hb]),if_neg hr,if_neg (by omega),if_neg (by omega),if_neg (by omega),if_pos hn,if_pos (by omega)]
theorem phi_u3 {ts : List PThread} (hb : t.busy = true) (hr : ¬ (t.work.kind = 3\/t.work.kind = 4)) (hn : t.work.next<=3) : phi L g M c ts n t = L + 15 - t.work.next + n * (L + 2):=by
 unfold phi; rw [if_neg (by simp [hb]),if_neg hr,if_neg (by omega),if_neg (by omega),if_neg (by omega),if_neg (by omega),if_neg (by omega)]; simp
theorem phi_late {ts ts' : List PThread} (hb : t.busy = true) (hk : t.work.kind = 1\/t.work.kind = 2) (h6 : 6<=t.work.next) (h1 : k.kind = t.work.kind) (h2 : t.work.next < k.next) (h3 : k.next<=13) : phi L g' M' c' ts' n' { t with work:=k } < phi L g M c ts n t:=by
 rw [phi_u7 (t:={ t with work:=k }) hb (by show ¬ (k.kind = 3\/k.kind = 4); omega) (by show 7<=k.next; omega)];show 14 - k.next < _
 rcases (show t.work.next = 6\/7<=t.work.next by omega) with e | e
 ·rw [phi_u6 hb (by omega) e]; omega
 ·rw [phi_u7 hb (by omega) e]; omega
theorem Inv.near (h : Inv g P) (hV : InvV g P) (hR : InvR g P) (hL : P.mem.ns.length = L) (ht : P.ts[i]? = some t) (hb : t.busy = true) (hmv : (P.step i t).2≠2) (hn : n'<=n) :
  ∃ t',(P.step i t).1.ts = P.ts.set i t'/\phi L (nextG g P i t) (P.step i t).1.mem (P.step i t).1.clock (P.step i t).1.ts n' t' < phi L g P.mem P.clock P.ts n t:=by
 have hT:=h.th i t ht;have hkd:=hT.kd hb;have hL2 : 2<=L:=by have:=h.wm.len; omega
 have hmul : n' * (L + 2)<=n * (L + 2):=Nat.mul_le_mul_right _ hn;obtain ⟨P',m,hs,ho⟩:=h.out ht hb;have hG : ∀ {k : Nat},t.work.next = k->k≠8->nextG g P i t = g:=fun e1 e2=>nextG_no (fun q=>e2 (e1.symm.trans q.1))
 rw [hs] at hmv ⊢;simp only at hmv ⊢;cases ho with
 | come1 hn1 =>
  refine ⟨_,rfl,?_⟩;by_cases hr : t.work.kind = 3\/t.work.kind = 4
  ·rw [phi_r3 hb hr (by omega),phi_r3 (t:={ t with slot:=1,work:={ t.work with next:=2 } }) hb hr (by show 2<=3; omega)];show L + 7 - 2 < _; omega
  ·rw [phi_u3 hb hr (by omega),phi_u3 (t:={ t with slot:=1,work:={ t.work with next:=2 } }) hb hr (by show 2<=3; omega)];show L + 15 - 2 + _ < _; omega
 | come2 hn1 =>
  refine ⟨_,rfl,?_⟩;by_cases hr : t.work.kind = 3\/t.work.kind = 4
  ·rw [phi_r3 hb hr (by omega),phi_r3 (t:={ t with work:={ t.work with time:=P.clock,next:=3 } }) hb hr (by show 3<=3; omega)];show L + 7 - 3 < _; omega
  ·rw [phi_u3 hb hr (by omega),phi_u3 (t:={ t with work:={ t.work with time:=P.clock,next:=3 } }) hb hr (by show 3<=3; omega)];show L + 15 - 3 + _ < _; omega
 | come3 hn1 =>
  refine ⟨_,rfl,?_⟩;by_cases hr : t.work.kind = 3\/t.work.kind = 4
  ·rw [phi_r3 hb hr (by omega),phi_r4 (t:={ t with slot:=2,work:=t.work.home }) hb hr rfl,hG hn1 (by omega)];obtain ⟨hv,t0,t1⟩:=hV.rd i t ht ⟨hb,hr,by omega,by omega⟩;have hg:=hV.gts _ t0 t1;have hsz:=hv.size hg.dj hg.z;have hle : rs g t.work.home<=(g.V t.work.time).size:=by
    unfold rs;show (if t.work.kind = 3 then (if (0 : Int) = 0 then (g.V t.work.time).len t.work.key + 1 else _) else lsz (g.V t.work.time) t.work.links)<=_;rcases hr with hr | hr
    ·rw [if_pos hr,if_pos rfl]; exact Tr.len_size _
    ·rw [if_neg (by omega),hT.lk hb hr (by omega)]
     have:=Stk.lsz hg.dj hg.z (L:=[(0,false)]) (W:=[g.V t.work.time]) ⟨Tr.su_root 0 false _,trivial⟩
     rw [this]; simp [wsz]
   show 2 + rs g t.work.home < _;omega
  ·rw [phi_u3 hb hr (by omega),phi_u4 (t:={ t with slot:=2,work:=t.work.home }) hb hr rfl];rw [stale_zero (show Okk _ _ _ _ t.work.home from ⟨.inl rfl,fun e=>absurd rfl e,fun e=>by have : 5<=4:=e; omega⟩)]
   have:=wp_le (L:=L) (by omega) (nextG g P i t) P.mem P.clock (P.ts.set i { t with slot:=2,work:=t.work.home }) 0
   show 11 + wp L (nextG g P i t) P.mem P.clock (P.ts.set i { t with slot:=2,work:=t.work.home }) 0 + (n' + 0) * (L + 2) < _;rw [Nat.add_zero]; omega
 | leave hn1 =>
  refine ⟨_,rfl,?_⟩;rw [phi_idle (t:=t.leave) rfl];by_cases hr : t.work.kind = 3\/t.work.kind = 4
  ·rw [phi_r13 hb hr hn1]; omega
  ·rw [phi_u7 hb hr (by omega)]; omega
 | rwait=>exact absurd rfl hmv
 | lwait=>exact absurd rfl hmv
 | rgo hn1 hk hp k ek hsk =>
  refine ⟨_,rfl,?_⟩;obtain ⟨_,h2,h3⟩:=h.readStep hV hR ht hb hn1 hk hp ek;have hk' : k.kind = 3\/k.kind = 4:=by rw [hsk.1]; exact hk
  rw [phi_r4 hb hk hn1,hG hn1 (by omega)];rcases hsk.2.1 with e | e
  ·rw [phi_r4 (t:={ t with work:=k }) hb hk' e]
   have:=h2 e
   show 2 + rs g k < _; omega
  ·rw [phi_r13 (t:={ t with work:=k }) hb hk' e]; omega
 | walkOn hn1 hk hl =>
  refine ⟨_,rfl,?_⟩;have x1:=(hT.xs hb hk (by omega) (by omega)).1;have xz:=x1.sn;have hs0 : t.work.stand = 0->sd P.mem t.work.stand t.work.key = false:=fun e=>by rw [e]; exact sd0 h.n.n0.2.1 _
  obtain ⟨p1,p2,_,_⟩:=h.n.ph _ _ xz hs0;rw [phi_u4 hb (by omega) hn1,phi_u4 (t:={ t with work:={ t.work with above:=t.work.stand,stand:=Ld P.mem t.work.stand (sd P.mem t.work.stand t.work.key) } }) hb (by show ¬ (t.work.kind = 3\/t.work.kind = 4); omega) hn1,hG hn1 (by omega)];have hct : Calm t:=calm7 fun _=>by omega
  have hct' : Calm { t with work:={ t.work with above:=t.work.stand,stand:=Ld P.mem t.work.stand (sd P.mem t.work.stand t.work.key) } }:=calm7 fun _=>.inl (by show t.work.next<=7; omega)
  have hsm:=Same.calm ht hct hct';have hlt:=h.wp_lt hL hl p1 (p2 hl);have hwp : wp L g P.mem P.clock (P.ts.set i { t with work:={ t.work with above:=t.work.stand,stand:=Ld P.mem t.work.stand (sd P.mem t.work.stand t.work.key) } }) (Ld P.mem t.work.stand (sd P.mem t.work.stand t.work.key))<=wp L g P.mem P.clock P.ts (Ld P.mem t.work.stand (sd P.mem t.work.stand t.work.key)):=by
   refine wp_mono ?_;rintro p (e | ⟨e1,e2,e3,e4⟩)
   ·exact .inl e
   ·exact .inr ⟨e1,e2,(hsm.gd p).2 e3,e4⟩
  have hah : ∀ y,Ex (P.ts.set i { t with work:={ t.work with above:=t.work.stand,stand:=Ld P.mem t.work.stand (sd P.mem t.work.stand t.work.key) } }) (Ahd y) ↔ Ex P.ts (Ahd y):=fun y=>ex_iff ht (iff_of_false (by rintro ⟨_,_,e,_⟩; have : t.work.next = 9\/t.work.next = 10:=e; omega) (by rintro ⟨_,_,e,_⟩; omega))
  have lk : ∀ y,Lk g P.mem P.clock P.ts y->Lk g P.mem P.clock (P.ts.set i { t with work:={ t.work with above:=t.work.stand,stand:=Ld P.mem t.work.stand (sd P.mem t.work.stand t.work.key) } }) y:=by
   rintro y (e | ⟨e1,e2,e3⟩)
   ·exact .inl e
   ·exact .inr ⟨e1,(hsm.gd y).2 e2,by rw [hah]; exact e3⟩
  have hst : stale g P.mem P.clock (P.ts.set i { t with work:={ t.work with above:=t.work.stand,stand:=Ld P.mem t.work.stand (sd P.mem t.work.stand t.work.key) } }) { t.work with above:=t.work.stand,stand:=Ld P.mem t.work.stand (sd P.mem t.work.stand t.work.key) }<=stale g P.mem P.clock P.ts t.work:=by
   refine stale_mono (fun ok=>⟨?_,fun _=>⟨lk _ ok.s,rfl⟩,fun e=>by have : 5<=t.work.next:=e; omega⟩);exact lk _ (h.lkOn ok.s hs0 hl)
  have:=mul_mono (L:=L) hn hst
  refine Nat.lt_of_lt_of_le (Nat.add_lt_add_right ?_ _) (Nat.add_le_add_left this _);exact Nat.add_lt_add_left (Nat.lt_of_le_of_lt hwp hlt) 11
 | walkEnd hn1 hk hl =>
  refine ⟨_,rfl,?_⟩;have hl0:=hT.l4 hb (.inl (by omega));rw [phi_u4 hb (by omega) hn1,phi_u5 (t:={ t with work:={ t.work with ahead:=Ld P.mem t.work.stand (sd P.mem t.work.stand t.work.key),next:=5 } }) hb (by show ¬ (t.work.kind = 3\/t.work.kind = 4); omega) rfl,hG hn1 (by omega)];have hct : Calm t:=calm7 fun _=>by omega
  have hct' : Calm { t with work:={ t.work with ahead:=Ld P.mem t.work.stand (sd P.mem t.work.stand t.work.key),next:=5 } }:=calm7 fun _=>.inl (by show 5<=7; omega)
  have hsm:=Same.calm ht hct hct';have hah : ∀ y,Ex (P.ts.set i { t with work:={ t.work with ahead:=Ld P.mem t.work.stand (sd P.mem t.work.stand t.work.key),next:=5 } }) (Ahd y) ↔ Ex P.ts (Ahd y):=fun y=>ex_iff ht (iff_of_false (by rintro ⟨_,_,e,_⟩; have : (5 : Nat) = 9\/(5 : Nat) = 10:=e; omega) (by rintro ⟨_,_,e,_⟩; omega))
  have lk : ∀ y,Lk g P.mem P.clock P.ts y->Lk g P.mem P.clock (P.ts.set i { t with work:={ t.work with ahead:=Ld P.mem t.work.stand (sd P.mem t.work.stand t.work.key),next:=5 } }) y:=by
   rintro y (e | ⟨e1,e2,e3⟩)
   ·exact .inl e
   ·exact .inr ⟨e1,(hsm.gd y).2 e2,by rw [hah]; exact e3⟩
  have hst : stale g P.mem P.clock (P.ts.set i { t with work:={ t.work with ahead:=Ld P.mem t.work.stand (sd P.mem t.work.stand t.work.key),next:=5 } }) { t.work with ahead:=Ld P.mem t.work.stand (sd P.mem t.work.stand t.work.key),next:=5 }<=stale g P.mem P.clock P.ts t.work :=
   stale_mono (fun ok=>⟨lk _ ok.s,fun e=>⟨lk _ (ok.a e).1,(ok.a e).2⟩,fun _=>rfl⟩)
  have:=mul_mono (L:=L) hn hst
  have hw:=h.wp_pos hL2 t.work.stand;refine Nat.lt_of_lt_of_le (Nat.add_lt_add_right ?_ _) (Nat.add_le_add_left this _);show 11 - t.work.locks < _;omega
 | lock hn1 hk hh nn hnn hn56 =>
  refine ⟨_,rfl,?_⟩;have hlk:=hT.l5 hb hn1;have hll:=hl_len P.mem t.work;obtain ⟨l1,_⟩:=h.lockIs ht hb hn1;have hnd:=node_modN (hasN_used l1) (fun x=>{ x with holder:=(i : Int) });have hq : HoldEq P.mem (P.mem.modN (lockNext P.mem t.work) fun x=>{ x with holder:=(i : Int) }):=by
   intro x;rw [hnd];split
   ·next e=>subst e; exact ⟨_,rfl⟩
   ·exact ⟨(P.mem.node x).holder,rfl⟩
  generalize (P.mem.modN (lockNext P.mem t.work) fun x=>{ x with holder:=(i : Int) }) = M1 at *;have hct : Calm t:=calm7 fun _=>by omega
  have hct' : Calm { t with work:={ t.work with locks:=t.work.locks + 1,next:=nn } }:=calm7 fun _=>.inl (by show nn<=7; omega)
  have hsm:=Same.calm ht hct hct';have hah : ∀ y,Ex (P.ts.set i { t with work:={ t.work with locks:=t.work.locks + 1,next:=nn } }) (Ahd y) ↔ Ex P.ts (Ahd y):=fun y=>ex_iff ht (iff_of_false (by rintro ⟨_,_,e,_⟩; have : nn = 9\/nn = 10:=e; omega) (by rintro ⟨_,_,e,_⟩; omega))
  have lk : ∀ y,Lk g P.mem P.clock P.ts y->Lk g M1 P.clock (P.ts.set i { t with work:={ t.work with locks:=t.work.locks + 1,next:=nn } }) y:=by
   rintro y (e | ⟨e1,e2,e3⟩)
   ·exact .inl e
   ·exact .inr ⟨by simp only [Ln]; rw [(hq.to y).2.2.2.2.2.2.1]; exact e1,(hsm.gd y).2 e2,by rw [hah]; exact e3⟩
  have ld : ∀ y q,Ld M1 y (sd M1 y q) = Ld P.mem y (sd P.mem y q):=fun y q=>by rw [hq.sd]; simp only [Ld]; rw [(hq.to y).2.2.2.2.2.1]
  have hst : stale g M1 P.clock (P.ts.set i { t with work:={ t.work with locks:=t.work.locks + 1,next:=nn } }) { t.work with locks:=t.work.locks + 1,next:=nn }<=stale g P.mem P.clock P.ts t.work :=
   stale_mono (fun ok=>⟨lk _ ok.s,fun e=>⟨lk _ (ok.a e).1,by rw [ld]; exact (ok.a e).2⟩,fun _=>by rw [ld]; exact ok.h (by omega)⟩)
  have hmm:=mul_mono (L:=L) hn hst;rw [phi_u5 hb (by omega) hn1,hG hn1 (by omega)];rcases hn56 with e | e
  ·subst e;rw [phi_u5 (t:={ t with work:={ t.work with locks:=t.work.locks + 1,next:=5 } }) hb (by show ¬ (t.work.kind = 3\/t.work.kind = 4); omega) rfl];refine Nat.lt_of_lt_of_le (Nat.add_lt_add_right ?_ _) (Nat.add_le_add_left hmm _);show 11 - (t.work.locks + 1) < 11 - t.work.locks;omega
  ·subst e;rw [phi_u6 (t:={ t with work:={ t.work with locks:=t.work.locks + 1,next:=6 } }) hb (by show ¬ (t.work.kind = 3\/t.work.kind = 4); omega) rfl];refine Nat.lt_of_lt_of_le (Nat.add_lt_add_right ?_ _) (Nat.add_le_add_left hmm _);omega
 | home hn1 hk ho =>
  refine ⟨_,rfl,?_⟩;rw [phi_u6 hb (by omega) hn1,phi_u4 (t:={ t with work:=({ t.work with locks:=0 } : PWork).home }) hb (by show ¬ (t.work.kind = 3\/t.work.kind = 4); omega) rfl];rw [stale_zero (show Okk _ _ _ _ ({ t.work with locks:=0 } : PWork).home from ⟨.inl rfl,fun e=>absurd rfl e,fun e=>by have : 5<=4:=e; omega⟩)];have h1 : stale g P.mem P.clock P.ts t.work = 1:=by
   unfold stale; rw [if_neg (fun ok=>h.okPass ht hb hn1 ok ho)]
  have:=wp_le (L:=L) (by omega) (nextG g P i t) (P.mem.unlock i) P.clock (P.ts.set i { t with work:=({ t.work with locks:=0 } : PWork).home }) 0
  rw [h1];show 11 + wp L (nextG g P i t) (P.mem.unlock i) P.clock (P.ts.set i { t with work:=({ t.work with locks:=0 } : PWork).home }) 0 + (n' + 0) * (L + 2) < _;have e : (n + 1) * (L + 2) = n * (L + 2) + (L + 2):=by rw [Nat.succ_mul]
  rw [Nat.add_zero,e]; omega
 | same hn1 hk=>exact ⟨_,rfl,phi_late hb hk (by omega) rfl (by show t.work.next < 12; omega) (by show 12<=13; omega)⟩
 | right hn1 hk=>exact ⟨_,rfl,phi_late hb hk (by omega) rfl (by show t.work.next < 7; omega) (by show 7<=13; omega)⟩
 | full hn1 hk=>exact ⟨_,rfl,phi_late hb hk (by omega) rfl (by show t.work.next < 12; omega) (by show 12<=13; omega)⟩
 | prepI hn1 hk=>exact ⟨_,rfl,phi_late hb (.inl hk) (by omega) rfl (by show t.work.next < 8; omega) (by show 8<=13; omega)⟩
 | prepR hn1 hk=>exact ⟨_,rfl,phi_late hb (.inr hk) (by omega) rfl (by show t.work.next < 8; omega) (by show 8<=13; omega)⟩
 | late hn1 hk=>exact ⟨_,rfl,phi_late hb hk (by omega) rfl (by show t.work.next < 12; omega) (by show 12<=13; omega)⟩
 | takeI hn1 hk=>exact ⟨_,rfl,phi_late hb (.inl hk) (by omega) rfl (by show t.work.next < 10; omega) (by show 10<=13; omega)⟩
 | takeR hn1 hk=>exact ⟨_,rfl,phi_late hb (.inr hk) (by omega) rfl (by show t.work.next < 9; omega) (by show 9<=13; omega)⟩
 | kill hn1 hk=>exact ⟨_,rfl,phi_late hb (.inr hk) (by omega) rfl (by show t.work.next < 10; omega) (by show 10<=13; omega)⟩
 | link hn1 hk=>exact ⟨_,rfl,phi_late hb hk (by omega) rfl (by show t.work.next < 11; omega) (by show 11<=13; omega)⟩
 | stamp hn1 hk=>exact ⟨_,rfl,phi_late hb hk (by omega) rfl (by show t.work.next < 12; omega) (by show 12<=13; omega)⟩
 | unlock hn1 hk=>exact ⟨_,rfl,phi_late hb hk (by omega) rfl (by show t.work.next < 13; omega) (by show 13<=13; omega)⟩
theorem Inv.drops (h : Inv g P) (hV : InvV g P) (hR : InvR g P) (hL : P.mem.ns.length = L) (ht : P.ts[i]? = some t) (hb : t.busy = true) (hmv : (P.step i t).2≠2) : Phi L (nextG g P i t) (P.step i t).1 < Phi L g P:=by
 have hi:=(List.getElem?_eq_some_iff.1 ht).1;obtain ⟨t1,q1,_,_,q4,q5⟩:=h.tsStep ht hb;have hn : count unl (P.step i t).1.ts<=count unl P.ts:=by rw [q1]; exact count_set_le _ ht q4
 obtain ⟨t',e1,e2⟩:=h.near hV hR hL ht hb hmv hn;have hn' : count unl (P.step i t).1.ts + 1<=count unl P.ts\/(count unl (P.step i t).1.ts<=count unl P.ts/\t.work.next≠10):=by
  by_cases e : t.work.next = 10
  ·left;rw [q1]
   have:=count_set_e (p:=unl) (y:=t1) ht (q5 e).2 (q5 e).1
   omega
  ·exact .inr ⟨hn,e⟩
 unfold Phi;have hmap : ((P.step i t).1.ts.map (phi L (nextG g P i t) (P.step i t).1.mem (P.step i t).1.clock (P.step i t).1.ts (count unl (P.step i t).1.ts))).sum = ((P.ts.set i t').map (phi L (nextG g P i t) (P.step i t).1.mem (P.step i t).1.clock (P.step i t).1.ts (count unl (P.step i t).1.ts))).sum:=by rw [<- e1]
 rw [hmap];refine sum_set _ _ P.ts i t t' ht ?_ e2;intro j u hj hu;exact h.phi_le ht hb hu hn'
end
end T
end
end Go.Proofs.YtfccelbmacjifabGreat
