import Derived.Test.YtfccelbmacjifabGreatP0
import Derived.Test.YtfccelbmacjifabGreatP2
set_option linter.unusedSimpArgs false
set_option maxRecDepth 100000
set_option maxHeartbeats 4000000
namespace Go.Proofs.YtfccelbmacjifabGreat
section
namespace T
structure Gh where
 V : Int->Tr
 B : Int->Int
 R : Int->Int->Prop
 O : Int->Prop
abbrev A (t : Tr) (x : Int) (s : Bool) (d : Int) : Prop:=Tr.Ed 0 false t x s d
structure Gt (t : Tr) : Prop where
 dj : t.Dj
 z : ¬ t.Has 0
 ok : t.Ok
 one : t.Lea 1 1099511627777 0
 kr : ∀ x k v,t.Lea x k v->x≠1->0<=k/\k<=1099511627776
structure Ag (M : PMem) (t : Tr) : Prop where
 n : ∀ x q,t.Nod x q->Us M x/\Ln M x = 2/\Ky M x = q
 l : ∀ x q w,t.Lea x q w->Us M x/\Ln M x = 0/\Ky M x = q/\(M.node x).value = w
def sd (M : PMem) (x k : Int) : Bool:=M.sideFor x k
def Fr8 (x : Int) (t : PThread) : Prop:=t.busy = true/\t.work.kind = 1/\t.work.next = 8/\x ∈ t.work.made
def Fr (x : Int) (t : PThread) : Prop:=t.busy = true/\t.work.kind = 1/\(t.work.next = 8\/t.work.next = 10)/\x ∈ t.work.made
def Tk (x : Int) (t : PThread) : Prop:=t.busy = true/\t.work.kind = 2/\t.work.next = 9/\(x = t.work.stand\/x = t.work.ahead)
def Own (x : Int) (t : PThread) : Prop:=t.busy = true/\t.work.kind = 2/\(t.work.next = 10\/t.work.next = 11\/(t.work.next = 12/\t.work.ans.did = true))/\(x = t.work.stand\/x = t.work.ahead)
def Pair (x y : Int) (t : PThread) : Prop:=t.busy = true/\t.work.kind = 2/\(t.work.next = 9\/t.work.next = 10\/t.work.next = 11\/(t.work.next = 12/\t.work.ans.did = true))/\t.work.stand = x/\t.work.ahead = y
def Pn (x : Int) (s : Bool) (t : PThread) : Prop:=t.busy = true/\(t.work.kind = 1\/t.work.kind = 2)/\8<=t.work.next/\t.work.next<=11/\t.work.tsrc = x/\t.work.tside = s
def Vs (x : Int) (s : Bool) (st : Int) (t : PThread) : Prop:=t.busy = true/\(t.work.kind = 1\/t.work.kind = 2)/\9<=t.work.next/\t.work.next<=11/\t.work.tsrc = x/\t.work.tside = s/\t.work.ans.stamp = st
def Xl (x : Int) (s : Bool) (t : PThread) : Prop:=t.busy = true/\(t.work.kind = 1\/t.work.kind = 2)/\(t.work.next = 9\/t.work.next = 10)/\t.work.tsrc = x/\t.work.tside = s
def Calm (t : PThread) : Prop:=t.busy = true->(t.work.kind = 1\/t.work.kind = 2)->t.work.next<=7\/t.work.next = 13\/(t.work.next = 12/\¬ (t.work.kind = 2/\t.work.ans.did = true))
def Ex (ts : List PThread) (p : PThread->Prop) : Prop:=∃ (i : Nat) (t : PThread),ts[i]? = some t/\p t
theorem Ex.set {ts : List PThread} {i : Nat} {t t' : PThread} {p : PThread->Prop} (ht : ts[i]? = some t) (h : Ex ts p) (hp : p t->p t') : Ex (ts.set i t') p:=by
 obtain ⟨j,u,hj,hu⟩:=h;have hi:=(List.getElem?_eq_some_iff.1 ht).1;by_cases e : i = j
 ·subst e;rw [ht] at hj; injection hj with hj; subst hj
  exact ⟨i,t',by simp [hi],hp hu⟩
 ·exact ⟨j,u,by rw [List.getElem?_set_ne e]; exact hj,hu⟩
theorem Ex.new {ts : List PThread} {i : Nat} {t t' : PThread} {p : PThread->Prop} (ht : ts[i]? = some t) (hp : p t') : Ex (ts.set i t') p:=by
 have hi:=(List.getElem?_eq_some_iff.1 ht).1;exact ⟨i,t',by simp [hi],hp⟩
theorem Ex.or {ts : List PThread} {i : Nat} {t : PThread} {p : PThread->Prop} (ht : ts[i]? = some t) (h : Ex ts p) : p t\/∃ j u,j≠i/\ts[j]? = some u/\p u:=by
 obtain ⟨j,u,hj,hu⟩:=h;by_cases e : j = i
 ·subst e;rw [ht] at hj; injection hj with hj; subst hj
  exact .inl hu
 ·exact .inr ⟨j,u,e,hj,hu⟩
theorem Ex.other {ts : List PThread} {i j : Nat} {u t' : PThread} {p : PThread->Prop} (hj : ts[j]? = some u) (hp : p u) (e : j≠i) : Ex (ts.set i t') p :=
 ⟨j,u,by rw [List.getElem?_set_ne (Ne.symm e)]; exact hj,hp⟩
theorem Ex.get {ts : List PThread} {i : Nat} {t t' : PThread} {p : PThread->Prop} (ht : ts[i]? = some t) : Ex (ts.set i t') p ↔ p t'\/∃ j u,j≠i/\ts[j]? = some u/\p u:=by
 have hi:=(List.getElem?_eq_some_iff.1 ht).1;constructor
 ·intro h;have h2 : (ts.set i t')[i]? = some t':=by simp [hi]
  rcases h.or h2 with h | ⟨j,u,e,hj,hu⟩
  ·exact .inl h
  ·rw [List.getElem?_set_ne (Ne.symm e)] at hj; exact .inr ⟨j,u,e,hj,hu⟩
 ·rintro (h | ⟨j,u,e,hj,hu⟩)
  ·exact Ex.new ht h
  ·exact Ex.other hj hu e
def Safe (M : PMem) (r : PSweep) (i : Nat) (time x : Int) : Prop :=
 Us M x/\(Re M x->time<=Ra M x)/\(i + 1 < r.made->(r.hasTime = true/\r.time<=time)\/(r.clock<=time/\¬ InSw r x))
def Gd (g : Gh) (c : Int) (ts : List PThread) (x : Int) : Prop:=(g.O x\/(g.V c).Has x)/\¬ Ex ts (Fr x)
def Wk (g : Gh) (M : PMem) (c : Int) (ts : List PThread) (key x : Int) : Prop:=x = 0\/(Ln M x = 2/\g.R x key/\Gd g c ts x)
structure InvN (g : Gh) (M : PMem) (c : Int) (r : PSweep) (ts : List PThread) : Prop where
 gt : Gt (g.V c)
 ag : Ag M (g.V c)
 n0 : Us M 0/\Ln M 0 = 1/\(M.node 0).dead = false/\(M.node 0).retired = false
 tn : ∀ x,(g.V c).Has x->(M.node x).dead = false/\(M.node x).retired = false
 us : ∀ x,Us M x->x = 0\/(g.V c).Has x\/g.O x\/Ex ts (Fr8 x)
 ou : ∀ x,g.O x->Us M x/\¬ (g.V c).Has x/\x≠0/\(Ln M x = 0\/Ln M x = 2)
 od : ∀ x,De M x->g.O x
 ot : ∀ x,g.O x->De M x\/Ex ts (Tk x)
 re : ∀ x,Re M x->De M x/\Ra M x<=c
 ro : ∀ x,De M x->Re M x\/Ex ts (Own x)
 lk : ∀ x s d,A (g.V c) x s d->Ld M x s = d\/Ex ts (Xl x s)
 ph : ∀ x s,x = 0\/(Ln M x = 2/\Gd g c ts x)->(x = 0->s = false)->Gd g c ts (Ld M x s)/\(Ln M (Ld M x s) = 2->g.B x < g.B (Ld M x s))/\(Re M (Ld M x s)->Re M x/\Ra M x<=Ra M (Ld M x s))/\(InSw r (Ld M x s)->InSw r x)
 pr : ∀ x s k,x = 0\/(Ln M x = 2/\Gd g c ts x)->(x = 0\/g.R x k)->sd M x k = s->Ln M (Ld M x s) = 2->g.R (Ld M x s) k
 pp : ∀ x s,g.O x->Ln M x = 2->g.O (Ld M x s)->Re M x\/Ex ts (Pair x (Ld M x s))
 rg : ∀ x k,(g.V c).Inn x->(g.R x k ↔ (g.V c).Pth k x)
 bd : ∀ x,g.B x<=c
structure InvE (M : PMem) (c : Int) (ts : List PThread) : Prop where
 ms : ∀ x s st d,Sd M x s st d->Us M x/\0<=st/\st<=c/\b2i s < Ln M x
 pd : ∀ x s d,d ∈ Pd M x s->Ex ts (fun t=>Pn x s t\/Fr8 x t)
structure InvO (M : PMem) (c : Int) (r : PSweep) (ts : List PThread) : Prop where
 ho : ∀ x,Us M x->Ho M x = -1\/∃ i : Nat,i < ts.length/\Ho M x = i
 pw : ∀ (i j : Nat) t u x,ts[i]? = some t->ts[j]? = some u->Fr x t->Fr x u->i = j
 pq : ∀ (i j : Nat) t u x x' y,ts[i]? = some t->ts[j]? = some u->Pair x y t->Pair x' y u->i = j
 sw : ∀ x,InSw r x->Re M x/\Ra M x<=r.clock
 sc : r.clock<=c/\0<=c
 sm : r.made<=ts.length + 2
 sz : r.made = 0->r.retired = []/\r.hasTime = false
def Mt (M : PMem) (k : PWork) : Prop:=k.kind = 2/\Ky M k.ahead = k.key
instance (M : PMem) (k : PWork) : Decidable (Mt M k):=inferInstanceAs (Decidable (_/\_))
def hl (M : PMem) (k : PWork) : List Int:=if Mt M k then [k.above,k.stand] else [k.stand]
def kid (M : PMem) (k : PWork) (a : Int) (b : Bool) : Int:=if decide (Ky M k.ahead < k.key) = b then a else k.ahead
structure New (g : Gh) (M : PMem) (c : Int) (k : PWork) (a n : Int) : Prop where
 md : k.made = [a,n]
 ne : a≠n
 z : a≠0/\n≠0/\a≠1/\n≠1
 ua : Us M a/\Us M n
 h : ¬ (g.V c).Has a/\¬ (g.V c).Has n/\¬ g.O a/\¬ g.O n
 da : (M.node a).dead = false/\(M.node a).retired = false/\Ln M a = 0/\Ky M a = k.key/\(M.node a).value = k.value/\Ho M a = -1
 dn : (M.node n).dead = false/\(M.node n).retired = false/\Ln M n = 2/\Ky M n = (if Ky M k.ahead < k.key then k.key else Ky M k.ahead)/\Ho M n = -1
 ld : ∀ b,Ld M n b = kid M k a b
 pn : ∀ b,Pd M n b = [kid M k a b]
 pa : ∀ b,Pd M a b = []
 sn : ∀ b s d,¬ Sd M n b s d
 sa : ∀ b s d,¬ Sd M a b s d
 ps : Pd M k.stand (sd M k.stand k.key) = [n]
structure Made (g : Gh) (M : PMem) (c : Int) (k : PWork) (a n : Int) : Prop where
 md : k.made = [a,n]
 ne : a≠n
 ua : Us M a/\Us M n/\(g.V c).Has a/\(g.V c).Inn n
 h : Ln M a = 0/\Ln M n = 2/\Ho M n = -1/\Ho M a = -1
 ld : ∀ b,Ld M n b = kid M k a b
 an : ∀ b,A (g.V c) n b (kid M k a b)
 as : A (g.V c) k.stand (sd M k.stand k.key) n
 ps : Pd M k.stand (sd M k.stand k.key) = [n]
 ls : Ld M k.stand (sd M k.stand k.key) = k.ahead
 bn : g.B k.stand < g.B n
structure Outs (g : Gh) (M : PMem) (c : Int) (k : PWork) : Prop where
 o : g.O k.stand/\g.O k.ahead
 re : (M.node k.stand).retired = false/\(M.node k.ahead).retired = false
 ld : Ld M k.stand (sd M k.stand k.key) = k.ahead
 a : A (g.V c) k.above (sd M k.above k.key) (Ld M k.stand (!sd M k.stand k.key))
 ky : Ky M k.ahead = k.key
 ln : Ln M k.stand = 2
structure Th (g : Gh) (M : PMem) (c : Int) (r : PSweep) (ts : List PThread) (i : Nat) (t : PThread) : Prop where
 kd : t.busy = true->t.work.kind = 1\/t.work.kind = 2\/t.work.kind = 3\/t.work.kind = 4
 nx : t.busy = true->1<=t.work.next/\t.work.next<=13
 rd : t.busy = true->(t.work.kind = 3\/t.work.kind = 4)->t.work.next<=4\/t.work.next = 13
 sl : t.slot = if t.busy = true/\t.work.next≠1 then (if t.work.next<=3 then 1 else 2) else 0
 tm : t.busy = true->3<=t.work.next->t.work.time<=c/\(i + 1 < r.made->(r.hasTime = true/\r.time<=t.work.time)\/r.clock<=t.work.time)
 hd : ∀ x,Us M x->(Ho M x = i ↔ t.busy = true/\x ∈ (hl M t.work).take t.work.locks)
 l4 : t.busy = true->t.work.next<=4\/t.work.next = 13->t.work.locks = 0
 l5 : t.busy = true->t.work.next = 5->t.work.locks < (hl M t.work).length
 l6 : t.busy = true->6<=t.work.next->t.work.next<=12->t.work.locks = (hl M t.work).length
 ky : t.busy = true->t.work.kind≠4->0<=t.work.key/\t.work.key<=1099511627776
 hi : t.busy = true->t.work.kind = 4->greatestHi t.work.spans<=1099511627776
 lk : t.busy = true->t.work.kind = 4->t.work.next<=3->t.work.links = [(0,false)]
 l3 : t.busy = true->t.work.kind≠4->t.work.links = []
 m7 : t.busy = true->t.work.next<=7->t.work.made = []
 xs : t.busy = true->t.work.kind = 1\/t.work.kind = 2->4<=t.work.next->t.work.next<=12->Wk g M c ts t.work.key t.work.stand/\Safe M r i t.work.time t.work.stand
 xa : t.busy = true->t.work.kind = 1\/t.work.kind = 2->4<=t.work.next->t.work.next<=12->t.work.stand≠0->Wk g M c ts t.work.key t.work.above/\Safe M r i t.work.time t.work.above/\g.B t.work.above < g.B t.work.stand
 cs : t.busy = true->5<=t.work.next->t.work.next<=12->Gd g c ts t.work.ahead/\Safe M r i t.work.time t.work.ahead/\Ln M t.work.ahead = 0/\(t.work.stand = 0->t.work.ahead = 1)
 n9 : t.busy = true->t.work.next = 9->t.work.kind = 2
 c7 : t.busy = true->7<=t.work.next->t.work.next<=11->(Ky M t.work.ahead = t.work.key ↔ t.work.kind = 2)
 e7 : t.busy = true->7<=t.work.next->t.work.next<=8->A (g.V c) t.work.stand (sd M t.work.stand t.work.key) t.work.ahead/\Ld M t.work.stand (sd M t.work.stand t.work.key) = t.work.ahead/\(t.work.kind = 2->A (g.V c) t.work.above (sd M t.work.above t.work.key) t.work.stand/\Ld M t.work.above (sd M t.work.above t.work.key) = t.work.stand)
 tt : t.busy = true->8<=t.work.next->t.work.next<=11->t.work.tsrc = (if t.work.kind = 2 then t.work.above else t.work.stand)/\t.work.tside = sd M t.work.tsrc t.work.key
 f8 : t.busy = true->t.work.kind = 1->t.work.next = 8->∃ a n,New g M c t.work a n
 f10 : t.busy = true->t.work.kind = 1->t.work.next = 10->∃ a n,Made g M c t.work a n
 q8 : t.busy = true->t.work.kind = 2->8<=t.work.next->t.work.next<=10->Pd M t.work.above (sd M t.work.above t.work.key) = [Ld M t.work.stand (!sd M t.work.stand t.work.key)]/\Ld M t.work.above (sd M t.work.above t.work.key) = t.work.stand/\t.work.made = []
 q9 : t.busy = true->t.work.kind = 2->(t.work.next = 9\/t.work.next = 10\/t.work.next = 11\/(t.work.next = 12/\t.work.ans.did = true))->Outs g M c t.work/\(t.work.next≠9->De M t.work.stand/\De M t.work.ahead)
 p11 : t.busy = true->t.work.next = 11->Pd M t.work.tsrc t.work.tside = [Ld M t.work.tsrc t.work.tside]
 s9 : t.busy = true->9<=t.work.next->t.work.next<=11->t.work.ans.did = true/\t.work.time < t.work.ans.stamp/\0<=t.work.ans.stamp/\t.work.ans.stamp<=c/\∀ s d,Sd M t.work.tsrc t.work.tside s d->s < t.work.ans.stamp
structure Inv (g : Gh) (P : PSt) : Prop where
 kind : P.kind = 1
 wm : Wm P.mem
 n : InvN g P.mem P.clock P.sweep P.ts
 e : InvE P.mem P.clock P.ts
 o : InvO P.mem P.clock P.sweep P.ts
 th : ∀ (i : Nat) t,P.ts[i]? = some t->Th g P.mem P.clock P.sweep P.ts i t
section
variable {t : PThread} {x y st : Int} {s : Bool}
theorem Calm.fr8 (h : Calm t) : ¬ Fr8 x t:=by rintro ⟨h1,h2,h3,_⟩; have:=h h1 (.inl h2); omega
theorem Calm.fr (h : Calm t) : ¬ Fr x t:=by rintro ⟨h1,h2,h3,_⟩; have:=h h1 (.inl h2); omega
theorem Calm.tk (h : Calm t) : ¬ Tk x t:=by rintro ⟨h1,h2,h3,_⟩; have:=h h1 (.inr h2); omega
theorem Calm.own (h : Calm t) : ¬ Own x t:=by rintro ⟨h1,h2,h3,_⟩; have:=h h1 (.inr h2); grind
theorem Calm.pair (h : Calm t) : ¬ Pair x y t:=by rintro ⟨h1,h2,h3,_⟩; have:=h h1 (.inr h2); grind
theorem Calm.pn (h : Calm t) : ¬ Pn x s t:=by rintro ⟨h1,h2,h3,h4,_⟩; have:=h h1 h2; omega
theorem Calm.xl (h : Calm t) : ¬ Xl x s t:=by rintro ⟨h1,h2,h3,_⟩; have:=h h1 h2; omega
end
def HoldEq (M M' : PMem) : Prop:=∀ x,∃ h,M'.node x = { M.node x with holder:=h }
end T
end
section
namespace T
section
variable {g g' : Gh} {M M' : PMem} {c c' : Int} {r : PSweep} {i j : Nat} {t t' u : PThread} {ts ts' : List PThread} {P : PSt} {x : Int}
theorem hl_mem {k : PWork} {n : Nat} : x ∈ (hl M k).take n->x = k.stand\/(Mt M k/\x = k.above):=by
 intro h
 have:=List.mem_of_mem_take h
 unfold hl at this;split at this <;> simp at this <;> grind
theorem hl_len (M : PMem) (k : PWork) : 1<=(hl M k).length/\(hl M k).length<=2/\(Mt M k ↔ (hl M k).length = 2):=by
 unfold hl; split <;> simp_all
theorem hl_stand (M : PMem) (k : PWork) : k.stand ∈ (hl M k).take (hl M k).length:=by unfold hl; split <;> simp
theorem hl_above {k : PWork} (h : Mt M k) : k.above ∈ (hl M k).take (hl M k).length:=by unfold hl; rw [if_pos h]; simp
theorem hl_congr {k : PWork} (h : Ky M' k.ahead = Ky M k.ahead) : hl M' k = hl M k:=by
 have : Mt M' k ↔ Mt M k:=by unfold Mt; rw [h]
 unfold hl; simp only [this]
theorem sd_congr {k : Int} (h : Ky M' x = Ky M x) (h2 : Ln M' x = Ln M x) : sd M' x k = sd M x k:=by
 unfold sd PMem.sideFor;simp only [Ky,Ln] at h h2; rw [h,h2]
theorem InvN.one (h : InvN g M c r ts) : Ky M 1 = 1099511627777/\Us M 1/\Ln M 1 = 0/\(M.node 1).value = 0:=by
 have:=h.ag.l 1 _ _ h.gt.one; grind
theorem Th.mid (h : Th g M c r ts i t) (hb : t.busy = true) (hl : 0 < t.work.locks) : 5<=t.work.next/\t.work.next<=12/\(t.work.kind = 1\/t.work.kind = 2):=by
 have h1:=h.nx hb;have h2:=h.l4 hb;have h3:=h.kd hb;have h4:=h.rd hb;omega
theorem Th.upd (h : Th g M c r ts i t) (hb : t.busy = true) (h5 : 5<=t.work.next) (h12 : t.work.next<=12) : t.work.kind = 1\/t.work.kind = 2:=by
 have h3:=h.kd hb;have h4:=h.rd hb;omega
theorem Th.ns (h : Th g M c r ts i t) (h1 : Ky M 1 = 1099511627777) (hb : t.busy = true) (h5 : 5<=t.work.next) (h12 : t.work.next<=12) (hm : Mt M t.work) : t.work.stand≠0:=by
 intro e
 have:=(h.cs hb h5 h12).2.2.2 e
 have hk:=h.ky hb (by have:=hm.1; omega)
 have:=hm.2
 grind
theorem Th.held (h : Th g M c r ts i t) (h1 : Ky M 1 = 1099511627777) (hx : Us M x) (hh : Ho M x = i) : t.busy = true/\5<=t.work.next/\t.work.next<=12/\(t.work.kind = 1\/t.work.kind = 2)/\(x = t.work.stand\/(Mt M t.work/\x = t.work.above))/\Wk g M c ts t.work.key x:=by
 obtain ⟨hb,hm⟩:=(h.hd x hx).1 hh;have hl : 0 < t.work.locks:=by
  rcases Nat.eq_zero_or_pos t.work.locks with h0 | h0
  ·rw [h0] at hm; simp at hm
  ·exact h0
 obtain ⟨h5,h12,hk⟩:=h.mid hb hl;have hm':=hl_mem hm;refine ⟨hb,h5,h12,hk,hm',?_⟩;rcases hm' with rfl | ⟨hm',rfl⟩
 ·exact (h.xs hb hk (by omega) h12).1
 ·exact (h.xa hb hk (by omega) h12 (h.ns h1 hb h5 h12 hm')).1
theorem Th.hStand (h : Th g M c r ts i t) (hb : t.busy = true) (h6 : 6<=t.work.next) (h12 : t.work.next<=12) : Us M t.work.stand/\Ho M t.work.stand = i:=by
 have hl:=h.l6 hb h6 h12;have hu:=(h.xs hb (h.upd hb (by omega) h12) (by omega) h12).2.1;exact ⟨hu,(h.hd _ hu).2 ⟨hb,by rw [hl]; exact hl_stand _ _⟩⟩
theorem Th.hAbove (h : Th g M c r ts i t) (h1 : Ky M 1 = 1099511627777) (hb : t.busy = true) (h6 : 6<=t.work.next) (h12 : t.work.next<=12) (hm : Mt M t.work) : Us M t.work.above/\Ho M t.work.above = i:=by
 have hl:=h.l6 hb h6 h12;have hu:=(h.xa hb (h.upd hb (by omega) h12) (by omega) h12 (h.ns h1 hb (by omega) h12 hm)).2.1.1;exact ⟨hu,(h.hd _ hu).2 ⟨hb,by rw [hl]; exact hl_above hm⟩⟩
theorem Safe.rely {time x : Int} (h : Safe M r i time x) (hc : time<=c) (hu : Us M' x) (hr : Re M' x->(Re M x/\Ra M' x = Ra M x)\/c<=Ra M' x) : Safe M' r i time x:=by
 refine ⟨hu,?_,h.2.2⟩;intro h1;rcases hr h1 with ⟨h2,h3⟩ | h2
 ·rw [h3]; exact h.2.1 h2
 ·omega
structure Rel (g g' : Gh) (M M' : PMem) (c c' : Int) (ts ts' : List PThread) (j : Nat) (u : PThread) : Prop where
 cc : c<=c'
 ga : ∀ x,Gd g c ts x->Gd g' c' ts' x
 gn : ∀ x,x = 0\/Gd g c ts x->Us M' x/\Ky M' x = Ky M x/\Ln M' x = Ln M x/\g'.B x = g.B x/\(∀ k,g.R x k->g'.R x k)/\(Re M' x->(Re M x/\Ra M' x = Ra M x)\/c<=Ra M' x)
 go : ∀ x,g.O x->g'.O x
 gb : ∀ x,(Us M x/\Ho M x = j)\/Fr x u->M'.node x = M.node x/\(∀ s,Pd M' x s = Pd M x s)/\(∀ s st d,Sd M' x s st d->Sd M x s st d)/\(∀ s d,A (g.V c) x s d->A (g'.V c') x s d)/\g'.B x = g.B x
 gf : ∀ x,Fr8 x u->¬ (g'.V c').Has x/\¬ g'.O x
 gp : ∀ x y,Pair x y u->M'.node y = M.node y
 gc : ∀ x,Us M' x->(Ho M' x = j ↔ Us M x/\Ho M x = j)
 z : ¬ (g'.V c').Has 0
theorem Th.rely (h : Th g M c r ts j t) (h1 : Ky M 1 = 1099511627777) (f : Rel g g' M M' c c' ts ts' j t) : Th g' M' c' r ts' j t:=by
 obtain ⟨cc,ga,gn,go,gb,gf,gp,gc,gz⟩:=f;have kU:=fun b h5 h12=>h.upd (b : t.busy = true) h5 h12
 have hah : t.busy = true->5<=t.work.next->t.work.next<=12->Ky M' t.work.ahead = Ky M t.work.ahead:=by
  intro b h5 h12;exact (gn _ (.inr (h.cs b h5 h12).1)).2.1
 have hhl : t.busy = true->5<=t.work.next->t.work.next<=12->hl M' t.work = hl M t.work:=fun b h5 h12=>hl_congr (hah b h5 h12)
 have wk : ∀ x,Wk g M c ts t.work.key x->Wk g' M' c' ts' t.work.key x:=by
  rintro x (e | ⟨w1,w2,w3⟩)
  ·exact .inl e
  ·have:=gn x (.inr w3)
   exact .inr ⟨by rw [this.2.2.1]; exact w1,this.2.2.2.2.1 _ w2,ga x w3⟩
 have wz : ∀ x,Wk g M c ts t.work.key x->x = 0\/Gd g c ts x:=by
  rintro x (e | ⟨w1,w2,w3⟩)
  ·exact .inl e
  ·exact .inr w3
 have hst : t.busy = true->6<=t.work.next->t.work.next<=12->M'.node t.work.stand = M.node t.work.stand/\(∀ s,Pd M' t.work.stand s = Pd M t.work.stand s)/\(∀ s st d,Sd M' t.work.stand s st d->Sd M t.work.stand s st d)/\(∀ s d,A (g.V c) t.work.stand s d->A (g'.V c') t.work.stand s d)/\g'.B t.work.stand = g.B t.work.stand:=by
  intro b h6 h12;exact gb _ (.inl (h.hStand b h6 h12))
 have hab : t.busy = true->6<=t.work.next->t.work.next<=12->Mt M t.work->M'.node t.work.above = M.node t.work.above/\(∀ s,Pd M' t.work.above s = Pd M t.work.above s)/\(∀ s st d,Sd M' t.work.above s st d->Sd M t.work.above s st d)/\(∀ s d,A (g.V c) t.work.above s d->A (g'.V c') t.work.above s d)/\g'.B t.work.above = g.B t.work.above:=by
  intro b h6 h12 hm;exact gb _ (.inl (h.hAbove h1 b h6 h12 hm))
 have sds : t.busy = true->6<=t.work.next->t.work.next<=12->sd M' t.work.stand t.work.key = sd M t.work.stand t.work.key:=by
  intro b h6 h12
  have:=(hst b h6 h12).1
  exact sd_congr (by simp only [Ky]; rw [this]) (by simp only [Ln]; rw [this])
 have sda : t.busy = true->6<=t.work.next->t.work.next<=12->Mt M t.work->sd M' t.work.above t.work.key = sd M t.work.above t.work.key:=by
  intro b h6 h12 hm
  have:=(hab b h6 h12 hm).1
  exact sd_congr (by simp only [Ky]; rw [this]) (by simp only [Ln]; rw [this])
 have mt2 : t.busy = true->7<=t.work.next->t.work.next<=11->t.work.kind = 2->Mt M t.work:=fun b h7 h11 hk=>⟨hk,(h.c7 b h7 h11).2 hk⟩
 have mt3 : t.busy = true->t.work.kind = 2->(t.work.next = 9\/t.work.next = 10\/t.work.next = 11\/(t.work.next = 12/\t.work.ans.did = true))->Mt M t.work:=fun b hk hn=>⟨hk,(h.q9 b hk hn).1.ky⟩
 have tsrc : t.busy = true->8<=t.work.next->t.work.next<=11->M'.node t.work.tsrc = M.node t.work.tsrc/\(∀ s,Pd M' t.work.tsrc s = Pd M t.work.tsrc s)/\(∀ s st d,Sd M' t.work.tsrc s st d->Sd M t.work.tsrc s st d)/\sd M' t.work.tsrc t.work.key = sd M t.work.tsrc t.work.key:=by
  intro b h8 h11;have e:=(h.tt b h8 h11).1;by_cases hk : t.work.kind = 2
  ·rw [e,if_pos hk];have hm:=mt2 b (by omega) h11 hk
   have:=hab b (by omega) (by omega) hm
   exact ⟨this.1,this.2.1,this.2.2.1,sda b (by omega) (by omega) hm⟩
  ·rw [e,if_neg hk]
   have:=hst b (by omega) (by omega)
   exact ⟨this.1,this.2.1,this.2.2.1,sds b (by omega) (by omega)⟩
 refine ⟨h.kd,h.nx,h.rd,h.sl,?_,?_,h.l4,?_,?_,h.ky,h.hi,h.lk,h.l3,h.m7,?_,?_,?_,h.n9,?_,?_,?_,?_,?_,?_,?_,?_,?_⟩
 ·intro b h3; have:=h.tm b h3; exact ⟨by omega,this.2⟩
 ·intro x hu;rw [gc x hu];constructor
  ·rintro ⟨h2,h3⟩;have h4:=(h.hd x h2).1 h3;have h5:=h.held h1 h2 h3;rw [hhl h4.1 h5.2.1 h5.2.2.1]; exact h4
  ·rintro ⟨h2,h3⟩;have hlk : 0 < t.work.locks:=by
    rcases Nat.eq_zero_or_pos t.work.locks with h0 | h0
    ·rw [h0] at h3; simp at h3
    ·exact h0
   obtain ⟨h5,h12,hk⟩:=h.mid h2 hlk;rw [hhl h2 h5 h12] at h3;have hux : Us M x:=by
    rcases hl_mem h3 with rfl | ⟨hm,rfl⟩
    ·exact (h.xs h2 hk (by omega) h12).2.1
    ·exact (h.xa h2 hk (by omega) h12 (h.ns h1 h2 h5 h12 hm)).2.1.1
   exact ⟨hux,(h.hd x hux).2 ⟨h2,h3⟩⟩
 ·intro b h5; rw [hhl b (by omega) (by omega)]; exact h.l5 b h5
 ·intro b h6 h12; rw [hhl b (by omega) h12]; exact h.l6 b h6 h12
 ·intro b hk h4 h12;obtain ⟨q1,q2⟩:=h.xs b hk h4 h12
  have:=gn _ (wz _ q1)
  exact ⟨wk _ q1,q2.rely (h.tm b (by omega)).1 this.1 this.2.2.2.2.2⟩
 ·intro b hk h4 h12 hs;obtain ⟨q1,q2,q3⟩:=h.xa b hk h4 h12 hs;have e1:=gn _ (wz _ q1);have e2:=gn _ (wz _ (h.xs b hk h4 h12).1);exact ⟨wk _ q1,q2.rely (h.tm b (by omega)).1 e1.1 e1.2.2.2.2.2,by rw [e1.2.2.2.1,e2.2.2.2.1]; exact q3⟩
 ·intro b h5 h12;obtain ⟨q1,q2,q3,q4⟩:=h.cs b h5 h12;have e1:=gn _ (.inr q1);exact ⟨ga _ q1,q2.rely (h.tm b (by omega)).1 e1.1 e1.2.2.2.2.2,by rw [e1.2.2.1]; exact q3,q4⟩
 ·intro b h7 h11;rw [hah b (by omega) (by omega)]; exact h.c7 b h7 h11
 ·intro b h7 h8;obtain ⟨q1,q2,q3⟩:=h.e7 b h7 h8;have e1:=hst b (by omega) (by omega);rw [sds b (by omega) (by omega)];refine ⟨e1.2.2.2.1 _ _ q1,by simp only [Ld]; rw [e1.1]; exact q2,?_⟩;intro hk;obtain ⟨q4,q5⟩:=q3 hk;have hm:=mt2 b h7 (by omega) hk;have e2:=hab b (by omega) (by omega) hm;rw [sda b (by omega) (by omega) hm];exact ⟨e2.2.2.2.1 _ _ q4,by simp only [Ld]; rw [e2.1]; exact q5⟩
 ·intro b h8 h11;obtain ⟨q1,q2⟩:=h.tt b h8 h11;exact ⟨q1,by rw [(tsrc b h8 h11).2.2.2]; exact q2⟩
 ·intro b hk hn;obtain ⟨a,n,q⟩:=h.f8 b hk hn;have f8a : Fr8 a t:=⟨b,hk,hn,by rw [q.md]; simp⟩;have f8n : Fr8 n t:=⟨b,hk,hn,by rw [q.md]; simp⟩;obtain ⟨ea,pa,sa,_⟩:=gb a (.inr ⟨b,hk,.inl hn,f8a.2.2.2⟩);obtain ⟨en,pn,sn,_⟩:=gb n (.inr ⟨b,hk,.inl hn,f8n.2.2.2⟩);have es:=hst b (by omega) (by omega);have hk' : ∀ z,kid M' t.work a z = kid M t.work a z:=fun z=>by unfold kid; rw [hah b (by omega) (by omega)]
  refine ⟨a,n,q.md,q.ne,q.z,?_,?_,?_,?_,?_,?_,?_,?_,?_,?_⟩
  ·simp only [Us]; rw [ea,en]; exact q.ua
  ·have e1:=gf a f8a; have e2:=gf n f8n; exact ⟨e1.1,e2.1,e1.2,e2.2⟩
  ·simp only [Ln,Ky,Ho]; rw [ea]; exact q.da
  ·rw [hah b (by omega) (by omega)]; simp only [Ln,Ho]; rw [show Ky M' n = Ky M n by simp only [Ky]; rw [en],en]; exact q.dn
  ·intro z; rw [hk']; simp only [Ld]; rw [en]; exact q.ld z
  ·intro z; rw [hk',pn]; exact q.pn z
  ·intro z; rw [pa]; exact q.pa z
  ·intro z s d hh; exact q.sn z s d (sn _ _ _ hh)
  ·intro z s d hh; exact q.sa z s d (sa _ _ _ hh)
  ·rw [sds b (by omega) (by omega),es.2.1]; exact q.ps
 ·intro b hk hn;obtain ⟨a,n,q⟩:=h.f10 b hk hn;have fa : Fr a t:=⟨b,hk,.inr hn,by rw [q.md]; simp⟩;have fn : Fr n t:=⟨b,hk,.inr hn,by rw [q.md]; simp⟩;obtain ⟨ea,pa,sa,_⟩:=gb a (.inr fa);obtain ⟨en,pn,sn,an,bn⟩:=gb n (.inr fn);have es:=hst b (by omega) (by omega);have hk' : ∀ z,kid M' t.work a z = kid M t.work a z:=fun z=>by unfold kid; rw [hah b (by omega) (by omega)]
  have aa : ∀ z,A (g'.V c') n z (kid M' t.work a z):=fun z=>by rw [hk']; exact an _ _ (q.an z)
  have as' : A (g'.V c') t.work.stand (sd M' t.work.stand t.work.key) n:=by rw [sds b (by omega) (by omega)]; exact es.2.2.2.1 _ _ q.as
  have hasa : (g'.V c').Has a:=by
   have:=aa (decide (Ky M' t.work.ahead < t.work.key))
   unfold kid at this;rw [if_pos rfl] at this;exact (Tr.ed_has this).1
  have innn : (g'.V c').Inn n:=by
   rcases (Tr.ed_has (aa false)).2 with e | e
   ·have:=(Tr.ed_has as').1
    rw [e] at this; exact absurd this gz
   ·exact e
  refine ⟨a,n,q.md,q.ne,?_,?_,?_,aa,as',?_,?_,?_⟩
  ·simp only [Us]; rw [ea,en]; exact ⟨q.ua.1,q.ua.2.1,hasa,innn⟩
  ·simp only [Ln,Ho]; rw [ea,en]; exact q.h
  ·intro z; rw [hk']; simp only [Ld]; rw [en]; exact q.ld z
  ·rw [sds b (by omega) (by omega),es.2.1]; exact q.ps
  ·rw [sds b (by omega) (by omega)]; simp only [Ld]; rw [es.1]; exact q.ls
  ·rw [es.2.2.2.2,bn]; exact q.bn
 ·intro b hk h8 h10;obtain ⟨q1,q2,q3⟩:=h.q8 b hk h8 h10;have hm:=mt2 b (by omega) (by omega) hk;have e1:=hst b (by omega) (by omega);have e2:=hab b (by omega) (by omega) hm;rw [sda b (by omega) (by omega) hm,sds b (by omega) (by omega),e2.2.1];simp only [Ld];rw [e1.1,e2.1]; exact ⟨q1,q2,q3⟩
 ·intro b hk hn;obtain ⟨q,qd⟩:=h.q9 b hk hn;have hm:=mt3 b hk hn;have e1:=hst b (by omega) (by omega);have e2:=hab b (by omega) (by omega) hm;have e3:=gp _ _ (show Pair t.work.stand t.work.ahead t from ⟨b,hk,hn,rfl,rfl⟩);refine ⟨⟨⟨go _ q.o.1,go _ q.o.2⟩,?_,?_,?_,?_,?_⟩,?_⟩
  ·rw [e1.1,e3]; exact q.re
  ·rw [sds b (by omega) (by omega)]; simp only [Ld]; rw [e1.1]; exact q.ld
  ·rw [sds b (by omega) (by omega),sda b (by omega) (by omega) hm]; simp only [Ld]; rw [e1.1]; exact e2.2.2.2.1 _ _ q.a
  ·rw [hah b (by omega) (by omega)]; exact q.ky
  ·simp only [Ln]; rw [e1.1]; exact q.ln
  ·intro h9; simp only [De]; rw [e1.1,e3]; exact qd h9
 ·intro b hn;have e:=tsrc b (by omega) (by omega);simp only [Ld];rw [e.2.1,e.1]; exact h.p11 b hn
 ·intro b h9 h11;obtain ⟨q1,q2,q3,q4,q5⟩:=h.s9 b h9 h11;exact ⟨q1,q2,q3,by omega,fun s d hh=>q5 s d ((tsrc b (by omega) h11).2.2.1 _ _ _ hh)⟩
end
end T
end
section
namespace T
section
variable {g g' : Gh} {M M' : PMem} {c c' : Int} {r : PSweep} {i j : Nat} {t t' u : PThread} {ts ts' : List PThread} {P : PSt} {x : Int}
theorem ex_iff {p : PThread->Prop} (ht : ts[i]? = some t) (h : p t' ↔ p t) : Ex (ts.set i t') p ↔ Ex ts p:=by
 constructor
 ·intro hh;rcases (Ex.get ht).1 hh with h1 | ⟨j,u,_,h2,h3⟩
  ·exact ⟨i,t,ht,h.1 h1⟩
  ·exact ⟨j,u,h2,h3⟩
 ·intro hh; exact hh.set ht h.2
structure Same (ts ts' : List PThread) : Prop where
 fr8 : ∀ x,Ex ts' (Fr8 x) ↔ Ex ts (Fr8 x)
 fr : ∀ x,Ex ts' (Fr x) ↔ Ex ts (Fr x)
 tk : ∀ x,Ex ts' (Tk x) ↔ Ex ts (Tk x)
 own : ∀ x,Ex ts' (Own x) ↔ Ex ts (Own x)
 pair : ∀ x y,Ex ts' (Pair x y) ↔ Ex ts (Pair x y)
 xl : ∀ x s,Ex ts' (Xl x s) ↔ Ex ts (Xl x s)
 pn : ∀ x s,Ex ts' (fun t=>Pn x s t\/Fr8 x t) ↔ Ex ts (fun t=>Pn x s t\/Fr8 x t)
theorem Same.calm (ht : ts[i]? = some t) (h : Calm t) (h' : Calm t') : Same ts (ts.set i t'):=by
 constructor <;> intros <;> apply ex_iff ht
 ·exact iff_of_false h'.fr8 h.fr8
 ·exact iff_of_false h'.fr h.fr
 ·exact iff_of_false h'.tk h.tk
 ·exact iff_of_false h'.own h.own
 ·exact iff_of_false h'.pair h.pair
 ·exact iff_of_false h'.xl h.xl
 ·exact iff_of_false (fun hh=>hh.elim (fun q=>h'.pn q) (fun q=>h'.fr8 q)) (fun hh=>hh.elim (fun q=>h.pn q) (fun q=>h.fr8 q))
theorem Same.gd (h : Same ts ts') (x : Int) : Gd g c ts' x ↔ Gd g c ts x:=by unfold Gd; rw [h.fr]
theorem HoldEq.refl (M : PMem) : HoldEq M M:=fun x=>⟨(M.node x).holder,rfl⟩
theorem HoldEq.to (hh : HoldEq M M') (x : Int) : (M'.node x).used = (M.node x).used/\(M'.node x).dead = (M.node x).dead/\(M'.node x).retired = (M.node x).retired/\(M'.node x).retiredAt = (M.node x).retiredAt/\(M'.node x).key = (M.node x).key/\(M'.node x).leads = (M.node x).leads/\(M'.node x).links = (M.node x).links/\(M'.node x).value = (M.node x).value:=by
 obtain ⟨g,hg⟩:=hh x; rw [hg]; exact ⟨rfl,rfl,rfl,rfl,rfl,rfl,rfl,rfl⟩
theorem HoldEq.sd (hh : HoldEq M M') (x k : Int) : sd M' x k = sd M x k:=sd_congr (hh.to x).2.2.2.2.1 (hh.to x).2.2.2.2.2.2.1
theorem InvN.congr (h : InvN g M c r ts) (hh : HoldEq M M') (hs : Same ts ts') : InvN g M' c r ts':=by
 have q:=hh.to;have q1:=fun x=>(q x).1
 have q2:=fun x=>(q x).2.1
 have q3:=fun x=>(q x).2.2.1
 have q4:=fun x=>(q x).2.2.2.1
 have q5:=fun x=>(q x).2.2.2.2.1
 have q6:=fun x=>(q x).2.2.2.2.2.1
 have q7:=fun x=>(q x).2.2.2.2.2.2.1
 have q8:=fun x=>(q x).2.2.2.2.2.2.2
 have q9:=hh.sd;obtain ⟨gt,⟨ag1,ag2⟩,n0,tn,us,ou,od,ot,re,ro,lk,ph,pr,pp,rg,bd⟩:=h;have hgd:=fun x=>hs.gd (g:=g) (c:=c) x
 obtain ⟨s1,s2,s3,s4,s5,s6,s7⟩:=hs;refine ⟨gt,⟨?_,?_⟩,?_,?_,?_,?_,?_,?_,?_,?_,?_,?_,?_,?_,rg,bd⟩ <;> simp only [Us,De,Re,Ra,Ky,Ld,Ln,q1,q2,q3,q4,q5,q6,q7,q8,q9,hgd,s1,s2,s3,s4,s5,s6] at * <;> assumption
theorem InvE.congr (h : InvE M c ts) (hh : HoldEq M M') (he : M'.es = M.es) (hs : Same ts ts') : InvE M' c ts':=by
 have q:=hh.to;refine ⟨?_,?_⟩
 ·intro x s st d hd
  have:=h.ms x s st d ((sd_es he _ _ _ _).1 hd)
  simp only [Us,Ln] at this ⊢;rw [(q x).1,(q x).2.2.2.2.2.2.1]; exact this
 ·intro x s d hd;rw [pd_es he] at hd;exact (hs.pn x s).2 (h.pd x s d hd)
theorem Inv.heldGd (h : Inv g P) (hj : P.ts[j]? = some u) (hx : Us P.mem x) (hh : Ho P.mem x = j) : x = 0\/(Ln P.mem x = 2/\Gd g P.clock P.ts x):=by
 rcases ((h.th j u hj).held h.n.one.1 hx hh).2.2.2.2.2 with e | ⟨e1,e2,e3⟩
 ·exact .inl e
 ·exact .inr ⟨e1,e3⟩
theorem Inv.freshUs (h : Inv g P) (hj : P.ts[j]? = some u) (hf : Fr x u) : Us P.mem x/\x≠0/\Ho P.mem x = -1:=by
 obtain ⟨b,hk,hn,hm⟩:=hf;rcases hn with hn | hn
 ·obtain ⟨a,n,q⟩:=(h.th j u hj).f8 b hk hn;rw [q.md] at hm
  have:=q.ua; have:=q.z; have:=q.da; have:=q.dn
  simp at hm; grind
 ·obtain ⟨a,n,q⟩:=(h.th j u hj).f10 b hk hn;rw [q.md] at hm
  have:=q.ua; have:=q.h; have:=h.n.gt.z
  have e1:=@Tr.inn_has;simp at hm; grind
theorem Inv.usedGd (h : Inv g P) (hx : x = 0\/Gd g P.clock P.ts x) : Us P.mem x:=by
 rcases hx with rfl | ⟨hx | hx,_⟩
 ·exact h.n.n0.1
 ·exact (h.n.ou x hx).1
 ·rcases Tr.has_or hx with ⟨q,hq⟩ | ⟨q,w,hq⟩
  ·exact (h.n.ag.n x q hq).1
  ·exact (h.n.ag.l x q w hq).1
theorem Inv.gd0 (h : Inv g P) : ¬ Gd g P.clock P.ts 0:=by
 rintro ⟨hx | hx,_⟩
 ·exact (h.n.ou 0 hx).2.2.1 rfl
 ·exact h.n.gt.z hx
theorem Inv.hold (h : Inv g P) (ht : P.ts[i]? = some t) (hct : Calm t) (hct' : Calm t') (hw : Wm M') (he : M'.es = P.mem.es) (hh : HoldEq P.mem M')
  (chg : ∀ x,M'.node x = P.mem.node x\/((x = 0\/(Ln P.mem x = 2/\Gd g P.clock P.ts x))/\(Ho P.mem x = -1\/Ho P.mem x = i)/\(Ho M' x = -1\/Ho M' x = i)))
  (hth : Th g M' P.clock P.sweep (P.ts.set i t') i t') : Inv g { P with mem:=M',ts:=P.ts.set i t' }:=by
 have hi:=(List.getElem?_eq_some_iff.1 ht).1;have hs:=Same.calm ht hct hct';have q:=hh.to;have q1:=fun x=>(q x).1
 have q3:=fun x=>(q x).2.2.1
 have q4:=fun x=>(q x).2.2.2.1
 refine ⟨h.kind,hw,h.n.congr hh hs,h.e.congr hh he hs,?_,?_⟩
 ·obtain ⟨ho,pw,pq,sw,sc,sm,sz⟩:=h.o;refine ⟨?_,?_,?_,?_,sc,by simpa using sm,sz⟩
  ·intro x hx;simp only [Us,q1] at hx;rcases chg x with h1 | ⟨_,_,h1 | h1⟩
   ·have:=ho x hx
    simp only [Ho,h1,List.length_set] at this ⊢;exact this
   ·exact .inl h1
   ·exact .inr ⟨i,by simpa using hi,h1⟩
  ·intro a b u v x ha hb hu hv;rw [List.getElem?_set] at ha hb
   have:=hct'.fr (x:=x)
   grind
  ·intro a b u v x x' y ha hb hu hv;rw [List.getElem?_set] at ha hb
   have:=hct'.pair (x:=x) (y:=y)
   have:=hct'.pair (x:=x') (y:=y)
   grind
  ·intro x hx;simp only [Re,Ra,q3,q4];exact sw x hx
 ·intro j u hj;rw [List.getElem?_set] at hj;by_cases ej : i = j
  ·subst ej; simp [hi] at hj; subst hj; exact hth
  ·rw [if_neg ej] at hj;have hT:=h.th j u hj;have nd : ∀ x,(Us P.mem x/\Ho P.mem x = j)\/Fr x u->M'.node x = P.mem.node x:=by
    intro x hx;rcases chg x with h1 | ⟨h1,h2,_⟩
    ·exact h1
    ·exfalso;rcases hx with hx | hx
     ·simp only [Ho] at hx h2; omega
     ·rcases h1 with rfl | h1
      ·exact (h.freshUs hj hx).2.1 rfl
      ·exact h1.2.2 ⟨j,u,hj,hx⟩
   refine hT.rely h.n.one.1 ⟨Int.le_refl _,fun x hx=>(hs.gd x).2 hx,?_,fun x hx=>hx,?_,?_,?_,?_,h.n.gt.z⟩
   ·intro x hx;have hu:=h.usedGd hx;obtain ⟨a1,a2,a3,a4,a5,a6,a7,a8⟩:=q x;refine ⟨by simp only [Us]; rw [a1]; exact hu,a5,a7,rfl,fun _ hk=>hk,?_⟩;intro hr;left;simp only [Re,Ra] at hr ⊢;rw [a3] at hr; exact ⟨hr,a4⟩
   ·intro x hx;exact ⟨nd x hx,fun s=>pd_es he x s,fun s st d=>(sd_es he x s st d).1,fun s d hh=>hh,rfl⟩
   ·intro x hx;obtain ⟨b,hk,hn,hm⟩:=hx;obtain ⟨a,n,q⟩:=hT.f8 b hk hn;rw [q.md] at hm
    have:=q.h
    simp at hm; grind
   ·intro x y hp;rcases chg y with h1 | ⟨h1,h2,h3⟩
    ·exact h1
    ·exfalso
     -- its leaf is held by nobody
     obtain ⟨b,hk,hn,e1,e2⟩:=hp;have hc:=hT.cs b (by omega) (by omega);have hz:=h.gd0;rw [e2] at hc;rcases h1 with h1 | ⟨h1,_⟩
     ·rw [h1] at hc; exact hz hc.1
     ·have:=hc.2.2.1; omega
   ·intro x hu;have hu' : Us P.mem x:=by show (P.mem.node x).used = true; rw [<- q1]; exact hu
    rcases chg x with h1 | ⟨_,h2,h3⟩
    ·simp only [Ho,h1]; exact ⟨fun h=>⟨hu',h⟩,fun h=>h.2⟩
    ·constructor
     ·intro h4; simp only [Ho] at h3 h4; omega
     ·rintro ⟨_,h4⟩; simp only [Ho] at h2 h4; omega
theorem Inv.calm (h : Inv g P) (ht : P.ts[i]? = some t) (hct : Calm t) (hct' : Calm t') (hth : Th g P.mem P.clock P.sweep (P.ts.set i t') i t') : Inv g { P with ts:=P.ts.set i t' } :=
 h.hold ht hct hct' h.wm rfl (HoldEq.refl _) (fun _=>.inl rfl) hth
end
end T
end
section
namespace T
section
variable {g g' : Gh} {M M' : PMem} {c c' : Int} {r : PSweep} {i j : Nat} {t t' u : PThread} {ts ts' : List PThread} {P : PSt} {x : Int}
theorem Th.low (h4 : t.busy = true->t.work.next<=4\/t.work.next = 13)
  (kd : t.busy = true->t.work.kind = 1\/t.work.kind = 2\/t.work.kind = 3\/t.work.kind = 4)
  (nx : t.busy = true->1<=t.work.next/\t.work.next<=13)
  (sl : t.slot = if t.busy = true/\t.work.next≠1 then (if t.work.next<=3 then 1 else 2) else 0)
  (tm : t.busy = true->3<=t.work.next->t.work.time<=c/\(i + 1 < r.made->(r.hasTime = true/\r.time<=t.work.time)\/r.clock<=t.work.time))
  (hd : ∀ x,Us M x->¬ Ho M x = i)
  (l4 : t.busy = true->t.work.locks = 0)
  (ky : t.busy = true->t.work.kind≠4->0<=t.work.key/\t.work.key<=1099511627776)
  (hi : t.busy = true->t.work.kind = 4->greatestHi t.work.spans<=1099511627776)
  (lk : t.busy = true->t.work.kind = 4->t.work.next<=3->t.work.links = [(0,false)])
  (l3 : t.busy = true->t.work.kind≠4->t.work.links = [])
  (m7 : t.busy = true->t.work.next<=7->t.work.made = [])
  (xs : t.busy = true->t.work.kind = 1\/t.work.kind = 2->t.work.next = 4->Wk g M c ts t.work.key t.work.stand/\Safe M r i t.work.time t.work.stand)
  (xa : t.busy = true->t.work.kind = 1\/t.work.kind = 2->t.work.next = 4->t.work.stand≠0->Wk g M c ts t.work.key t.work.above/\Safe M r i t.work.time t.work.above/\g.B t.work.above < g.B t.work.stand) : Th g M c r ts i t:=by
 constructor
 case kd=>exact kd
 case nx=>exact nx
 case sl=>exact sl
 case tm=>exact tm
 case ky=>exact ky
 case hi=>exact hi
 case lk=>exact lk
 case l3=>exact l3
 case m7=>exact m7
 case hd =>
  intro x hx;refine iff_of_false (hd x hx) ?_;rintro ⟨b,hm⟩;rw [l4 b] at hm; simp at hm
 case l4=>exact fun b _=>l4 b
 case xs=>intro b hk h1 h2; exact xs b hk (by have:=h4 b; omega)
 case xa=>intro b hk h1 h2; exact xa b hk (by have:=h4 b; omega)
 all_goals (intro b; intros; have:=h4 b; omega)
theorem calm7 (h6 : t.busy = true->t.work.next<=7\/t.work.next = 13) : Calm t:=fun b _=>by have:=h6 b; omega
theorem Th.free (h : Th g M c r ts i t) (hl : t.busy = true->t.work.next<=4\/t.work.next = 13) (x : Int) (hx : Us M x) : ¬ Ho M x = i:=by
 rw [h.hd x hx];rintro ⟨b,hm⟩;rw [h.l4 b (hl b)] at hm;simp at hm
theorem Inv.safe0 (h : Inv g P) {time : Int} (ht : i + 1 < P.sweep.made->(P.sweep.hasTime = true/\P.sweep.time<=time)\/P.sweep.clock<=time) (hx : x = 0\/(g.V P.clock).Has x) : Safe P.mem P.sweep i time x:=by
 have hr : (P.mem.node x).retired = false:=by
  rcases hx with rfl | hx
  ·exact h.n.n0.2.2.2
  ·exact (h.n.tn x hx).2
 have hu : Us P.mem x:=by
  rcases hx with rfl | hx
  ·exact h.n.n0.1
  ·rcases Tr.has_or hx with ⟨q,hq⟩ | ⟨q,w,hq⟩
   ·exact (h.n.ag.n x q hq).1
   ·exact (h.n.ag.l x q w hq).1
 refine ⟨hu,?_,?_⟩
 ·intro hh; simp only [Re] at hh; rw [hr] at hh; cases hh
 ·intro hm;rcases ht hm with h3 | h3
  ·exact .inl h3
  ·refine .inr ⟨h3,fun hs=>?_⟩
   have:=(h.o.sw x hs).1
   simp only [Re] at this; rw [hr] at this; cases this
theorem Inv.step1 (h : Inv g P) (ht : P.ts[i]? = some t) (hb : t.busy = true) (hn : t.work.next = 1) : Inv g { P with ts:=P.ts.set i { t with slot:=1,work:={ t.work with next:=2 } } }:=by
 have hT:=h.th i t ht;refine h.calm ht (calm7 fun _=>by omega) (calm7 fun _=>.inl (by show 2<=7; omega)) ?_;refine Th.low (fun _=>.inl (by show 2<=4; omega)) hT.kd (fun _=>by show 1<=2/\2<=13; omega) (by simp [hb]) (fun _ h3=>by have : 3<=2:=h3; omega) (hT.free fun _=>by omega) (fun b=>hT.l4 b (by omega)) hT.ky hT.hi (fun b k _=>hT.lk b k (by omega)) hT.l3 (fun b _=>hT.m7 b (by omega)) (fun _ _ h=>by have : 2 = 4:=h; omega) (fun _ _ h=>by have : 2 = 4:=h; omega)
theorem Inv.step2 (h : Inv g P) (ht : P.ts[i]? = some t) (hb : t.busy = true) (hn : t.work.next = 2) : Inv g { P with ts:=P.ts.set i { t with work:={ t.work with time:=P.clock,next:=3 } } }:=by
 have hT:=h.th i t ht;have hsl:=hT.sl;rw [hn] at hsl;refine h.calm ht (calm7 fun _=>by omega) (calm7 fun _=>.inl (by show 3<=7; omega)) ?_;refine Th.low (fun _=>.inl (by show 3<=4; omega)) hT.kd (fun _=>by show 1<=3/\3<=13; omega) (by simpa [hb] using hsl) (fun _ h3=>⟨Int.le_refl _,fun _=>.inr h.o.sc.1⟩) (hT.free fun _=>by omega) (fun b=>hT.l4 b (by omega)) hT.ky hT.hi (fun b k _=>hT.lk b k (by omega)) hT.l3 (fun b _=>hT.m7 b (by omega)) (fun _ _ h=>by have : 3 = 4:=h; omega) (fun _ _ h=>by have : 3 = 4:=h; omega)
theorem Inv.step3 (h : Inv g P) (ht : P.ts[i]? = some t) (hb : t.busy = true) (hn : t.work.next = 3) : Inv g { P with ts:=P.ts.set i { t with slot:=2,work:=t.work.home } }:=by
 have hT:=h.th i t ht;have htm:=hT.tm hb (by omega);refine h.calm ht (calm7 fun _=>by omega) (calm7 fun _=>.inl (by show 4<=7; omega)) ?_;refine Th.low (fun _=>.inl (by show 4<=4; omega)) hT.kd (fun _=>by show 1<=4/\4<=13; omega) (by simp [hb,PWork.home]) (fun _ h3=>htm) (hT.free fun _=>by omega) (fun b=>hT.l4 b (by omega)) hT.ky hT.hi (fun b k h=>by have : 4<=3:=h; omega) hT.l3 (fun b _=>hT.m7 b (by omega)) (fun _ _ _=>⟨.inl rfl,h.safe0 htm.2 (.inl rfl)⟩) (fun _ _ _ h=>absurd rfl h)
theorem Inv.step13 (h : Inv g P) (ht : P.ts[i]? = some t) (hn : t.work.next = 13) : Inv g { P with ts:=P.ts.set i t.leave }:=by
 have hT:=h.th i t ht;refine h.calm ht (calm7 fun _=>by omega) (calm7 fun b=>by cases b) ?_;exact Th.low (fun b=>by cases b) (fun b=>by cases b) (fun b=>by cases b) rfl (fun b=>by cases b) (hT.free fun _=>by omega) (fun b=>by cases b) (fun b=>by cases b) (fun b=>by cases b) (fun b=>by cases b) (fun b=>by cases b) (fun b=>by cases b) (fun b=>by cases b) (fun b=>by cases b)
theorem Inv.begin (h : Inv g P) (ht : P.ts[i]? = some t) (hb : t.busy = false) {k : PWork} (h1 : k.next = 1) (h2 : k.kind = 1\/k.kind = 2\/k.kind = 3\/k.kind = 4) (h3 : k.locks = 0) (h4 : k.made = []) (h5 : k.kind≠4->0<=k.key/\k.key<=1099511627776) (h6 : k.kind = 4->greatestHi k.spans<=1099511627776) (h7 : k.kind = 4->k.links = [(0,false)]) (h8 : k.kind≠4->k.links = []) : Inv g { P with ts:=P.ts.set i { t with busy:=true,work:=k } }:=by
 have hT:=h.th i t ht;have hsl:=hT.sl;rw [hb] at hsl;refine h.calm ht (calm7 fun b=>by rw [hb] at b; cases b) (calm7 fun b=>.inl (by show k.next<=7; omega)) ?_;exact Th.low (fun b=>.inl (by show k.next<=4; omega)) (fun b=>h2) (fun b=>by show 1<=k.next/\k.next<=13; omega) (by simpa [h1] using hsl) (fun b q=>by have : 3<=k.next:=q; omega) (hT.free fun b=>by rw [hb] at b; cases b) (fun b=>h3) (fun b=>h5) (fun b=>h6) (fun b q _=>h7 q) (fun b=>h8) (fun b _=>h4) (fun b _ q=>by have : k.next = 4:=q; omega) (fun b _ q=>by have : k.next = 4:=q; omega)
theorem Inv.readTo (h : Inv g P) (ht : P.ts[i]? = some t) (hb : t.busy = true) (hn : t.work.next = 4) (hk : t.work.kind = 3\/t.work.kind = 4) {k : PWork} (h1 : k.kind = t.work.kind) (h2 : k.next = 4\/k.next = 13) (h3 : k.locks = t.work.locks) (h4 : k.key = t.work.key) (h5 : k.spans = t.work.spans) (h6 : k.time = t.work.time) (h7 : k.made = t.work.made) (h8 : k.kind≠4->k.links = t.work.links) : Inv g { P with ts:=P.ts.set i { t with work:=k } }:=by
 have hT:=h.th i t ht;have hsl:=hT.sl;have htm:=hT.tm hb (by omega);refine h.calm ht (calm7 fun _=>by omega) (calm7 fun _=>by show k.next<=7\/k.next = 13; omega) ?_;refine Th.low (fun _=>by show k.next<=4\/k.next = 13; omega) (fun b=>by show k.kind = 1\/_; rw [h1]; exact hT.kd hb) (fun _=>by show 1<=k.next/\k.next<=13; omega) ?_ (fun _ h3=>by show k.time<=_/\_; rw [h6]; exact htm) (hT.free fun _=>by omega) (fun b=>by show k.locks = 0; rw [h3]; exact hT.l4 b (by omega)) (fun b q=>by show 0<=k.key/\k.key<=_; rw [h4]; exact hT.ky b (by rw [<- h1]; exact q)) (fun b q=>by show greatestHi k.spans<=_; rw [h5]; exact hT.hi b (by rw [<- h1]; exact q)) (fun b _ q=>by have : k.next<=3:=q; omega) (fun b q=>by show k.links = _; rw [h8 q]; exact hT.l3 b (by rw [<- h1]; exact q)) (fun b q=>by show k.made = _; rw [h7]; exact hT.m7 b (by omega)) (fun b q=>by have : k.kind = 1\/k.kind = 2:=q; omega) (fun b q=>by have : k.kind = 1\/k.kind = 2:=q; omega);show t.slot = if t.busy = true/\k.next≠1 then (if k.next<=3 then 1 else 2) else 0
 rw [hsl]; simp [hb,hn];rw [if_neg (by omega),if_neg (by omega)]
end
end T
end
end Go.Proofs.YtfccelbmacjifabGreat
