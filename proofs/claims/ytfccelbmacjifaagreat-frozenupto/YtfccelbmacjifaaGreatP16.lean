import Derived.Test.YtfccelbmacjifaaGreatP0
import Derived.Test.YtfccelbmacjifaaGreatP15
set_option linter.unusedSimpArgs false
set_option maxRecDepth 100000
set_option maxHeartbeats 4000000
namespace Go.Proofs.YtfccelbmacjifaaGreat
section
theorem maxE (p : PEntry->Bool) : ∀ (l : List PEntry),(∃ x ∈ l,p x = true)->∃ x ∈ l,p x = true/\∀ y ∈ l,p y = true->y.stamp<=x.stamp
 | [],h=>by obtain ⟨x,hx,_⟩:=h; cases hx
 | z :: r,h=>by
  by_cases hr : ∃ x ∈ r,p x = true
  ·obtain ⟨x,h1,h2,h3⟩:=maxE p r hr;by_cases hz : p z = true/\x.stamp < z.stamp
   ·refine ⟨z,by simp,hz.1,?_⟩;intro y hy hp;rcases List.mem_cons.1 hy with rfl | hy
    ·exact Int.le_refl _
    ·have:=h3 y hy hp; omega
   ·refine ⟨x,by simp [h1],h2,?_⟩;intro y hy hp;rcases List.mem_cons.1 hy with rfl | hy
    ·rcases Int.lt_or_le x.stamp y.stamp with hlt | hle
     ·exact absurd ⟨hp,hlt⟩ hz
     ·exact hle
    ·exact h3 y hy hp
  ·obtain ⟨x,hx,hp⟩:=h;rcases List.mem_cons.1 hx with rfl | hx
   ·refine ⟨x,by simp,hp,?_⟩;intro y hy hpy;rcases List.mem_cons.1 hy with rfl | hy
    ·exact Int.le_refl _
    ·exact absurd ⟨y,hy,hpy⟩ hr
   ·exact absurd ⟨x,hx,hp⟩ hr
section
variable {es : List PEntry} {time : Int}
def Over (time : Int) (es : List PEntry) (e : PEntry) : Prop:=isSt e.src e.side e = true/\∃ e' ∈ es,stampAbove e.src e.side e.stamp time e' = true
structure DropK (time : Int) (es D : List PEntry) (k : Nat) : Prop where
 len : D.length = es.length
 yes : ∀ (j : Nat) e,es[j]? = some e->j < k->Over time es e->D[j]? = some PEntry.zero
 no : ∀ (j : Nat) e,es[j]? = some e->(j < k->¬ Over time es e)->D[j]? = some e
theorem DropK.back {D : List PEntry} {k : Nat} (h : DropK time es D k) {j : Nat} {e : PEntry} (hj : D[j]? = some e) : ∃ e0,es[j]? = some e0/\(e = PEntry.zero\/(e = e0/\(j < k->¬ Over time es e))):=by
 have hl:=(List.getElem?_eq_some_iff.1 hj).1;rw [h.len] at hl;have he:=List.getElem?_eq_getElem hl;refine ⟨_,he,?_⟩;by_cases hh : j < k->¬ Over time es es[j]
 ·have:=h.no j _ he hh
  rw [this] at hj;injection hj with hj
  subst hj;exact .inr ⟨rfl,hh⟩
 ·simp only [Classical.not_imp,Classical.not_not] at hh
  have:=h.yes j _ he hh.1 hh.2
  rw [this] at hj;injection hj with hj
  exact .inl hj.symm
theorem DropK.any {D : List PEntry} {k : Nat} (h : DropK time es D k) (e : PEntry) : D.any (stampAbove e.src e.side e.stamp time) = true ↔ ∃ e' ∈ es,stampAbove e.src e.side e.stamp time e' = true:=by
 rw [List.any_eq_true];constructor
 ·rintro ⟨x,hx,hp⟩;obtain ⟨j,hj⟩:=List.mem_iff_getElem?.1 hx;obtain ⟨e0,h1,h2⟩:=h.back hj;rcases h2 with rfl | ⟨rfl,_⟩
  ·simp [stampAbove,isSt_z] at hp
  ·exact ⟨x,List.mem_of_getElem? h1,hp⟩
 ·intro hh;obtain ⟨x,hx,hp,hm⟩:=maxE _ es hh;obtain ⟨j,hj⟩:=List.mem_iff_getElem?.1 hx;refine ⟨x,List.mem_of_getElem? (h.no j x hj (fun _=>?_)),hp⟩;rintro ⟨_,y,hy,hp2⟩;simp only [stampAbove,isSt,Bool.and_eq_true,beq_iff_eq,decide_eq_true_eq] at hp hp2 hm
  have:=hm y hy ⟨⟨hp2.1.1,hp2.1.2.1,hp2.1.2.2.1.trans hp.1.2.2.1,hp2.1.2.2.2.trans hp.1.2.2.2⟩,by omega,hp2.2.2⟩
  omega
theorem DropK.step {D : List PEntry} {k : Nat} (h : DropK time es D k) : DropK time es (dropOne time D k) (k + 1):=by
 unfold dropOne;cases hk : D[k]? with
 | none =>
  simp only;have hl:=List.getElem?_eq_none_iff.1 hk;rw [h.len] at hl;refine ⟨h.len,?_,?_⟩
  ·intro j e he hj ho
   have:=(List.getElem?_eq_some_iff.1 he).1
   exact h.yes j e he (by omega) ho
  ·intro j e he hj;exact h.no j e he (fun hh=>hj (by omega))
 | some e0 =>
  simp only;have hkl:=(List.getElem?_eq_some_iff.1 hk).1;have hek : es[k]? = some e0:=by
   obtain ⟨e1,h1,_⟩:=h.back hk
   have:=h.no k e1 h1 (fun hh=>by omega)
   rw [hk] at this;rw [h1,this]
  have hov : (isSt e0.src e0.side e0 && D.any (stampAbove e0.src e0.side e0.stamp time)) = true ↔ Over time es e0:=by
   rw [Bool.and_eq_true,h.any]; rfl
  by_cases ho : Over time es e0
  ·rw [if_pos (hov.2 ho)];refine ⟨by simpa using h.len,?_,?_⟩
   ·intro j e he hj h1;by_cases hjk : k = j
    ·subst hjk; rw [List.getElem?_set_self hkl]
    ·rw [List.getElem?_set_ne hjk]; exact h.yes j e he (by omega) h1
   ·intro j e he hj;by_cases hjk : k = j
    ·subst hjk;rw [hek] at he; injection he with he; subst he
     exact absurd ho (hj (by omega))
    ·rw [List.getElem?_set_ne hjk]; exact h.no j e he (fun hh=>hj (by omega))
  ·rw [if_neg (fun hh=>ho (hov.1 hh))];refine ⟨h.len,?_,?_⟩
   ·intro j e he hj h1;by_cases hjk : k = j
    ·subst hjk;rw [hek] at he; injection he with he; subst he
     exact absurd h1 ho
    ·exact h.yes j e he (by omega) h1
   ·intro j e he hj;exact h.no j e he (fun hh=>hj (by omega))
theorem dropK (time : Int) (es : List PEntry) : ∀ k,DropK time es (dropTo time es k) k
 | 0=>⟨rfl,fun _ _ _ h=>by omega,fun _ _ h _=>h⟩
 | k + 1=>(dropK time es k).step
end
theorem filt_same {α β : Type} (p : α->Bool) (f : α->β) : ∀ (l m : List α),m.length = l.length->(∀ (j : Nat) a b,l[j]? = some a->m[j]? = some b->a = b\/(p a = false/\p b = false))->(m.filter p).map f = (l.filter p).map f
 | [],[],_,_=>rfl
 | [],b :: m,h,_=>by simp at h
 | a :: l,[],h,_=>by simp at h
 | a :: l,b :: m,h,hp=>by
  have ih:=filt_same p f l m (by simpa using h) (fun j x y hx hy=>hp (j + 1) x y (by simpa using hx) (by simpa using hy));rw [List.filter_cons,List.filter_cons];rcases hp 0 a b rfl rfl with rfl | ⟨h1,h2⟩
  ·split <;> simp [ih]
  ·rw [h1,h2]; simpa using ih
theorem drop_ok {M : PMem} (hw : Wm M) (time : Int) : (M.drop time).ns = M.ns/\Wm (M.drop time)/\(∀ x,Pd (M.drop time) x = Pd M x)/\(∀ x s d,Sd (M.drop time) x s d ↔ Sd M x s d/\∀ s' d',Sd M x s' d'->s < s'->¬ s'<=time):=by
 have hD:=dropK time M.es M.es.length;have hov : ∀ e ∈ M.es,∀ x,isSt x false e = true->(Over time M.es e ↔ ∃ s' d',Sd M x s' d'/\e.stamp < s'/\s'<=time):=by
  intro e he x hx;have hx':=hx;simp only [isSt,Bool.and_eq_true,beq_iff_eq] at hx';obtain ⟨h1,h2,h3,h4⟩:=hx';unfold Over;rw [h3,h4];constructor
  ·rintro ⟨_,e',he',hp⟩;simp only [stampAbove,Bool.and_eq_true,decide_eq_true_eq] at hp;exact ⟨e'.stamp,e'.dst,⟨e',he',hp.1,rfl,rfl⟩,hp.2.1,hp.2.2⟩
  ·rintro ⟨s',d',⟨e',he',hs,rfl,rfl⟩,hl,hr⟩;refine ⟨hx,e',he',?_⟩;simp only [stampAbove,Bool.and_eq_true,decide_eq_true_eq];exact ⟨hs,hl,hr⟩
 refine ⟨rfl,⟨hw.len,?_,?_,hw.un⟩,?_,?_⟩
 ·intro e he hu;obtain ⟨j,hj⟩:=List.mem_iff_getElem?.1 he;obtain ⟨e0,h1,h2⟩:=hD.back hj;rcases h2 with rfl | ⟨rfl,_⟩
  ·rfl
  ·exact hw.wfe e (List.mem_of_getElem? h1) hu
 ·intro e he;obtain ⟨j,hj⟩:=List.mem_iff_getElem?.1 he;obtain ⟨e0,h1,h2⟩:=hD.back hj;rcases h2 with rfl | ⟨rfl,_⟩
  ·rfl
  ·exact hw.sd e (List.mem_of_getElem? h1)
 ·intro x;unfold Pd;refine filt_same _ _ _ _ hD.len ?_;intro j a b ha hb;have hb : (dropTo time M.es M.es.length)[j]? = some b:=hb;by_cases ho : Over time M.es a
  ·have hj:=(List.getElem?_eq_some_iff.1 ha).1
   have:=hD.yes j a ha hj ho
   rw [this] at hb; injection hb with hb; subst hb
   right;refine ⟨?_,isPd_z _ _⟩
   have:=ho.1
   simp only [isSt,Bool.and_eq_true] at this;simp [isPd];intro hp;rw [hp] at this;simp at this
  ·have:=hD.no j a ha (fun _=>ho)
   rw [this] at hb; injection hb with hb
   exact .inl hb
 ·intro x s d;constructor
  ·rintro ⟨e,he,hs,rfl,rfl⟩;obtain ⟨j,hj⟩:=List.mem_iff_getElem?.1 he;obtain ⟨e0,h1,h2⟩:=hD.back hj;rcases h2 with rfl | ⟨rfl,h3⟩
   ·rw [isSt_z] at hs; cases hs
   ·have hm:=List.mem_of_getElem? h1;refine ⟨⟨e,hm,hs,rfl,rfl⟩,?_⟩;intro s' d' h4 h5 h6;exact h3 (List.getElem?_eq_some_iff.1 h1).1 ((hov e hm x hs).2 ⟨s',d',h4,h5,h6⟩)
  ·rintro ⟨⟨e,he,hs,rfl,rfl⟩,hno⟩;obtain ⟨j,hj⟩:=List.mem_iff_getElem?.1 he;refine ⟨e,List.mem_of_getElem? (hD.no j e hj (fun _ ho=>?_)),hs,rfl,rfl⟩;obtain ⟨s',d',h4,h5,h6⟩:=(hov e he x hs).1 ho;exact hno s' d' h4 h5 h6
end
section
abbrev Us (M : PMem) (x : Int) : Prop:=(M.node x).used = true
abbrev De (M : PMem) (x : Int) : Prop:=(M.node x).dead = true
abbrev Re (M : PMem) (x : Int) : Prop:=(M.node x).retired = true
abbrev Ra (M : PMem) (x : Int) : Int:=(M.node x).retiredAt
abbrev Ky (M : PMem) (x : Int) : Int:=(M.node x).key
abbrev Ld (M : PMem) (x : Int) : Int:=(M.node x).leads false
abbrev Ho (M : PMem) (x : Int) : Int:=(M.node x).holder
def Lt (M : PMem) (x y : Int) : Prop:=x = 0\/Ky M x < Ky M y
def InSw (r : PSweep) (x : Int) : Prop:=∃ n ∈ r.retired,((n : Nat) : Int) = x
def Fresh8 (x : Int) (t : PThread) : Prop:=t.busy = true/\t.work.kind = 1/\t.work.next = 8/\x ∈ t.work.made
def Fresh (x : Int) (t : PThread) : Prop:=t.busy = true/\t.work.kind = 1/\(t.work.next = 8\/t.work.next = 10)/\x ∈ t.work.made
def Killing (x : Int) (t : PThread) : Prop:=t.busy = true/\t.work.kind = 2/\t.work.next = 10/\t.work.ahead = x
def Outing (x : Int) (t : PThread) : Prop:=t.busy = true/\t.work.kind = 2/\(t.work.next = 11\/(t.work.next = 12/\t.work.ans.did = true))/\t.work.ahead = x
def Pends (x : Int) (t : PThread) : Prop:=t.busy = true/\(t.work.kind = 1\/t.work.kind = 2)/\8<=t.work.next/\t.work.next<=11/\t.work.stand = x
def Vs (x s : Int) (t : PThread) : Prop:=t.busy = true/\(t.work.kind = 1\/t.work.kind = 2)/\9<=t.work.next/\t.work.next<=11/\t.work.stand = x/\t.work.ans.stamp = s
def Calm (t : PThread) : Prop:=t.busy = true->(t.work.kind = 1\/t.work.kind = 2)->t.work.next<=7\/t.work.next = 13\/(t.work.next = 12/\¬ (t.work.kind = 2/\t.work.ans.did = true))
def Ex (ts : List PThread) (p : PThread->Prop) : Prop:=∃ (i : Nat) (t : PThread),ts[i]? = some t/\p t
theorem Ex.set {ts : List PThread} {i : Nat} {t t' : PThread} {p : PThread->Prop} (ht : ts[i]? = some t) (h : Ex ts p) (hp : p t->p t') : Ex (ts.set i t') p:=by
 obtain ⟨j,u,hj,hu⟩:=h;have hi:=(List.getElem?_eq_some_iff.1 ht).1;by_cases e : i = j
 ·subst e;rw [ht] at hj; injection hj with hj; subst hj
  exact ⟨i,t',by simp [hi],hp hu⟩
 ·exact ⟨j,u,by rw [List.getElem?_set_ne e]; exact hj,hu⟩
theorem Ex.new {ts : List PThread} {i : Nat} {t t' : PThread} {p : PThread->Prop} (ht : ts[i]? = some t) (hp : p t') : Ex (ts.set i t') p:=by
 have hi:=(List.getElem?_eq_some_iff.1 ht).1;exact ⟨i,t',by simp [hi],hp⟩
theorem Ex.or {ts : List PThread} {i : Nat} {t : PThread} {p : PThread->Prop} (ht : ts[i]? = some t) (h : Ex ts p) : p t\/∃ j u,j≠i/\ts[j]? = some u/\p u:=by
 obtain ⟨j,u,hj,hu⟩:=h;by_cases e : j = i
 ·subst e;rw [ht] at hj; injection hj with hj; subst hj
  exact .inl hu
 ·exact .inr ⟨j,u,e,hj,hu⟩
theorem Ex.other {ts : List PThread} {i j : Nat} {u t' : PThread} {p : PThread->Prop} (hj : ts[j]? = some u) (hp : p u) (e : j≠i) : Ex (ts.set i t') p :=
 ⟨j,u,by rw [List.getElem?_set_ne (Ne.symm e)]; exact hj,hp⟩
def Vd (M : PMem) (ts : List PThread) (x s : Int) : Prop:=(∃ d,Sd M x s d)\/Ex ts (Vs x s)
def wl (M : PMem) (k : PWork) : Nat:=if k.kind = 2/\Ky M k.ahead = k.key then 2 else 1
def Safe (M : PMem) (r : PSweep) (i : Nat) (time x : Int) : Prop :=
 Us M x/\(Re M x->time<=Ra M x)/\(i + 1 < r.made->(r.hasTime = true/\r.time<=time)\/(r.clock<=time/\¬ InSw r x))
def Gd (M : PMem) (C : Int->Prop) (x : Int) : Prop:=C x\/De M x
structure InvN (C : Int->Prop) (M : PMem) (c : Int) (r : PSweep) : Prop where
 a0 : C 0/\(M.node 0).dead = false
 a1 : ¬ C 1/\Us M 1/\(M.node 1).links = 0/\(M.node 1).dead = false/\(M.node 1).retired = false/\Ky M 1 = 1099511627777
 mc : ∀ x,C x->Us M x/\(M.node x).links = 1/\(M.node x).retired = false/\(Ld M x = 1\/C (Ld M x))/\Ld M x≠0/\Lt M x (Ld M x)
 kr : ∀ x,Us M x->x≠0->x≠1->0<=Ky M x/\Ky M x<=1099511627776
 mi : ∀ x y,C x->C y->Ld M x = Ld M y->x = y
 md : ∀ x,De M x->Us M x/\(M.node x).links = 1
 mr : ∀ x,Re M x->De M x/\¬ C x/\Ra M x<=c
 mo : ∀ y,De M y->¬ C y->Ld M y≠0/\Ky M y < Ky M (Ld M y)/\(Ld M y = 1\/C (Ld M y)\/(De M (Ld M y)/\¬ C (Ld M y)/\Re M y/\(Re M (Ld M y)->Ra M y<=Ra M (Ld M y))/\(InSw r (Ld M y)->InSw r y)))
structure InvE (C : Int->Prop) (M : PMem) (c : Int) (r : PSweep) (ts : List PThread) : Prop where
 ms : ∀ x s d,Sd M x s d->Us M x/\x≠1/\0<=s/\s<=c/\d≠0/\(d = 1\/C d\/De M d)/\Lt M x d
 pd : ∀ x d,d ∈ Pd M x->Ex ts (fun t=>Pends x t\/Fresh8 x t)
 nw : ∀ x s d,Sd M x s d->d = Ld M x\/∃ s',s < s'/\Vd M ts x s'
 ol : ∀ x s d,Sd M x s d->Re M d->(∃ s',s < s'/\s'<=Ra M d/\Vd M ts x s')\/(Re M x/\Ra M x<=Ra M d/\(InSw r d->InSw r x))
 dr : r.made = ts.length + 2->∀ x s d,Sd M x s d->InSw r d->(r.hasTime = true->Ra M d < r.time)->InSw r x/\Ra M x<=Ra M d
structure InvO (C : Int->Prop) (M : PMem) (c : Int) (r : PSweep) (ts : List PThread) : Prop where
 us : ∀ x,Us M x->x = 1\/C x\/De M x\/Ex ts (Fresh x)
 ki : ∀ x,De M x->C x->Ex ts (Killing x)
 ou : ∀ x,De M x->¬ C x->(M.node x).retired = false->Ex ts (Outing x)
 ho : ∀ x,Us M x->Ho M x = -1\/∃ i : Nat,i < ts.length/\Ho M x = i
 pw : ∀ (i j : Nat) t u x,ts[i]? = some t->ts[j]? = some u->Fresh x t->Fresh x u->i = j
 sw : ∀ x,InSw r x->Re M x/\Ra M x<=r.clock
 sc : r.clock<=c/\0<=c
 sm : r.made<=ts.length + 2
 sz : r.made = 0->r.retired = []/\r.hasTime = false
structure Th (C : Int->Prop) (M : PMem) (c : Int) (r : PSweep) (i : Nat) (t : PThread) : Prop where
 kd : t.busy = true->t.work.kind = 1\/t.work.kind = 2\/t.work.kind = 3\/t.work.kind = 4
 nx : t.busy = true->1<=t.work.next/\t.work.next<=13
 rd : t.busy = true->(t.work.kind = 3\/t.work.kind = 4)->t.work.next<=4\/t.work.next = 13
 sl : t.slot = if t.busy = true/\t.work.next≠1 then (if t.work.next<=3 then 1 else 2) else 0
 tm : t.busy = true->3<=t.work.next->t.work.time<=c/\(i + 1 < r.made->(r.hasTime = true/\r.time<=t.work.time)\/r.clock<=t.work.time)
 hd : ∀ x,Us M x->(Ho M x = i ↔ t.busy = true/\x ∈ [t.work.stand,t.work.ahead].take t.work.locks)
 l4 : t.busy = true->t.work.next<=4\/t.work.next = 13->t.work.locks = 0
 l5 : t.busy = true->t.work.next = 5->t.work.locks < wl M t.work
 l6 : t.busy = true->6<=t.work.next->t.work.next<=12->t.work.locks = wl M t.work
 ky : t.busy = true->t.work.kind≠4->0<=t.work.key/\t.work.key<=1099511627776
 hi : t.busy = true->t.work.kind = 4->greatestHi t.work.spans<=1099511627776
 lk : t.busy = true->t.work.kind = 4->t.work.next<=3->t.work.links = [(0,false)]
 xs : t.busy = true->t.work.kind≠4->4<=t.work.next->t.work.next<=12->Gd M C t.work.stand/\Safe M r i t.work.time t.work.stand/\(t.work.stand = 0\/Ky M t.work.stand < t.work.key)
 xl : t.busy = true->t.work.kind = 4->t.work.next = 4->∃ x,t.work.links = [(x,false)]/\Gd M C x/\Safe M r i t.work.time x
 cs : t.busy = true->5<=t.work.next->t.work.next<=12->(t.work.ahead = 1\/Gd M C t.work.ahead)/\Safe M r i t.work.time t.work.ahead/\t.work.ahead≠0/\t.work.key<=Ky M t.work.ahead
 m7 : t.busy = true->t.work.next<=7->t.work.made = []
 c7 : t.busy = true->7<=t.work.next->t.work.next<=11->C t.work.stand/\(M.node t.work.stand).dead = false/\(Ky M t.work.ahead = t.work.key ↔ t.work.kind = 2)
 c10 : t.busy = true->7<=t.work.next->t.work.next<=10->Ld M t.work.stand = t.work.ahead
 d9 : t.busy = true->t.work.kind = 2->7<=t.work.next->t.work.next<=9->(M.node t.work.ahead).dead = false
 d10 : t.busy = true->t.work.kind = 2->t.work.next = 10->De M t.work.ahead
 n9 : t.busy = true->t.work.next = 9->t.work.kind = 2
 ot : Outing t.work.ahead t->C t.work.stand/\Ld M t.work.stand = Ld M t.work.ahead/\De M t.work.ahead/\¬ C t.work.ahead/\(M.node t.work.ahead).retired = false/\Ky M t.work.ahead = t.work.key
 ts : t.busy = true->8<=t.work.next->t.work.next<=11->t.work.tsrc = t.work.stand/\t.work.tside = false
 f8 : t.busy = true->t.work.kind = 1->(t.work.next = 8\/t.work.next = 10)->∃ n,t.work.made = [n]/\n≠0/\n≠1/\Us M n/\¬ C n/\(M.node n).dead = false/\Ky M n = t.work.key/\(M.node n).links = 1/\Ld M n = t.work.ahead/\Pd M t.work.stand = [n]/\(t.work.next = 8->Pd M n = [t.work.ahead]/\∀ s d,¬ Sd M n s d)
 p2 : t.busy = true->t.work.kind = 2->8<=t.work.next->t.work.next<=10->Pd M t.work.stand = [Ld M t.work.ahead]/\t.work.made = []
 p11 : t.busy = true->t.work.next = 11->Pd M t.work.stand = [Ld M t.work.stand]
 s9 : t.busy = true->9<=t.work.next->t.work.next<=11->t.work.ans.did = true/\t.work.time < t.work.ans.stamp/\(0<=t.work.ans.stamp/\t.work.ans.stamp<=c)/\∀ s d,Sd M t.work.stand s d->s < t.work.ans.stamp
 l3 : t.busy = true->t.work.kind≠4->t.work.links = []
structure Inv (C : Int->Prop) (P : PSt) : Prop where
 kind : P.kind = 0
 wm : Wm P.mem
 n : InvN C P.mem P.clock P.sweep
 e : InvE C P.mem P.clock P.sweep P.ts
 o : InvO C P.mem P.clock P.sweep P.ts
 th : ∀ (i : Nat) t,P.ts[i]? = some t->Th C P.mem P.clock P.sweep i t
section
variable {t : PThread} {x s : Int}
theorem Calm.fresh8 (h : Calm t) : ¬ Fresh8 x t:=by rintro ⟨h1,h2,h3,_⟩; have:=h h1 (.inl h2); omega
theorem Calm.fresh (h : Calm t) : ¬ Fresh x t:=by rintro ⟨h1,h2,h3,_⟩; have:=h h1 (.inl h2); omega
theorem Calm.killing (h : Calm t) : ¬ Killing x t:=by rintro ⟨h1,h2,h3,_⟩; have:=h h1 (.inr h2); omega
theorem Calm.outing (h : Calm t) : ¬ Outing x t:=by
 rintro ⟨h1,h2,h3,_⟩;rcases h h1 (.inr h2) with h4 | h4 | h4
 ·omega
 ·omega
 ·rcases h3 with h3 | h3
  ·omega
  ·exact h4.2 ⟨h2,h3.2⟩
theorem Calm.pends (h : Calm t) : ¬ Pends x t:=by rintro ⟨h1,h2,h3,h4,_⟩; have:=h h1 h2; omega
theorem Calm.vs (h : Calm t) : ¬ Vs x s t:=by rintro ⟨h1,h2,h3,h4,_⟩; have:=h h1 h2; omega
end
def HoldEq (M M' : PMem) : Prop:=∀ x,∃ h,M'.node x = { M.node x with holder:=h }
section
variable {C : Int->Prop} {M M' : PMem} {c : Int} {r : PSweep} {ts : List PThread}
theorem InvN.congr (h : InvN C M c r) (hh : HoldEq M M') : InvN C M' c r:=by
 have q : ∀ x,(M'.node x).used = (M.node x).used/\(M'.node x).dead = (M.node x).dead/\(M'.node x).retired = (M.node x).retired/\(M'.node x).retiredAt = (M.node x).retiredAt/\(M'.node x).key = (M.node x).key/\(M'.node x).leads = (M.node x).leads/\(M'.node x).links = (M.node x).links:=by
  intro x; obtain ⟨g,hg⟩:=hh x; rw [hg]; exact ⟨rfl,rfl,rfl,rfl,rfl,rfl,rfl⟩
 have q1:=fun x=>(q x).1
 have q2:=fun x=>(q x).2.1
 have q3:=fun x=>(q x).2.2.1
 have q4:=fun x=>(q x).2.2.2.1
 have q5:=fun x=>(q x).2.2.2.2.1
 have q6:=fun x=>(q x).2.2.2.2.2.1
 have q7:=fun x=>(q x).2.2.2.2.2.2
 obtain ⟨a0,a1,mc,kr,mi,md,mr,mo⟩:=h;constructor <;> simp only [Us,De,Re,Ra,Ky,Ld,Lt,q1,q2,q3,q4,q5,q6,q7] at * <;> assumption
end
end
section
section
variable {C C' : Int->Prop} {M M' : PMem} {c c' : Int} {r : PSweep} {i j : Nat} {t t' : PThread} {ts : List PThread} {P : PSt}
theorem wl_pos (M : PMem) (k : PWork) : 1<=wl M k/\wl M k<=2:=by unfold wl; split <;> omega
theorem Th.mid (h : Th C M c r i t) (hb : t.busy = true) (hl : 0 < t.work.locks) : 5<=t.work.next/\t.work.next<=12/\(t.work.kind = 1\/t.work.kind = 2):=by
 have h1:=h.nx hb;have h2:=h.l4 hb;have h3:=h.kd hb;have h4:=h.rd hb;refine ⟨?_,?_,?_⟩
 ·rcases Nat.lt_or_ge t.work.next 5 with h5 | h5
  ·have:=h2 (.inl (by omega)); omega
  ·exact h5
 ·rcases Nat.lt_or_ge t.work.next 13 with h5 | h5
  ·omega
  ·have:=h2 (.inr (by omega)); omega
 ·rcases h3 with h3 | h3 | h3
  ·exact .inl h3
  ·exact .inr h3
  ·have:=h2 (h4 h3); omega
theorem Th.heldUs (h : Th C M c r i t) (hb : t.busy = true) {x : Int} (hx : x ∈ [t.work.stand,t.work.ahead].take t.work.locks) : Us M x/\(x = 1\/Gd M C x)/\0 < t.work.locks/\(x = t.work.stand\/x = t.work.ahead):=by
 have hl : 0 < t.work.locks:=by
  rcases Nat.eq_zero_or_pos t.work.locks with h0 | h0
  ·rw [h0] at hx; simp at hx
  ·exact h0
 obtain ⟨h1,h2,h3⟩:=h.mid hb hl;have hx' : x = t.work.stand\/x = t.work.ahead:=by
  have:=List.mem_of_mem_take hx
  simpa using this
 rcases hx' with rfl | rfl
 ·have:=h.xs hb (by omega) (by omega) h2
  exact ⟨this.2.1.1,.inr this.1,hl,.inl rfl⟩
 ·have:=h.cs hb h1 h2
  exact ⟨this.2.1.1,this.1,hl,.inr rfl⟩
theorem Th.hStand (h : Th C M c r i t) (hb : t.busy = true) (h6 : 6<=t.work.next) (h12 : t.work.next<=12) : Us M t.work.stand/\Ho M t.work.stand = i:=by
 have hl:=h.l6 hb h6 h12;have hw:=wl_pos M t.work;have hm : t.work.stand ∈ [t.work.stand,t.work.ahead].take t.work.locks:=by
  rcases (show t.work.locks = 1\/t.work.locks = 2 by omega) with e | e <;> rw [e] <;> simp
 have hu:=(h.heldUs hb hm).1;exact ⟨hu,(h.hd _ hu).2 ⟨hb,hm⟩⟩
theorem Th.hAhead (h : Th C M c r i t) (hb : t.busy = true) (h6 : 6<=t.work.next) (h12 : t.work.next<=12) (hk : t.work.kind = 2) (hk2 : Ky M t.work.ahead = t.work.key) : Us M t.work.ahead/\Ho M t.work.ahead = i:=by
 have hl:=h.l6 hb h6 h12;have hw : wl M t.work = 2:=by unfold wl; rw [if_pos ⟨hk,hk2⟩]
 have hm : t.work.ahead ∈ [t.work.stand,t.work.ahead].take t.work.locks:=by
  rw [hl,hw]; simp
 have hu:=(h.heldUs hb hm).1;exact ⟨hu,(h.hd _ hu).2 ⟨hb,hm⟩⟩
theorem Safe.rely {time x : Int} (h : Safe M r i time x) (hc : time<=c) (hu : Us M' x) (hr : Re M' x->(Re M x/\Ra M' x = Ra M x)\/c<=Ra M' x) : Safe M' r i time x:=by
 refine ⟨hu,?_,h.2.2⟩;intro h1;rcases hr h1 with ⟨h2,h3⟩ | h2
 ·rw [h3]; exact h.2.1 h2
 ·omega
theorem Th.rely (h : Th C M c r j t) (hcc : c<=c')
  (ha : ∀ x,x = 1\/Gd M C x->Us M' x/\Ky M' x = Ky M x/\(Gd M C x->Gd M' C' x)/\(Re M' x->(Re M x/\Ra M' x = Ra M x)\/c<=Ra M' x))
  (hb : ∀ x,Us M x->(Ho M x = j\/Fresh x t)->M'.node x = M.node x/\Pd M' x = Pd M x/\(∀ s d,Sd M' x s d->Sd M x s d)/\(C' x ↔ C x))
  (hc : ∀ x,Us M' x->(Ho M' x = j ↔ Us M x/\Ho M x = j)) : Th C' M' c' r j t:=by
 have hw : t.busy = true->5<=t.work.next->t.work.next<=12->wl M' t.work = wl M t.work:=by
  intro b h5 h12
  have:=(ha _ (h.cs b h5 h12).1).2.1
  unfold wl; rw [this]
 have hst : t.busy = true->6<=t.work.next->t.work.next<=12->M'.node t.work.stand = M.node t.work.stand/\Pd M' t.work.stand = Pd M t.work.stand/\(∀ s d,Sd M' t.work.stand s d->Sd M t.work.stand s d)/\(C' t.work.stand ↔ C t.work.stand):=by
  intro b h6 h12;obtain ⟨h1,h2⟩:=h.hStand b h6 h12;exact hb _ h1 (.inl h2)
 have hah : t.busy = true->6<=t.work.next->t.work.next<=12->t.work.kind = 2->Ky M t.work.ahead = t.work.key->M'.node t.work.ahead = M.node t.work.ahead/\Pd M' t.work.ahead = Pd M t.work.ahead/\(∀ s d,Sd M' t.work.ahead s d->Sd M t.work.ahead s d)/\(C' t.work.ahead ↔ C t.work.ahead):=by
  intro b h6 h12 hk hk2;obtain ⟨h1,h2⟩:=h.hAhead b h6 h12 hk hk2;exact hb _ h1 (.inl h2)
 refine ⟨h.kd,h.nx,h.rd,h.sl,?_,?_,h.l4,?_,?_,h.ky,h.hi,h.lk,?_,?_,?_,h.m7,?_,?_,?_,?_,h.n9,?_,h.ts,?_,?_,?_,?_,h.l3⟩
 ·intro b h3; have:=h.tm b h3; exact ⟨by omega,this.2⟩
 ·intro x hu;rw [hc x hu];constructor
  ·rintro ⟨h1,h2⟩; exact (h.hd x h1).1 h2
  ·rintro ⟨h1,h2⟩
   have:=(h.heldUs h1 h2).1
   exact ⟨this,(h.hd x this).2 ⟨h1,h2⟩⟩
 ·intro b h5; rw [hw b (by omega) (by omega)]; exact h.l5 b h5
 ·intro b h6 h12; rw [hw b (by omega) h12]; exact h.l6 b h6 h12
 ·intro b h4 h5 h6;obtain ⟨h1,h2,h3⟩:=h.xs b h4 h5 h6;obtain ⟨g1,g2,g3,g4⟩:=ha _ (.inr h1);exact ⟨g3 h1,h2.rely (h.tm b (by omega)).1 g1 g4,by rw [g2]; exact h3⟩
 ·intro b h4 h5;obtain ⟨x,h0,h1,h2⟩:=h.xl b h4 h5;obtain ⟨g1,g2,g3,g4⟩:=ha _ (.inr h1);exact ⟨x,h0,g3 h1,h2.rely (h.tm b (by omega)).1 g1 g4⟩
 ·intro b h5 h6;obtain ⟨h1,h2,h3,h4⟩:=h.cs b h5 h6;obtain ⟨g1,g2,g3,g4⟩:=ha _ h1;exact ⟨h1.imp id g3,h2.rely (h.tm b (by omega)).1 g1 g4,h3,by rw [g2]; exact h4⟩
 ·intro b h5 h6;obtain ⟨h1,h2,h3⟩:=h.c7 b h5 h6;obtain ⟨g1,_,_,g4⟩:=hst b (by omega) (by omega)
  have:=(ha _ (h.cs b (by omega) (by omega)).1).2.1
  exact ⟨g4.2 h1,by rw [g1]; exact h2,by rw [this]; exact h3⟩
 ·intro b h5 h6
  have:=(hst b (by omega) (by omega)).1
  show (M'.node t.work.stand).leads false = _;rw [this]; exact h.c10 b h5 h6
 ·intro b hk h5 h6
  have:=(hah b (by omega) (by omega) hk ((h.c7 b (by omega) (by omega)).2.2.2 hk)).1
  rw [this]; exact h.d9 b hk h5 h6
 ·intro b hk h5
  have:=(hah b (by omega) (by omega) hk ((h.c7 b (by omega) (by omega)).2.2.2 hk)).1
  show (M'.node t.work.ahead).dead = true;rw [this]; exact h.d10 b hk h5
 ·intro ho;obtain ⟨q1,q2,q3,q4,q5,q6⟩:=h.ot ho;obtain ⟨b,hk,hn,_⟩:=ho;obtain ⟨g1,_,_,g4⟩:=hst b (by omega) (by omega);obtain ⟨e1,_,_,e4⟩:=hah b (by omega) (by omega) hk q6;refine ⟨g4.2 q1,?_,?_,?_,?_,?_⟩
  ·show (M'.node _).leads false = (M'.node _).leads false;rw [g1,e1]; exact q2
  ·show (M'.node _).dead = true;rw [e1]; exact q3
  ·rw [e4]; exact q4
  ·rw [e1]; exact q5
  ·show (M'.node _).key = _;rw [e1]; exact q6
 ·intro b hk hn;obtain ⟨n,f1,f2,f3,f4,f5,f6,f7,f8,f9,f10,f11⟩:=h.f8 b hk hn;have hF : Fresh n t:=⟨b,hk,hn,by rw [f1]; simp⟩;obtain ⟨g1,g2,g3,g4⟩:=hb n f4 (.inr hF);have hs:=hst b (by omega) (by omega);refine ⟨n,f1,f2,f3,?_,?_,?_,?_,?_,?_,?_,?_⟩
  ·show (M'.node n).used = true; rw [g1]; exact f4
  ·rw [g4]; exact f5
  ·rw [g1]; exact f6
  ·show (M'.node n).key = _; rw [g1]; exact f7
  ·rw [g1]; exact f8
  ·show (M'.node n).leads false = _; rw [g1]; exact f9
  ·rw [hs.2.1]; exact f10
  ·intro h8;rw [g2];exact ⟨(f11 h8).1,fun s d hh=>(f11 h8).2 s d (g3 s d hh)⟩
 ·intro b hk h5 h6;have e1:=(hah b (by omega) (by omega) hk ((h.c7 b (by omega) (by omega)).2.2.2 hk)).1;have e2:=(hst b (by omega) (by omega)).2.1;obtain ⟨q1,q2⟩:=h.p2 b hk h5 h6;refine ⟨?_,q2⟩;rw [e2,q1];show _ = [(M'.node _).leads false];rw [e1]
 ·intro b h5;obtain ⟨e1,e2,_⟩:=hst b (by omega) (by omega);rw [e2,h.p11 b h5];show _ = [(M'.node _).leads false];rw [e1]
 ·intro b h5 h6;obtain ⟨q1,q2,q3,q4⟩:=h.s9 b h5 h6;exact ⟨q1,q2,by omega,fun s d hh=>q4 s d ((hst b (by omega) (by omega)).2.2.1 s d hh)⟩
theorem HoldEq.refl (M : PMem) : HoldEq M M:=fun x=>⟨(M.node x).holder,rfl⟩
theorem HoldEq.to (hh : HoldEq M M') (x : Int) : (M'.node x).used = (M.node x).used/\(M'.node x).dead = (M.node x).dead/\(M'.node x).retired = (M.node x).retired/\(M'.node x).retiredAt = (M.node x).retiredAt/\(M'.node x).key = (M.node x).key/\(M'.node x).leads = (M.node x).leads/\(M'.node x).links = (M.node x).links:=by
 obtain ⟨g,hg⟩:=hh x; rw [hg]; exact ⟨rfl,rfl,rfl,rfl,rfl,rfl,rfl⟩
theorem vd_set {x s : Int} (ht : ts[i]? = some t) (h : Vd M ts x s) (hs : ∀ d,Sd M x s d->∃ d',Sd M' x s d') (hp : Vs x s t->Vs x s t') : Vd M' (ts.set i t') x s:=by
 rcases h with ⟨d,h⟩ | h
 ·obtain ⟨d',h'⟩:=hs d h; exact .inl ⟨d',h'⟩
 ·exact .inr (h.set ht hp)
theorem Inv.hold (h : Inv C P) (ht : P.ts[i]? = some t) (hct : Calm t) (hct' : Calm t') (hw : Wm M') (he : M'.es = P.mem.es) (hh : HoldEq P.mem M')
  (chg : ∀ x,M'.node x = P.mem.node x\/((x = 1\/Gd P.mem C x)/\(Ho P.mem x = -1\/Ho P.mem x = i)/\(Ho M' x = -1\/Ho M' x = i)))
  (hth : Th C M' P.clock P.sweep i t') : Inv C { P with mem:=M',ts:=P.ts.set i t' }:=by
 have hi:=(List.getElem?_eq_some_iff.1 ht).1;have q:=hh.to;have q1:=fun x=>(q x).1
 have q2:=fun x=>(q x).2.1
 have q3:=fun x=>(q x).2.2.1
 have q4:=fun x=>(q x).2.2.2.1
 have q5:=fun x=>(q x).2.2.2.2.1
 have q6:=fun x=>(q x).2.2.2.2.2.1
 have hsd:=fun x s d=>sd_es (M:=P.mem) (M':=M') he x s d
 have hpd:=fun x=>pd_es (M:=P.mem) (M':=M') he x
 refine ⟨h.kind,hw,h.n.congr hh,?_,?_,?_⟩
 ·obtain ⟨ms,pd,nw,ol,dr⟩:=h.e;refine ⟨?_,?_,?_,?_,?_⟩
  ·intro x s d hs
   have:=ms x s d ((hsd x s d).1 hs)
   simpa only [Us,De,Lt,Ky,q1,q2,q5] using this
  ·intro x d hd;rw [hpd] at hd;exact (pd x d hd).set ht (fun hp=>hp.elim (fun h=>absurd h hct.pends) (fun h=>absurd h hct.fresh8))
  ·intro x s d hs;rcases nw x s d ((hsd x s d).1 hs) with h1 | ⟨s',h1,h2⟩
   ·left; show d = (M'.node x).leads false; rw [q6]; exact h1
   ·exact .inr ⟨s',h1,vd_set ht h2 (fun d h=>⟨d,(hsd _ _ _).2 h⟩) (fun h=>absurd h hct.vs)⟩
  ·intro x s d hs hr;have hr' : Re P.mem d:=by show (P.mem.node d).retired = true; rw [<- q3]; exact hr
   simp only [Ra,Re,q3,q4];rcases ol x s d ((hsd x s d).1 hs) hr' with ⟨s',h1,h2,h3⟩ | h1
   ·exact .inl ⟨s',h1,h2,vd_set ht h3 (fun d h=>⟨d,(hsd _ _ _).2 h⟩) (fun h=>absurd h hct.vs)⟩
   ·exact .inr h1
  ·intro hm x s d hs hin hf;simp only [Ra,q4] at hf ⊢;exact dr (by simpa using hm) x s d ((hsd x s d).1 hs) hin hf
 ·obtain ⟨us,ki,ou,ho,pw,sw,sc,sm,sz⟩:=h.o;refine ⟨?_,?_,?_,?_,?_,?_,sc,by simpa using sm,sz⟩
  ·intro x hx;simp only [Us,De,q1,q2] at hx ⊢;rcases us x hx with h1 | h1 | h1 | h1
   ·exact .inl h1
   ·exact .inr (.inl h1)
   ·exact .inr (.inr (.inl h1))
   ·exact .inr (.inr (.inr (h1.set ht (fun h=>absurd h hct.fresh))))
  ·intro x hx hC;simp only [De,q2] at hx;exact (ki x hx hC).set ht (fun h=>absurd h hct.killing)
  ·intro x hx hC hr;simp only [De,q2] at hx;rw [q3] at hr;exact (ou x hx hC hr).set ht (fun h=>absurd h hct.outing)
  ·intro x hx;simp only [Us,q1] at hx;rcases chg x with h1 | ⟨_,_,h1 | h1⟩
   ·have:=ho x hx
    simp only [Ho,h1,List.length_set] at this ⊢;exact this
   ·exact .inl h1
   ·exact .inr ⟨i,by simpa using hi,h1⟩
  ·intro a b u v x ha hb hu hv;rw [List.getElem?_set] at ha hb;by_cases ea : i = a
   ·subst ea; simp [hi] at ha; subst ha; exact absurd hu hct'.fresh
   ·by_cases eb : i = b
    ·subst eb; simp [hi] at hb; subst hb; exact absurd hv hct'.fresh
    ·rw [if_neg ea] at ha; rw [if_neg eb] at hb;exact pw a b u v x ha hb hu hv
  ·intro x hx;simp only [Re,Ra,q3,q4];exact sw x hx
 ·intro j u hj;rw [List.getElem?_set] at hj;by_cases ej : i = j
  ·subst ej; simp [hi] at hj; subst hj; exact hth
  ·rw [if_neg ej] at hj;have hT:=h.th j u hj;refine hT.rely (Int.le_refl _) ?_ ?_ ?_
   ·intro x hx;refine ⟨?_,q5 x,?_,?_⟩
    ·show (M'.node x).used = true;rw [q1];rcases hx with rfl | hx | hx
     ·exact h.n.a1.2.1
     ·exact (h.n.mc x hx).1
     ·exact (h.n.md x hx).1
    ·intro hg;unfold Gd De;rw [q2]; exact hg
    ·intro hr;left;simp only [Re,Ra,q3,q4] at hr ⊢;exact ⟨hr,trivial⟩
   ·intro x hu hx;have hn : M'.node x = P.mem.node x:=by
     rcases chg x with h1 | ⟨h1,h2,_⟩
     ·exact h1
     ·exfalso;rcases hx with hx | hx
      ·simp only [Ho] at hx h2; omega
      ·obtain ⟨b,hk,hn,hm⟩:=hx;obtain ⟨n,f1,f2,f3,f4,f5,f6,_⟩:=hT.f8 b hk hn;rw [f1] at hm;simp at hm;subst hm;rcases h1 with h1 | h1 | h1
       ·exact f3 h1
       ·exact f5 h1
       ·simp only [De] at h1; rw [f6] at h1; cases h1
    exact ⟨hn,hpd x,fun s d=>(hsd x s d).1,Iff.rfl⟩
   ·intro x hu;have hu' : Us P.mem x:=by show (P.mem.node x).used = true; rw [<- q1]; exact hu
    rcases chg x with h1 | ⟨_,h2,h3⟩
    ·simp only [Ho,h1]; exact ⟨fun h=>⟨hu',h⟩,fun h=>h.2⟩
    ·constructor
     ·intro h4; simp only [Ho] at h3 h4; omega
     ·rintro ⟨_,h4⟩; simp only [Ho] at h2 h4; omega
theorem Inv.calm (h : Inv C P) (ht : P.ts[i]? = some t) (hct : Calm t) (hct' : Calm t') (hth : Th C P.mem P.clock P.sweep i t') : Inv C { P with ts:=P.ts.set i t' } :=
 h.hold ht hct hct' h.wm rfl (HoldEq.refl _) (fun _=>.inl rfl) hth
end
end
section
section
variable {C C' : Int->Prop} {M M' : PMem} {c c' : Int} {r : PSweep} {i j : Nat} {t t' : PThread} {ts : List PThread} {P : PSt} {x : Int}
theorem Th.of6 (h6 : t.busy = true->t.work.next<=6\/t.work.next = 13\/(t.work.next = 12/\¬ (t.work.kind = 2/\t.work.ans.did = true)))
  (kd : t.busy = true->t.work.kind = 1\/t.work.kind = 2\/t.work.kind = 3\/t.work.kind = 4)
  (nx : t.busy = true->1<=t.work.next/\t.work.next<=13)
  (rd : t.busy = true->(t.work.kind = 3\/t.work.kind = 4)->t.work.next<=4\/t.work.next = 13)
  (sl : t.slot = if t.busy = true/\t.work.next≠1 then (if t.work.next<=3 then 1 else 2) else 0)
  (tm : t.busy = true->3<=t.work.next->t.work.time<=c/\(i + 1 < r.made->(r.hasTime = true/\r.time<=t.work.time)\/r.clock<=t.work.time))
  (hd : ∀ x,Us M x->(Ho M x = i ↔ t.busy = true/\x ∈ [t.work.stand,t.work.ahead].take t.work.locks))
  (l4 : t.busy = true->t.work.next<=4\/t.work.next = 13->t.work.locks = 0)
  (l5 : t.busy = true->t.work.next = 5->t.work.locks < wl M t.work)
  (l6 : t.busy = true->6<=t.work.next->t.work.next<=12->t.work.locks = wl M t.work)
  (ky : t.busy = true->t.work.kind≠4->0<=t.work.key/\t.work.key<=1099511627776)
  (hi : t.busy = true->t.work.kind = 4->greatestHi t.work.spans<=1099511627776)
  (lk : t.busy = true->t.work.kind = 4->t.work.next<=3->t.work.links = [(0,false)])
  (xs : t.busy = true->t.work.kind≠4->4<=t.work.next->t.work.next<=12->Gd M C t.work.stand/\Safe M r i t.work.time t.work.stand/\(t.work.stand = 0\/Ky M t.work.stand < t.work.key))
  (xl : t.busy = true->t.work.kind = 4->t.work.next = 4->∃ x,t.work.links = [(x,false)]/\Gd M C x/\Safe M r i t.work.time x)
  (cs : t.busy = true->5<=t.work.next->t.work.next<=12->(t.work.ahead = 1\/Gd M C t.work.ahead)/\Safe M r i t.work.time t.work.ahead/\t.work.ahead≠0/\t.work.key<=Ky M t.work.ahead)
  (m7 : t.busy = true->t.work.next<=7->t.work.made = [])
  (l3 : t.busy = true->t.work.kind≠4->t.work.links = []) : Th C M c r i t:=by
 refine ⟨kd,nx,rd,sl,tm,hd,l4,l5,l6,ky,hi,lk,xs,xl,cs,m7,?_,?_,?_,?_,?_,?_,?_,?_,?_,?_,?_,l3⟩
 ·intro b h1 h2; have:=h6 b; omega
 ·intro b h1 h2; have:=h6 b; omega
 ·intro b _ h1 h2; have:=h6 b; omega
 ·intro b _ h1; have:=h6 b; omega
 ·intro b h1; have:=h6 b; omega
 ·rintro ⟨b,hk,hn,_⟩;rcases h6 b with h | h | h
  ·omega
  ·omega
  ·rcases hn with hn | hn
   ·omega
   ·exact absurd ⟨hk,hn.2⟩ h.2
 ·intro b h1 h2; have:=h6 b; omega
 ·intro b _ h1; have:=h6 b; omega
 ·intro b _ h1 h2; have:=h6 b; omega
 ·intro b h1; have:=h6 b; omega
 ·intro b h1 h2; have:=h6 b; omega
theorem calm6 (h6 : t.busy = true->t.work.next<=7\/t.work.next = 13\/(t.work.next = 12/\¬ (t.work.kind = 2/\t.work.ans.did = true))) : Calm t:=fun b _=>h6 b
theorem Th.free (h : Th C M c r i t) (hl : t.busy = true->t.work.next<=4\/t.work.next = 13) (x : Int) (hx : Us M x) : ¬ Ho M x = i:=by
 rw [h.hd x hx];rintro ⟨b,hm⟩;rw [h.l4 b (hl b)] at hm;simp at hm
theorem take0 {a b x : Int} {l : Nat} (h : l = 0) : x ∈ [a,b].take l ↔ False:=by rw [h]; simp
theorem Inv.gdUs (h : Inv C P) (hx : x = 1\/Gd P.mem C x) : Us P.mem x:=by
 rcases hx with rfl | hx | hx
 ·exact h.n.a1.2.1
 ·exact (h.n.mc x hx).1
 ·exact (h.n.md x hx).1
theorem Inv.gdLinks (h : Inv C P) (hx : Gd P.mem C x) : (P.mem.node x).links = 1/\x≠1:=by
 rcases hx with hx | hx
 ·exact ⟨(h.n.mc x hx).2.1,fun e=>h.n.a1.1 (e ▸ hx)⟩
 ·exact ⟨(h.n.md x hx).2,fun e=>by subst e; simp only [De] at hx; rw [h.n.a1.2.2.2.1] at hx; cases hx⟩
theorem Inv.side (h : Inv C P) (hx : Gd P.mem C x) (key : Int) : P.mem.sideFor x key = false/\P.mem.hasLink x false = true/\P.leadsFrom x key = Ld P.mem x:=by
 have h1:=(h.gdLinks hx).1;have h2:=h.gdUs (.inr hx);have h3 : P.mem.sideFor x key = false:=by unfold PMem.sideFor; rw [h1]; rfl
 have h4 : P.mem.hasLink x false = true:=hasLink_iff.2 ⟨hasN_used h2,by omega⟩;exact ⟨h3,h4,by unfold PSt.leadsFrom PMem.leadsTo; rw [h3,h4]; rfl⟩
theorem Inv.notSw (h : Inv C P) (hx : x = 1\/C x) : ¬ InSw P.sweep x/\(P.mem.node x).retired = false:=by
 have hr : (P.mem.node x).retired = false:=by
  rcases hx with rfl | hx
  ·exact h.n.a1.2.2.2.2.1
  ·exact (h.n.mc x hx).2.2.1
 refine ⟨?_,hr⟩;intro hs
 have:=(h.o.sw x hs).1
 simp only [Re] at this;rw [hr] at this; cases this
theorem Inv.safe (h : Inv C P) (hx : x = 1\/C x) {time : Int} (ht : i + 1 < P.sweep.made->(P.sweep.hasTime = true/\P.sweep.time<=time)\/P.sweep.clock<=time) : Safe P.mem P.sweep i time x:=by
 obtain ⟨h1,h2⟩:=h.notSw hx;refine ⟨h.gdUs (hx.imp id Or.inl),?_,?_⟩
 ·intro hr; simp only [Re] at hr; rw [h2] at hr; cases hr
 ·intro hm;rcases ht hm with h3 | h3
  ·exact .inl h3
  ·exact .inr ⟨h3,h1⟩
theorem Inv.next (h : Inv C P) (hx : Gd P.mem C x) : (Ld P.mem x = 1\/Gd P.mem C (Ld P.mem x))/\Ld P.mem x≠0/\Lt P.mem x (Ld P.mem x):=by
 by_cases hc : C x
 ·obtain ⟨_,_,_,h1,h2,h3⟩:=h.n.mc x hc;exact ⟨h1.imp id .inl,h2,h3⟩
 ·have hd : De P.mem x:=hx.resolve_left hc;obtain ⟨h1,h2,h3⟩:=h.n.mo x hd hc;refine ⟨?_,h1,.inr h2⟩;rcases h3 with h3 | h3 | h3
  ·exact .inl h3
  ·exact .inr (.inl h3)
  ·exact .inr (.inr h3.1)
theorem Inv.safeNext (h : Inv C P) (hx : Gd P.mem C x) {time : Int} (ht : i + 1 < P.sweep.made->(P.sweep.hasTime = true/\P.sweep.time<=time)\/P.sweep.clock<=time) (hs : Safe P.mem P.sweep i time x) : Safe P.mem P.sweep i time (Ld P.mem x):=by
 by_cases hc : C x
 ·exact h.safe (h.n.mc x hc).2.2.2.1 ht
 ·have hd : De P.mem x:=hx.resolve_left hc;obtain ⟨h1,h2,h3⟩:=h.n.mo x hd hc;rcases h3 with h3 | h3 | ⟨g1,g2,g3,g4,g5⟩
  ·exact h.safe (.inl h3) ht
  ·exact h.safe (.inr h3) ht
  ·refine ⟨h.gdUs (.inr (.inr g1)),?_,?_⟩
   ·intro hr
    have:=hs.2.1 g3
    have:=g4 hr
    omega
   ·intro hm;rcases hs.2.2 hm with h4 | h4
    ·exact .inl h4
    ·exact .inr ⟨h4.1,fun hh=>h4.2 (g5 hh)⟩
theorem Inv.zero (h : Inv C P) {time : Int} (ht : i + 1 < P.sweep.made->(P.sweep.hasTime = true/\P.sweep.time<=time)\/P.sweep.clock<=time) : Gd P.mem C 0/\Safe P.mem P.sweep i time 0:=⟨.inl h.n.a0.1,h.safe (.inr h.n.a0.1) ht⟩
theorem Inv.step1 (h : Inv C P) (ht : P.ts[i]? = some t) (hb : t.busy = true) (hn : t.work.next = 1) : Inv C { P with ts:=P.ts.set i { t with slot:=1,work:={ t.work with next:=2 } } }:=by
 have hT:=h.th i t ht;refine h.calm ht (calm6 fun _=>by omega) (calm6 fun _=>.inl (by show 2<=7; omega)) ?_;refine Th.of6 (fun _=>.inl (by show 2<=6; omega)) hT.kd (fun _=>by show 1<=2/\2<=13; omega) (fun _ _=>.inl (by show 2<=4; omega)) ?_ ?_ ?_ (fun b _=>hT.l4 b (by omega)) ?_ ?_ hT.ky hT.hi (fun b k _=>hT.lk b k (by omega)) ?_ ?_ ?_ (fun b _=>hT.m7 b (by omega)) hT.l3
 ·show (1 : Int) = if t.busy = true/\(2 : Nat)≠1 then (if (2 : Nat)<=3 then 1 else 2) else 0
  simp [hb]
 ·intro b h3; have h3' : 3<=2:=h3; omega
 ·intro x hx;rw [take0 (hT.l4 hb (by omega))];simp only [and_false,iff_false];exact hT.free (fun _=>by omega) x hx
 ·intro b h5; have : (2 : Nat) = 5:=h5; omega
 ·intro b h6; have : 6<=(2 : Nat):=h6; omega
 ·intro b _ h4; have : 4<=(2 : Nat):=h4; omega
 ·intro b _ h4; have : (2 : Nat) = 4:=h4; omega
 ·intro b h5; have : 5<=(2 : Nat):=h5; omega
theorem Inv.step2 (h : Inv C P) (ht : P.ts[i]? = some t) (hb : t.busy = true) (hn : t.work.next = 2) : Inv C { P with ts:=P.ts.set i { t with work:={ t.work with time:=P.clock,next:=3 } } }:=by
 have hT:=h.th i t ht;refine h.calm ht (calm6 fun _=>by omega) (calm6 fun _=>.inl (by show 3<=7; omega)) ?_;refine Th.of6 (fun _=>.inl (by show 3<=6; omega)) hT.kd (fun _=>by show 1<=3/\3<=13; omega) (fun _ _=>.inl (by show 3<=4; omega)) ?_ ?_ ?_ (fun b _=>hT.l4 b (by omega)) ?_ ?_ hT.ky hT.hi (fun b k _=>hT.lk b k (by omega)) ?_ ?_ ?_ (fun b _=>hT.m7 b (by omega)) hT.l3
 ·show t.slot = if t.busy = true/\(3 : Nat)≠1 then (if (3 : Nat)<=3 then 1 else 2) else 0
  rw [hT.sl,hn]; simp [hb]
 ·intro b h3; exact ⟨Int.le_refl _,fun _=>.inr h.o.sc.1⟩
 ·intro x hx;rw [take0 (hT.l4 hb (by omega))];simp only [and_false,iff_false];exact hT.free (fun _=>by omega) x hx
 ·intro b h5; have : (3 : Nat) = 5:=h5; omega
 ·intro b h6; have : 6<=(3 : Nat):=h6; omega
 ·intro b _ h4; have : 4<=(3 : Nat):=h4; omega
 ·intro b _ h4; have : (3 : Nat) = 4:=h4; omega
 ·intro b h5; have : 5<=(3 : Nat):=h5; omega
theorem Inv.step3 (h : Inv C P) (ht : P.ts[i]? = some t) (hb : t.busy = true) (hn : t.work.next = 3) : Inv C { P with ts:=P.ts.set i { t with slot:=2,work:=t.work.home } }:=by
 have hT:=h.th i t ht;have htm:=hT.tm hb (by omega);have h0:=h.zero (i:=i) htm.2;refine h.calm ht (calm6 fun _=>by omega) (calm6 fun _=>.inl (by show 4<=7; omega)) ?_;refine Th.of6 (fun _=>.inl (by show 4<=6; omega)) hT.kd (fun _=>by show 1<=4/\4<=13; omega) (fun _ _=>.inl (by show 4<=4; omega)) ?_ (fun _ _=>htm) ?_ (fun b _=>hT.l4 b (by omega)) ?_ ?_ hT.ky hT.hi ?_ ?_ ?_ ?_ (fun b _=>hT.m7 b (by omega)) hT.l3
 ·show (2 : Int) = if t.busy = true/\(4 : Nat)≠1 then (if (4 : Nat)<=3 then 1 else 2) else 0
  simp [hb]
 ·intro x hx;simp only;rw [take0 (show t.work.home.locks = 0 from hT.l4 hb (by omega))];simp only [and_false,iff_false];exact hT.free (fun _=>by omega) x hx
 ·intro b h5; have : (4 : Nat) = 5:=h5; omega
 ·intro b h6; have : 6<=(4 : Nat):=h6; omega
 ·intro b _ h4; have : (4 : Nat)<=3:=h4; omega
 ·intro b _ h4 _; exact ⟨h0.1,h0.2,.inl rfl⟩
 ·intro b k h4; exact ⟨0,hT.lk hb k (by omega),h0⟩
 ·intro b h5; have : 5<=(4 : Nat):=h5; omega
theorem Inv.step13 (h : Inv C P) (ht : P.ts[i]? = some t) (hn : t.work.next = 13) : Inv C { P with ts:=P.ts.set i t.leave }:=by
 have hT:=h.th i t ht;have hf : t.leave.busy = false:=rfl;refine h.calm ht (calm6 fun _=>by omega) (calm6 fun b=>by rw [hf] at b; cases b) ?_;have nb : ∀ {p : Prop},t.leave.busy = true->p:=fun b=>by rw [hf] at b; cases b
 refine Th.of6 nb nb nb nb (by rw [hf]; rfl) nb ?_ nb nb nb nb nb nb nb nb nb nb nb;intro x hx;simp only [hf,false_and,iff_false]
 have:=hT.free (fun _=>.inr hn) x hx
 simpa using this
theorem Inv.begin (h : Inv C P) (ht : P.ts[i]? = some t) (hb : t.busy = false) {k : PWork} (h1 : k.next = 1) (h2 : k.kind = 1\/k.kind = 2\/k.kind = 3\/k.kind = 4) (h3 : k.locks = 0) (h4 : k.made = []) (h5 : k.kind≠4->0<=k.key/\k.key<=1099511627776) (h6 : k.kind = 4->greatestHi k.spans<=1099511627776/\k.links = [(0,false)]) (h7 : k.kind≠4->k.links = []) : Inv C { P with ts:=P.ts.set i { t with busy:=true,work:=k } }:=by
 have hT:=h.th i t ht;refine h.calm ht (fun b=>by rw [hb] at b; cases b) (calm6 fun _=>.inl (by show k.next<=7; omega)) ?_;refine Th.of6 (fun _=>.inl (by show k.next<=6; omega)) (fun _=>h2) (fun _=>by show 1<=k.next/\k.next<=13; omega) (fun _ _=>.inl (by show k.next<=4; omega)) ?_ ?_ ?_ (fun b _=>h3) ?_ ?_ (fun _=>h5) (fun _ k4=>(h6 k4).1) (fun _ k4 _=>(h6 k4).2) ?_ ?_ ?_ (fun _ _=>h4) (fun _=>h7)
 ·show t.slot = if true = true/\k.next≠1 then (if k.next<=3 then 1 else 2) else 0
  rw [hT.sl,hb,h1]; simp
 ·intro _ hh; have : 3<=k.next:=hh; omega
 ·intro x hx;simp only;rw [take0 h3];simp only [and_false,iff_false];exact hT.free (fun b=>by rw [hb] at b; cases b) x hx
 ·intro _ hh; have : k.next = 5:=hh; omega
 ·intro _ hh; have : 6<=k.next:=hh; omega
 ·intro _ _ hh; have : 4<=k.next:=hh; omega
 ·intro _ _ hh; have : k.next = 4:=hh; omega
 ·intro _ hh; have : 5<=k.next:=hh; omega
end
end
end Go.Proofs.YtfccelbmacjifaaGreat
