import Derived.Test.YtfccelbmacjifabGreatP0
import Derived.Test.YtfccelbmacjifabGreatP17
set_option linter.unusedSimpArgs false
set_option maxRecDepth 100000
set_option maxHeartbeats 4000000
namespace Go.Proofs.YtfccelbmacjifabGreat
section
namespace T
namespace Tr
variable {t : Tr} {u x y z d d' k k' q w v a n m : Int} {b s s' r : Bool}
theorem pth_root (t : Tr) : t.Pth k t.pl\/(t.goal k).1 = t.pl/\t.isLf = true:=by cases t <;> simp [Pth,pl,goal,isLf]
theorem pth_step {t : Tr} : ∀ {u b},t.Dj->¬ t.Has u->t.Pth k x->t.Nod x q->Ed u b t x (decide (q<=k)) d->t.Pth k d\/(t.goal k).1 = d:=by
 induction t with
 | lf=>simp [Pth]
 | nd p q l r h1 h2 =>
  intro u b hd hu hp hn he;have a1:=@ed_has; have a2:=@inn_has; have a3:=@ed_root; have a4:=@nod_has; have a5:=@pth_has; have a6:=pth_root (k:=k) l; have a7:=pth_root (k:=k) r
  grind
theorem goal_key {t : Tr} (ho : t.Ok) : t.Lea x k w->t.goal k = (x,k,w):=by
 induction t with
 | lf=>simp [Lea,goal]; grind
 | nd p q l r h1 h2=>grind
theorem ins_has {t : Tr} : (t.ins k v a n).Has x ↔ t.Has x\/x = a\/x = n:=by
 induction t with
 | lf p q w=>simp only [ins]; split <;> grind
 | nd p q l r h1 h2=>grind
theorem ins_nod {t : Tr} : (t.ins k v a n).Nod x q ↔ t.Nod x q\/(x = n/\q = if (t.goal k).2.1 < k then k else (t.goal k).2.1):=by
 induction t with
 | lf p q w=>simp only [ins]; split <;> grind
 | nd p q l r h1 h2=>grind
theorem ins_inn {t : Tr} : (t.ins k v a n).Inn x ↔ t.Inn x\/x = n:=by
 induction t with
 | lf p q w=>simp only [ins]; split <;> grind
 | nd p q l r h1 h2=>grind
theorem ins_lea {t : Tr} : (t.ins k v a n).Lea x q w ↔ t.Lea x q w\/(x = a/\q = k/\w = v):=by
 induction t with
 | lf p q w=>simp only [ins]; split <;> grind
 | nd p q l r h1 h2=>grind
theorem ins_dj {t : Tr} (hd : t.Dj) (ha : ¬ t.Has a) (hn : ¬ t.Has n) (h : a≠n) : (t.ins k v a n).Dj:=by
 have b1:=@ins_has
 induction t with
 | lf p q w=>simp only [ins]; split <;> grind
 | nd p q l r h1 h2=>grind
theorem ins_ok {t : Tr} (ho : t.Ok) (hk : (t.goal k).2.1≠k) : (t.ins k v a n).Ok:=by
 have b1:=@ins_lea
 induction t with
 | lf p q w=>simp only [ins]; split <;> grind
 | nd p q l r h1 h2=>grind
theorem ins_ed {t : Tr} : ∀ {u b},t.Dj->(Ed u b (t.ins k v a n) x s d ↔ (Ed u b t x s d/\d≠(t.goal k).1)\/(d = n/\Ed u b t x s (t.goal k).1)\/(x = n/\d = if decide ((t.goal k).2.1 < k) = s then a else (t.goal k).1)):=by
 induction t with
 | lf p q w=>intro u b _; simp only [ins]; cases s <;> split <;> grind
 | nd p q l r h1 h2 =>
  intro u b hd;have a1:=@ed_has; have a4:=@goal_has;by_cases hq : q<=k
  ·have h2:=@h2 p true (by grind);simp only [ins,hq,if_true,Ed,goal,h2]
   grind
  ·have h1:=@h1 p false (by grind);simp only [ins,hq,if_false,Ed,goal,h1]
   grind
theorem ins_pth {t : Tr} (hn : ¬ t.Has n) (hx : x≠n) : (t.ins k v a n).Pth k' x ↔ t.Pth k' x:=by
 induction t with
 | lf p q w=>simp only [ins]; split <;> grind
 | nd p q l r h1 h2=>grind
theorem del_lf (h : t.isLf = true) : t.Has x ↔ x = (t.goal k).1:=by cases t <;> simp_all [isLf,goal,Has]
structure Cut (u : Int) (b : Bool) (t : Tr) (k x y m : Int) (s r : Bool) : Prop where
 e1 : Ed u b t x s (t.goal k).1
 e2 : Ed u b t y r x
 e3 : Ed u b t x (!s) m
theorem Cut.inv {p q : Int} {l r : Tr} {rr : Bool} (h : Cut u b (nd p q l r) k x y m s rr) (hd : (nd p q l r).Dj) (hu : ¬ (nd p q l r).Has u) :
  (q<=k/\r.isLf = true/\x = p/\s = true/\y = u/\rr = b/\m = l.pl)\/(q<=k/\r.isLf = false/\Cut p true r k x y m s rr)\/(k < q/\l.isLf = true/\x = p/\s = false/\y = u/\rr = b/\m = r.pl)\/(k < q/\l.isLf = false/\Cut p false l k x y m s rr):=by
 obtain ⟨h1,h2,h3⟩:=h;have a1:=@ed_has; have a2:=@inn_has; have a3:=@ed_root; have a4:=@goal_has;by_cases hq : q<=k
 ·have e : (nd p q l r).goal k = r.goal k:=by simp [goal,hq]
  rw [e] at h1;have h1' : Ed p true r x s (r.goal k).1:=by grind
  cases hr : r.isLf
  ·right; left;have hx : x≠p:=by
    rintro rfl
    have:=a3 (by grind) (by grind) h1'
    cases r <;> simp_all [isLf,goal,pl]
    grind
   exact ⟨hq,rfl,⟨h1',by grind,by grind⟩⟩
  ·left;cases r with
   | lf=>simp [Ed] at h1' h2 h3 ⊢; grind
   | nd=>simp [isLf] at hr
 ·have e : (nd p q l r).goal k = l.goal k:=by simp [goal,hq]
  rw [e] at h1;have h1' : Ed p false l x s (l.goal k).1:=by grind
  cases hr : l.isLf
  ·right; right; right;have hx : x≠p:=by
    rintro rfl
    have:=a3 (by grind) (by grind) h1'
    cases l <;> simp_all [isLf,goal,pl]
    grind
   exact ⟨by omega,rfl,⟨h1',by grind,by grind⟩⟩
  ·right; right; left;cases l with
   | lf=>simp [Ed] at h1' h2 h3 ⊢; grind
   | nd=>simp [isLf] at hr
theorem Cut.no {p q w : Int} {rr : Bool} (h : Cut u b (lf p q w) k x y m s rr) : u = p:=by
 obtain ⟨h1,h2,h3⟩:=h;simp [Ed] at h1 h2; grind
variable {rr : Bool}
theorem Cut.inn {t : Tr} (h : Cut u b t k x y m s rr) (hd : t.Dj) (hu : ¬ t.Has u) : t.Inn x/\t.Has m/\x≠m/\x≠y/\(t.goal k).1≠m/\x≠(t.goal k).1/\t.isLf = false:=by
 have a1:=@ed_has; have a2:=@inn_has; have a3:=@ed_root; have a4:=@goal_has; have a5:=@ed_ne; have a6:=@ed_par;obtain ⟨h1,h2,h3⟩:=h;have hx : x≠u:=by
  rintro rfl;exact hu (ed_has h2).1
 refine ⟨by grind,by grind,by grind,by grind,?_,by grind,?_⟩
 ·intro e2
  have:=(ed_par hd hu h1 (e2 ▸ h3)).2
  simp at this
 ·cases t
  ·simp [Ed] at h1; grind
  ·rfl
theorem del_has {t : Tr} : ∀ {u b},t.Dj->¬ t.Has u->Cut u b t k x y m s rr->((t.del k).Has z ↔ t.Has z/\z≠x/\z≠(t.goal k).1):=by
 have a4:=@goal_has; have a6:=@inn_has
 induction t with
 | lf p q w=>intro u b _ hu h; exact absurd h.no (by grind)
 | nd p q l r h1 h2 =>
  intro u b hd hu h;have hi:=h.inn hd hu;rcases h.inv hd hu with ⟨c1,c2,c3,c4,c5,c6,c7⟩ | ⟨c1,c2,c3⟩ | ⟨c1,c2,c3,c4,c5,c6,c7⟩ | ⟨c1,c2,c3⟩
  ·have:=del_lf (x:=z) (k:=k) (t:=r) c2
   simp only [del,c1,c2,if_true,goal,Has]; grind
  ·have:=@h2 p true (by grind) (by grind) c3
   simp only [del,c1,c2,if_true,goal,Has]; have:=c3.inn (by grind) (by grind); grind
  ·have:=del_lf (x:=z) (k:=k) (t:=l) c2
   simp only [del,show ¬ q<=k by omega,c2,if_true,if_false,goal,Has]; grind
  ·have:=@h1 p false (by grind) (by grind) c3
   simp only [del,show ¬ q<=k by omega,c2,if_true,if_false,goal,Has]; have:=c3.inn (by grind) (by grind); grind
theorem lf_nod (h : t.isLf = true) : ¬ t.Nod x q:=by cases t <;> simp_all [isLf,Nod]
theorem lf_pth (h : t.isLf = true) : ¬ t.Pth k x:=by cases t <;> simp_all [isLf,Pth]
theorem lf_lea (h : t.isLf = true) : t.Lea x q w ↔ (x,q,w) = t.goal k:=by cases t <;> simp_all [isLf,Lea,goal]
theorem lf_ed (h : t.isLf = true) : Ed u b t x s d ↔ x = u/\s = b/\d = (t.goal k).1:=by cases t <;> simp_all [isLf,Ed,goal]
theorem del_nod {t : Tr} : ∀ {u b},t.Dj->¬ t.Has u->Cut u b t k x y m s rr->((t.del k).Nod z q ↔ t.Nod z q/\z≠x):=by
 have a4:=@goal_has; have a5:=@nod_has; have a6:=@inn_has
 induction t with
 | lf p q w=>intro u b _ hu h; exact absurd h.no (by grind)
 | nd p q l r h1 h2 =>
  intro u b hd hu h;have hi:=h.inn hd hu;rcases h.inv hd hu with ⟨c1,c2,c3,c4,c5,c6,c7⟩ | ⟨c1,c2,c3⟩ | ⟨c1,c2,c3,c4,c5,c6,c7⟩ | ⟨c1,c2,c3⟩
  ·have:=fun q=>lf_nod (t:=r) (x:=z) (q:=q) c2
   simp only [del,c1,c2,if_true,goal,Nod]; grind
  ·have:=@h2 p true (by grind) (by grind) c3
   simp only [del,c1,c2,if_true,goal,Nod]; have:=c3.inn (by grind) (by grind); grind
  ·have:=fun q=>lf_nod (t:=l) (x:=z) (q:=q) c2
   simp only [del,show ¬ q<=k by omega,c2,if_true,if_false,goal,Nod]; grind
  ·have:=@h1 p false (by grind) (by grind) c3
   simp only [del,show ¬ q<=k by omega,c2,if_true,if_false,goal,Nod]; have:=c3.inn (by grind) (by grind); grind
theorem del_inn {t : Tr} (hd : t.Dj) (hu : ¬ t.Has u) (h : Cut u b t k x y m s rr) : (t.del k).Inn z ↔ t.Inn z/\z≠x:=by
 constructor
 ·intro hz;obtain ⟨q,hz⟩:=inn_nod hz
  have:=(del_nod hd hu h).1 hz
  exact ⟨nod_inn this.1,this.2⟩
 ·rintro ⟨hz,hx⟩;obtain ⟨q,hz⟩:=inn_nod hz;exact nod_inn ((del_nod hd hu h).2 ⟨hz,hx⟩)
theorem del_lea {t : Tr} : ∀ {u b},t.Dj->¬ t.Has u->Cut u b t k x y m s rr->((t.del k).Lea z q w ↔ t.Lea z q w/\z≠(t.goal k).1):=by
 have a4:=@goal_has; have a5:=@lea_has
 induction t with
 | lf p q w=>intro u b _ hu h; exact absurd h.no (by grind)
 | nd p q l r h1 h2 =>
  intro u b hd hu h;rcases h.inv hd hu with ⟨c1,c2,c3,c4,c5,c6,c7⟩ | ⟨c1,c2,c3⟩ | ⟨c1,c2,c3,c4,c5,c6,c7⟩ | ⟨c1,c2,c3⟩
  ·have:=fun q w=>lf_lea (t:=r) (x:=z) (k:=k) (q:=q) (w:=w) c2
   simp only [del,c1,c2,if_true,goal,Lea]; grind
  ·have:=@h2 p true (by grind) (by grind) c3
   simp only [del,c1,c2,if_true,goal,Lea]; grind
  ·have:=fun q w=>lf_lea (t:=l) (x:=z) (k:=k) (q:=q) (w:=w) c2
   simp only [del,show ¬ q<=k by omega,c2,if_true,if_false,goal,Lea]; grind
  ·have:=@h1 p false (by grind) (by grind) c3
   simp only [del,show ¬ q<=k by omega,c2,if_true,if_false,goal,Lea]; grind
theorem del_dj {t : Tr} : ∀ {u b},t.Dj->¬ t.Has u->Cut u b t k x y m s rr->(t.del k).Dj:=by
 induction t with
 | lf p q w=>intro u b _ hu h; exact absurd h.no (by grind)
 | nd p q l r h1 h2 =>
  intro u b hd hu h;rcases h.inv hd hu with ⟨c1,c2,c3,c4,c5,c6,c7⟩ | ⟨c1,c2,c3⟩ | ⟨c1,c2,c3,c4,c5,c6,c7⟩ | ⟨c1,c2,c3⟩
  ·simp only [del,c1,c2,if_true]; grind
  ·have:=@h2 p true (by grind) (by grind) c3
   have e:=fun z=>del_has (z:=z) (t:=r) (u:=p) (b:=true) (by grind) (by grind) c3
   simp only [del,c1,c2,if_true,Dj]; grind
  ·simp only [del,show ¬ q<=k by omega,c2,if_true,if_false]; grind
  ·have:=@h1 p false (by grind) (by grind) c3
   have e:=fun z=>del_has (z:=z) (t:=l) (u:=p) (b:=false) (by grind) (by grind) c3
   simp only [del,show ¬ q<=k by omega,c2,if_true,if_false,Dj]; grind
theorem del_ok {t : Tr} : ∀ {u b},t.Dj->¬ t.Has u->Cut u b t k x y m s rr->t.Ok->(t.del k).Ok:=by
 induction t with
 | lf p q w=>intro u b _ hu h; exact absurd h.no (by grind)
 | nd p q l r h1 h2 =>
  intro u b hd hu h ho;rcases h.inv hd hu with ⟨c1,c2,c3,c4,c5,c6,c7⟩ | ⟨c1,c2,c3⟩ | ⟨c1,c2,c3,c4,c5,c6,c7⟩ | ⟨c1,c2,c3⟩
  ·simp only [del,c1,c2,if_true]; grind
  ·have:=@h2 p true (by grind) (by grind) c3
   have e:=fun z q w=>del_lea (z:=z) (q:=q) (w:=w) (t:=r) (u:=p) (b:=true) (by grind) (by grind) c3
   simp only [del,c1,c2,if_true,Ok]; grind
  ·simp only [del,show ¬ q<=k by omega,c2,if_true,if_false]; grind
  ·have:=@h1 p false (by grind) (by grind) c3
   have e:=fun z q w=>del_lea (z:=z) (q:=q) (w:=w) (t:=l) (u:=p) (b:=false) (by grind) (by grind) c3
   simp only [del,show ¬ q<=k by omega,c2,if_true,if_false,Ok]; grind
theorem del_pth {t : Tr} : ∀ {u b},t.Dj->¬ t.Has u->Cut u b t k x y m s rr->t.Pth k' z->z≠x->(t.del k).Pth k' z:=by
 induction t with
 | lf p q w=>intro u b _ hu h; exact absurd h.no (by grind)
 | nd p q l r h1 h2 =>
  intro u b hd hu h hp hz;rcases h.inv hd hu with ⟨c1,c2,c3,c4,c5,c6,c7⟩ | ⟨c1,c2,c3⟩ | ⟨c1,c2,c3,c4,c5,c6,c7⟩ | ⟨c1,c2,c3⟩
  ·have:=lf_pth (t:=r) (x:=z) (k:=k') c2
   simp only [del,c1,c2,if_true]; grind
  ·have:=@h2 p true (by grind) (by grind) c3
   simp only [del,c1,c2,if_true,Pth]; grind
  ·have:=lf_pth (t:=l) (x:=z) (k:=k') c2
   simp only [del,show ¬ q<=k by omega,c2,if_true,if_false]; grind
  ·have:=@h1 p false (by grind) (by grind) c3
   simp only [del,show ¬ q<=k by omega,c2,if_true,if_false,Pth]; grind
theorem del_ed {t : Tr} : ∀ {u b},t.Dj->¬ t.Has u->Cut u b t k x y m s rr->(Ed u b (t.del k) z s' d ↔ (Ed u b t z s' d/\z≠x/\d≠x)\/(z = y/\s' = rr/\d = m)):=by
 have a1:=@ed_has; have a2:=@inn_has; have a3:=@ed_root; have a4:=@goal_has; have a5:=@has_pl
 induction t with
 | lf p q w=>intro u b _ hu h; exact absurd h.no (by grind)
 | nd p q l r h1 h2 =>
  intro u b hd hu h;rcases h.inv hd hu with ⟨c1,c2,c3,c4,c5,c6,c7⟩ | ⟨c1,c2,c3⟩ | ⟨c1,c2,c3,c4,c5,c6,c7⟩ | ⟨c1,c2,c3⟩
  ·have e1:=fun x s d=>lf_ed (t:=r) (u:=p) (b:=true) (x:=x) (s:=s) (d:=d) (k:=k) c2
   simp only [del,c1,c2,if_true,Ed];cases l <;> grind
  ·have e1:=@h2 p true (by grind) (by grind) c3;have e2:=c3.inn (by grind) (by grind);simp only [del,c1,c2,if_true,if_false,Ed,e1,Bool.false_eq_true]
   grind
  ·have e1:=fun x s d=>lf_ed (t:=l) (u:=p) (b:=false) (x:=x) (s:=s) (d:=d) (k:=k) c2
   simp only [del,show ¬ q<=k by omega,c2,if_true,if_false,Ed];cases r <;> grind
  ·have e1:=@h1 p false (by grind) (by grind) c3;have e2:=c3.inn (by grind) (by grind);simp only [del,show ¬ q<=k by omega,c2,if_true,if_false,Ed,e1,Bool.false_eq_true]
   grind
end Tr
end T
end
section
namespace T
structure Gh where
 V : Int->Tr
 B : Int->Int
 R : Int->Int->Prop
 O : Int->Prop
abbrev A (t : Tr) (x : Int) (s : Bool) (d : Int) : Prop:=Tr.Ed 0 false t x s d
structure Gt (t : Tr) : Prop where
 dj : t.Dj
 z : ¬ t.Has 0
 ok : t.Ok
 one : t.Lea 1 1099511627777 0
 kr : ∀ x k v,t.Lea x k v->x≠1->0<=k/\k<=1099511627776
structure Ag (M : PMem) (t : Tr) : Prop where
 n : ∀ x q,t.Nod x q->Us M x/\Ln M x = 2/\Ky M x = q
 l : ∀ x q w,t.Lea x q w->Us M x/\Ln M x = 0/\Ky M x = q/\(M.node x).value = w
def sd (M : PMem) (x k : Int) : Bool:=M.sideFor x k
def Fr8 (x : Int) (t : PThread) : Prop:=t.busy = true/\t.work.kind = 1/\t.work.next = 8/\x ∈ t.work.made
def Fr (x : Int) (t : PThread) : Prop:=t.busy = true/\t.work.kind = 1/\(t.work.next = 8\/t.work.next = 10)/\x ∈ t.work.made
def Tk (x : Int) (t : PThread) : Prop:=t.busy = true/\t.work.kind = 2/\t.work.next = 9/\(x = t.work.stand\/x = t.work.ahead)
def Own (x : Int) (t : PThread) : Prop:=t.busy = true/\t.work.kind = 2/\(t.work.next = 10\/t.work.next = 11\/(t.work.next = 12/\t.work.ans.did = true))/\(x = t.work.stand\/x = t.work.ahead)
def Pair (x y : Int) (t : PThread) : Prop:=t.busy = true/\t.work.kind = 2/\(t.work.next = 9\/t.work.next = 10\/t.work.next = 11\/(t.work.next = 12/\t.work.ans.did = true))/\t.work.stand = x/\t.work.ahead = y
def Pn (x : Int) (s : Bool) (t : PThread) : Prop:=t.busy = true/\(t.work.kind = 1\/t.work.kind = 2)/\8<=t.work.next/\t.work.next<=11/\t.work.tsrc = x/\t.work.tside = s
def Vs (x : Int) (s : Bool) (st : Int) (t : PThread) : Prop:=t.busy = true/\(t.work.kind = 1\/t.work.kind = 2)/\9<=t.work.next/\t.work.next<=11/\t.work.tsrc = x/\t.work.tside = s/\t.work.ans.stamp = st
def Xl (x : Int) (s : Bool) (t : PThread) : Prop:=t.busy = true/\(t.work.kind = 1\/t.work.kind = 2)/\(t.work.next = 9\/t.work.next = 10)/\t.work.tsrc = x/\t.work.tside = s
def Calm (t : PThread) : Prop:=t.busy = true->(t.work.kind = 1\/t.work.kind = 2)->t.work.next<=7\/t.work.next = 13\/(t.work.next = 12/\¬ (t.work.kind = 2/\t.work.ans.did = true))
def Ex (ts : List PThread) (p : PThread->Prop) : Prop:=∃ (i : Nat) (t : PThread),ts[i]? = some t/\p t
theorem Ex.set {ts : List PThread} {i : Nat} {t t' : PThread} {p : PThread->Prop} (ht : ts[i]? = some t) (h : Ex ts p) (hp : p t->p t') : Ex (ts.set i t') p:=by
 obtain ⟨j,u,hj,hu⟩:=h;have hi:=(List.getElem?_eq_some_iff.1 ht).1;by_cases e : i = j
 ·subst e;rw [ht] at hj; injection hj with hj; subst hj
  exact ⟨i,t',by simp [hi],hp hu⟩
 ·exact ⟨j,u,by rw [List.getElem?_set_ne e]; exact hj,hu⟩
theorem Ex.new {ts : List PThread} {i : Nat} {t t' : PThread} {p : PThread->Prop} (ht : ts[i]? = some t) (hp : p t') : Ex (ts.set i t') p:=by
 have hi:=(List.getElem?_eq_some_iff.1 ht).1;exact ⟨i,t',by simp [hi],hp⟩
theorem Ex.or {ts : List PThread} {i : Nat} {t : PThread} {p : PThread->Prop} (ht : ts[i]? = some t) (h : Ex ts p) : p t\/∃ j u,j≠i/\ts[j]? = some u/\p u:=by
 obtain ⟨j,u,hj,hu⟩:=h;by_cases e : j = i
 ·subst e;rw [ht] at hj; injection hj with hj; subst hj
  exact .inl hu
 ·exact .inr ⟨j,u,e,hj,hu⟩
theorem Ex.other {ts : List PThread} {i j : Nat} {u t' : PThread} {p : PThread->Prop} (hj : ts[j]? = some u) (hp : p u) (e : j≠i) : Ex (ts.set i t') p :=
 ⟨j,u,by rw [List.getElem?_set_ne (Ne.symm e)]; exact hj,hp⟩
theorem Ex.get {ts : List PThread} {i : Nat} {t t' : PThread} {p : PThread->Prop} (ht : ts[i]? = some t) : Ex (ts.set i t') p ↔ p t'\/∃ j u,j≠i/\ts[j]? = some u/\p u:=by
 have hi:=(List.getElem?_eq_some_iff.1 ht).1;constructor
 ·intro h;have h2 : (ts.set i t')[i]? = some t':=by simp [hi]
  rcases h.or h2 with h | ⟨j,u,e,hj,hu⟩
  ·exact .inl h
  ·rw [List.getElem?_set_ne (Ne.symm e)] at hj; exact .inr ⟨j,u,e,hj,hu⟩
 ·rintro (h | ⟨j,u,e,hj,hu⟩)
  ·exact Ex.new ht h
  ·exact Ex.other hj hu e
def Safe (M : PMem) (r : PSweep) (i : Nat) (time x : Int) : Prop :=
 Us M x/\(Re M x->time<=Ra M x)/\(i + 1 < r.made->(r.hasTime = true/\r.time<=time)\/(r.clock<=time/\¬ InSw r x))
def Gd (g : Gh) (c : Int) (ts : List PThread) (x : Int) : Prop:=(g.O x\/(g.V c).Has x)/\¬ Ex ts (Fr x)
def Wk (g : Gh) (M : PMem) (c : Int) (ts : List PThread) (key x : Int) : Prop:=x = 0\/(Ln M x = 2/\g.R x key/\Gd g c ts x)
structure InvN (g : Gh) (M : PMem) (c : Int) (r : PSweep) (ts : List PThread) : Prop where
 gt : Gt (g.V c)
 ag : Ag M (g.V c)
 n0 : Us M 0/\Ln M 0 = 1/\(M.node 0).dead = false/\(M.node 0).retired = false
 tn : ∀ x,(g.V c).Has x->(M.node x).dead = false/\(M.node x).retired = false
 us : ∀ x,Us M x->x = 0\/(g.V c).Has x\/g.O x\/Ex ts (Fr8 x)
 ou : ∀ x,g.O x->Us M x/\¬ (g.V c).Has x/\x≠0/\(Ln M x = 0\/Ln M x = 2)
 od : ∀ x,De M x->g.O x
 ot : ∀ x,g.O x->De M x\/Ex ts (Tk x)
 re : ∀ x,Re M x->De M x/\Ra M x<=c
 ro : ∀ x,De M x->Re M x\/Ex ts (Own x)
 lk : ∀ x s d,A (g.V c) x s d->Ld M x s = d\/Ex ts (Xl x s)
 ph : ∀ x s,x = 0\/(Ln M x = 2/\Gd g c ts x)->(x = 0->s = false)->Gd g c ts (Ld M x s)/\(Ln M (Ld M x s) = 2->g.B x < g.B (Ld M x s))/\(Re M (Ld M x s)->Re M x/\Ra M x<=Ra M (Ld M x s))/\(InSw r (Ld M x s)->InSw r x)
 pr : ∀ x s k,x = 0\/(Ln M x = 2/\Gd g c ts x)->(x = 0\/g.R x k)->sd M x k = s->Ln M (Ld M x s) = 2->g.R (Ld M x s) k
 pp : ∀ x s,g.O x->Ln M x = 2->g.O (Ld M x s)->Re M x\/Ex ts (Pair x (Ld M x s))
 rg : ∀ x k,(g.V c).Inn x->(g.R x k ↔ (g.V c).Pth k x)
 bd : ∀ x,g.B x<=c
structure InvE (M : PMem) (c : Int) (ts : List PThread) : Prop where
 ms : ∀ x s st d,Sd M x s st d->Us M x/\0<=st/\st<=c/\b2i s < Ln M x
 pd : ∀ x s d,d ∈ Pd M x s->Ex ts (fun t=>Pn x s t\/Fr8 x t)
structure InvO (M : PMem) (c : Int) (r : PSweep) (ts : List PThread) : Prop where
 ho : ∀ x,Us M x->Ho M x = -1\/∃ i : Nat,i < ts.length/\Ho M x = i
 pw : ∀ (i j : Nat) t u x,ts[i]? = some t->ts[j]? = some u->Fr x t->Fr x u->i = j
 pq : ∀ (i j : Nat) t u x x' y,ts[i]? = some t->ts[j]? = some u->Pair x y t->Pair x' y u->i = j
 sw : ∀ x,InSw r x->Re M x/\Ra M x<=r.clock
 sc : r.clock<=c/\0<=c
 sm : r.made<=ts.length + 2
 sz : r.made = 0->r.retired = []/\r.hasTime = false
def Mt (M : PMem) (k : PWork) : Prop:=k.kind = 2/\Ky M k.ahead = k.key
instance (M : PMem) (k : PWork) : Decidable (Mt M k):=inferInstanceAs (Decidable (_/\_))
def hl (M : PMem) (k : PWork) : List Int:=if Mt M k then [k.above,k.stand] else [k.stand]
def kid (M : PMem) (k : PWork) (a : Int) (b : Bool) : Int:=if decide (Ky M k.ahead < k.key) = b then a else k.ahead
structure New (g : Gh) (M : PMem) (c : Int) (k : PWork) (a n : Int) : Prop where
 md : k.made = [a,n]
 ne : a≠n
 z : a≠0/\n≠0/\a≠1/\n≠1
 ua : Us M a/\Us M n
 h : ¬ (g.V c).Has a/\¬ (g.V c).Has n/\¬ g.O a/\¬ g.O n
 da : (M.node a).dead = false/\(M.node a).retired = false/\Ln M a = 0/\Ky M a = k.key/\(M.node a).value = k.value/\Ho M a = -1
 dn : (M.node n).dead = false/\(M.node n).retired = false/\Ln M n = 2/\Ky M n = (if Ky M k.ahead < k.key then k.key else Ky M k.ahead)/\Ho M n = -1
 ld : ∀ b,Ld M n b = kid M k a b
 pn : ∀ b,Pd M n b = [kid M k a b]
 pa : ∀ b,Pd M a b = []
 sn : ∀ b s d,¬ Sd M n b s d
 sa : ∀ b s d,¬ Sd M a b s d
 ps : Pd M k.stand (sd M k.stand k.key) = [n]
structure Made (g : Gh) (M : PMem) (c : Int) (k : PWork) (a n : Int) : Prop where
 md : k.made = [a,n]
 ne : a≠n
 ua : Us M a/\Us M n/\(g.V c).Has a/\(g.V c).Inn n
 h : Ln M a = 0/\Ln M n = 2/\Ho M n = -1/\Ho M a = -1
 ld : ∀ b,Ld M n b = kid M k a b
 an : ∀ b,A (g.V c) n b (kid M k a b)
 as1 : A (g.V c) k.stand (sd M k.stand k.key) n
 ps : Pd M k.stand (sd M k.stand k.key) = [n]
 ls : Ld M k.stand (sd M k.stand k.key) = k.ahead
 bn : g.B k.stand < g.B n
structure Outs (g : Gh) (M : PMem) (c : Int) (k : PWork) : Prop where
 o : g.O k.stand/\g.O k.ahead
 re : (M.node k.stand).retired = false/\(M.node k.ahead).retired = false
 ld : Ld M k.stand (sd M k.stand k.key) = k.ahead
 a : A (g.V c) k.above (sd M k.above k.key) (Ld M k.stand (!sd M k.stand k.key))
 ky : Ky M k.ahead = k.key
 ln : Ln M k.stand = 2
structure Th (g : Gh) (M : PMem) (c : Int) (r : PSweep) (ts : List PThread) (i : Nat) (t : PThread) : Prop where
 kd : t.busy = true->t.work.kind = 1\/t.work.kind = 2\/t.work.kind = 3\/t.work.kind = 4
 nx : t.busy = true->1<=t.work.next/\t.work.next<=13
 rd : t.busy = true->(t.work.kind = 3\/t.work.kind = 4)->t.work.next<=4\/t.work.next = 13
 sl : t.slot = if t.busy = true/\t.work.next≠1 then (if t.work.next<=3 then 1 else 2) else 0
 tm : t.busy = true->3<=t.work.next->t.work.time<=c/\(i + 1 < r.made->(r.hasTime = true/\r.time<=t.work.time)\/r.clock<=t.work.time)
 hd : ∀ x,Us M x->(Ho M x = i ↔ t.busy = true/\x ∈ (hl M t.work).take t.work.locks)
 l4 : t.busy = true->t.work.next<=4\/t.work.next = 13->t.work.locks = 0
 l5 : t.busy = true->t.work.next = 5->t.work.locks < (hl M t.work).length
 l6 : t.busy = true->6<=t.work.next->t.work.next<=12->t.work.locks = (hl M t.work).length
 ky : t.busy = true->t.work.kind≠4->0<=t.work.key/\t.work.key<=1099511627776
 hi : t.busy = true->t.work.kind = 4->greatestHi t.work.spans<=1099511627776
 lk : t.busy = true->t.work.kind = 4->t.work.next<=3->t.work.links = [(0,false)]
 l3 : t.busy = true->t.work.kind≠4->t.work.links = []
 m7 : t.busy = true->t.work.next<=7->t.work.made = []
 xs : t.busy = true->t.work.kind = 1\/t.work.kind = 2->4<=t.work.next->t.work.next<=12->Wk g M c ts t.work.key t.work.stand/\Safe M r i t.work.time t.work.stand
 xa : t.busy = true->t.work.kind = 1\/t.work.kind = 2->4<=t.work.next->t.work.next<=12->t.work.stand≠0->Wk g M c ts t.work.key t.work.above/\Safe M r i t.work.time t.work.above/\g.B t.work.above < g.B t.work.stand
 cs : t.busy = true->5<=t.work.next->t.work.next<=12->Gd g c ts t.work.ahead/\Safe M r i t.work.time t.work.ahead/\Ln M t.work.ahead = 0/\(t.work.stand = 0->t.work.ahead = 1)
 n9 : t.busy = true->t.work.next = 9->t.work.kind = 2
 c7 : t.busy = true->7<=t.work.next->t.work.next<=11->(Ky M t.work.ahead = t.work.key ↔ t.work.kind = 2)
 e7 : t.busy = true->7<=t.work.next->t.work.next<=8->A (g.V c) t.work.stand (sd M t.work.stand t.work.key) t.work.ahead/\Ld M t.work.stand (sd M t.work.stand t.work.key) = t.work.ahead/\(t.work.kind = 2->A (g.V c) t.work.above (sd M t.work.above t.work.key) t.work.stand/\Ld M t.work.above (sd M t.work.above t.work.key) = t.work.stand)
 tt : t.busy = true->8<=t.work.next->t.work.next<=11->t.work.tsrc = (if t.work.kind = 2 then t.work.above else t.work.stand)/\t.work.tside = sd M t.work.tsrc t.work.key
 f8 : t.busy = true->t.work.kind = 1->t.work.next = 8->∃ a n,New g M c t.work a n
 f10 : t.busy = true->t.work.kind = 1->t.work.next = 10->∃ a n,Made g M c t.work a n
 q8 : t.busy = true->t.work.kind = 2->8<=t.work.next->t.work.next<=10->Pd M t.work.above (sd M t.work.above t.work.key) = [Ld M t.work.stand (!sd M t.work.stand t.work.key)]/\Ld M t.work.above (sd M t.work.above t.work.key) = t.work.stand/\t.work.made = []
 q9 : t.busy = true->t.work.kind = 2->(t.work.next = 9\/t.work.next = 10\/t.work.next = 11\/(t.work.next = 12/\t.work.ans.did = true))->Outs g M c t.work/\(t.work.next≠9->De M t.work.stand/\De M t.work.ahead)
 p11 : t.busy = true->t.work.next = 11->Pd M t.work.tsrc t.work.tside = [Ld M t.work.tsrc t.work.tside]
 s9 : t.busy = true->9<=t.work.next->t.work.next<=11->t.work.ans.did = true/\t.work.time < t.work.ans.stamp/\0<=t.work.ans.stamp/\t.work.ans.stamp<=c/\∀ s d,Sd M t.work.tsrc t.work.tside s d->s < t.work.ans.stamp
structure Inv (g : Gh) (P : PSt) : Prop where
 kind : P.kind = 1
 wm : Wm P.mem
 n : InvN g P.mem P.clock P.sweep P.ts
 e : InvE P.mem P.clock P.ts
 o : InvO P.mem P.clock P.sweep P.ts
 th : ∀ (i : Nat) t,P.ts[i]? = some t->Th g P.mem P.clock P.sweep P.ts i t
section
variable {t : PThread} {x y st : Int} {s : Bool}
theorem Calm.fr8 (h : Calm t) : ¬ Fr8 x t:=by rintro ⟨h1,h2,h3,_⟩; have:=h h1 (.inl h2); omega
theorem Calm.fr (h : Calm t) : ¬ Fr x t:=by rintro ⟨h1,h2,h3,_⟩; have:=h h1 (.inl h2); omega
theorem Calm.tk (h : Calm t) : ¬ Tk x t:=by rintro ⟨h1,h2,h3,_⟩; have:=h h1 (.inr h2); omega
theorem Calm.own (h : Calm t) : ¬ Own x t:=by rintro ⟨h1,h2,h3,_⟩; have:=h h1 (.inr h2); grind
theorem Calm.pair (h : Calm t) : ¬ Pair x y t:=by rintro ⟨h1,h2,h3,_⟩; have:=h h1 (.inr h2); grind
theorem Calm.pn (h : Calm t) : ¬ Pn x s t:=by rintro ⟨h1,h2,h3,h4,_⟩; have:=h h1 h2; omega
theorem Calm.xl (h : Calm t) : ¬ Xl x s t:=by rintro ⟨h1,h2,h3,_⟩; have:=h h1 h2; omega
end
def HoldEq (M M' : PMem) : Prop:=∀ x,∃ h,M'.node x = { M.node x with holder:=h }
end T
end
section
namespace T
section
variable {g g' : Gh} {M M' : PMem} {c c' : Int} {r : PSweep} {i j : Nat} {t t' u : PThread} {ts ts' : List PThread} {P : PSt} {x : Int}
theorem hl_mem {k : PWork} {n : Nat} : x ∈ (hl M k).take n->x = k.stand\/(Mt M k/\x = k.above):=by
 intro h
 have:=List.mem_of_mem_take h
 unfold hl at this;split at this <;> simp at this <;> grind
theorem hl_len (M : PMem) (k : PWork) : 1<=(hl M k).length/\(hl M k).length<=2/\(Mt M k ↔ (hl M k).length = 2):=by
 unfold hl; split <;> simp_all
theorem hl_stand (M : PMem) (k : PWork) : k.stand ∈ (hl M k).take (hl M k).length:=by unfold hl; split <;> simp
theorem hl_above {k : PWork} (h : Mt M k) : k.above ∈ (hl M k).take (hl M k).length:=by unfold hl; rw [if_pos h]; simp
theorem hl_congr {k : PWork} (h : Ky M' k.ahead = Ky M k.ahead) : hl M' k = hl M k:=by
 have : Mt M' k ↔ Mt M k:=by unfold Mt; rw [h]
 unfold hl; simp only [this]
theorem sd_congr {k : Int} (h : Ky M' x = Ky M x) (h2 : Ln M' x = Ln M x) : sd M' x k = sd M x k:=by
 unfold sd PMem.sideFor;simp only [Ky,Ln] at h h2; rw [h,h2]
theorem InvN.one (h : InvN g M c r ts) : Ky M 1 = 1099511627777/\Us M 1/\Ln M 1 = 0/\(M.node 1).value = 0:=by
 have:=h.ag.l 1 _ _ h.gt.one; grind
theorem Th.mid (h : Th g M c r ts i t) (hb : t.busy = true) (hl : 0 < t.work.locks) : 5<=t.work.next/\t.work.next<=12/\(t.work.kind = 1\/t.work.kind = 2):=by
 have h1:=h.nx hb;have h2:=h.l4 hb;have h3:=h.kd hb;have h4:=h.rd hb;omega
theorem Th.upd (h : Th g M c r ts i t) (hb : t.busy = true) (h5 : 5<=t.work.next) (h12 : t.work.next<=12) : t.work.kind = 1\/t.work.kind = 2:=by
 have h3:=h.kd hb;have h4:=h.rd hb;omega
theorem Th.ns (h : Th g M c r ts i t) (h1 : Ky M 1 = 1099511627777) (hb : t.busy = true) (h5 : 5<=t.work.next) (h12 : t.work.next<=12) (hm : Mt M t.work) : t.work.stand≠0:=by
 intro e
 have:=(h.cs hb h5 h12).2.2.2 e
 have hk:=h.ky hb (by have:=hm.1; omega)
 have:=hm.2
 grind
theorem Th.held (h : Th g M c r ts i t) (h1 : Ky M 1 = 1099511627777) (hx : Us M x) (hh : Ho M x = i) : t.busy = true/\5<=t.work.next/\t.work.next<=12/\(t.work.kind = 1\/t.work.kind = 2)/\(x = t.work.stand\/(Mt M t.work/\x = t.work.above))/\Wk g M c ts t.work.key x:=by
 obtain ⟨hb,hm⟩:=(h.hd x hx).1 hh;have hl : 0 < t.work.locks:=by
  rcases Nat.eq_zero_or_pos t.work.locks with h0 | h0
  ·rw [h0] at hm; simp at hm
  ·exact h0
 obtain ⟨h5,h12,hk⟩:=h.mid hb hl;have hm':=hl_mem hm;refine ⟨hb,h5,h12,hk,hm',?_⟩;rcases hm' with rfl | ⟨hm',rfl⟩
 ·exact (h.xs hb hk (by omega) h12).1
 ·exact (h.xa hb hk (by omega) h12 (h.ns h1 hb h5 h12 hm')).1
theorem Th.hStand (h : Th g M c r ts i t) (hb : t.busy = true) (h6 : 6<=t.work.next) (h12 : t.work.next<=12) : Us M t.work.stand/\Ho M t.work.stand = i:=by
 have hl:=h.l6 hb h6 h12;have hu:=(h.xs hb (h.upd hb (by omega) h12) (by omega) h12).2.1;exact ⟨hu,(h.hd _ hu).2 ⟨hb,by rw [hl]; exact hl_stand _ _⟩⟩
theorem Th.hAbove (h : Th g M c r ts i t) (h1 : Ky M 1 = 1099511627777) (hb : t.busy = true) (h6 : 6<=t.work.next) (h12 : t.work.next<=12) (hm : Mt M t.work) : Us M t.work.above/\Ho M t.work.above = i:=by
 have hl:=h.l6 hb h6 h12;have hu:=(h.xa hb (h.upd hb (by omega) h12) (by omega) h12 (h.ns h1 hb (by omega) h12 hm)).2.1.1;exact ⟨hu,(h.hd _ hu).2 ⟨hb,by rw [hl]; exact hl_above hm⟩⟩
theorem Safe.rely {time x : Int} (h : Safe M r i time x) (hc : time<=c) (hu : Us M' x) (hr : Re M' x->(Re M x/\Ra M' x = Ra M x)\/c<=Ra M' x) : Safe M' r i time x:=by
 refine ⟨hu,?_,h.2.2⟩;intro h1;rcases hr h1 with ⟨h2,h3⟩ | h2
 ·rw [h3]; exact h.2.1 h2
 ·omega
structure Rel (g g' : Gh) (M M' : PMem) (c c' : Int) (ts ts' : List PThread) (j : Nat) (u : PThread) : Prop where
 cc : c<=c'
 ga : ∀ x,Gd g c ts x->Gd g' c' ts' x
 gn : ∀ x,x = 0\/Gd g c ts x->Us M' x/\Ky M' x = Ky M x/\Ln M' x = Ln M x/\g'.B x = g.B x/\(∀ k,g.R x k->g'.R x k)/\(Re M' x->(Re M x/\Ra M' x = Ra M x)\/c<=Ra M' x)
 go : ∀ x,g.O x->g'.O x
 gb : ∀ x,(Us M x/\Ho M x = j)\/Fr x u->M'.node x = M.node x/\(∀ s,Pd M' x s = Pd M x s)/\(∀ s st d,Sd M' x s st d->Sd M x s st d)/\(∀ s d,A (g.V c) x s d->A (g'.V c') x s d)/\g'.B x = g.B x
 gf : ∀ x,Fr8 x u->¬ (g'.V c').Has x/\¬ g'.O x
 gp : ∀ x y,Pair x y u->M'.node y = M.node y
 gc : ∀ x,Us M' x->(Ho M' x = j ↔ Us M x/\Ho M x = j)
 z : ¬ (g'.V c').Has 0
theorem Th.rely (h : Th g M c r ts j t) (h1 : Ky M 1 = 1099511627777) (f : Rel g g' M M' c c' ts ts' j t) : Th g' M' c' r ts' j t:=by
 obtain ⟨cc,ga,gn,go,gb,gf,gp,gc,gz⟩:=f;have kU:=fun b h5 h12=>h.upd (b : t.busy = true) h5 h12
 have hah : t.busy = true->5<=t.work.next->t.work.next<=12->Ky M' t.work.ahead = Ky M t.work.ahead:=by
  intro b h5 h12;exact (gn _ (.inr (h.cs b h5 h12).1)).2.1
 have hhl : t.busy = true->5<=t.work.next->t.work.next<=12->hl M' t.work = hl M t.work:=fun b h5 h12=>hl_congr (hah b h5 h12)
 have wk : ∀ x,Wk g M c ts t.work.key x->Wk g' M' c' ts' t.work.key x:=by
  rintro x (e | ⟨w1,w2,w3⟩)
  ·exact .inl e
  ·have:=gn x (.inr w3)
   exact .inr ⟨by rw [this.2.2.1]; exact w1,this.2.2.2.2.1 _ w2,ga x w3⟩
 have wz : ∀ x,Wk g M c ts t.work.key x->x = 0\/Gd g c ts x:=by
  rintro x (e | ⟨w1,w2,w3⟩)
  ·exact .inl e
  ·exact .inr w3
 have hst : t.busy = true->6<=t.work.next->t.work.next<=12->M'.node t.work.stand = M.node t.work.stand/\(∀ s,Pd M' t.work.stand s = Pd M t.work.stand s)/\(∀ s st d,Sd M' t.work.stand s st d->Sd M t.work.stand s st d)/\(∀ s d,A (g.V c) t.work.stand s d->A (g'.V c') t.work.stand s d)/\g'.B t.work.stand = g.B t.work.stand:=by
  intro b h6 h12;exact gb _ (.inl (h.hStand b h6 h12))
 have hab : t.busy = true->6<=t.work.next->t.work.next<=12->Mt M t.work->M'.node t.work.above = M.node t.work.above/\(∀ s,Pd M' t.work.above s = Pd M t.work.above s)/\(∀ s st d,Sd M' t.work.above s st d->Sd M t.work.above s st d)/\(∀ s d,A (g.V c) t.work.above s d->A (g'.V c') t.work.above s d)/\g'.B t.work.above = g.B t.work.above:=by
  intro b h6 h12 hm;exact gb _ (.inl (h.hAbove h1 b h6 h12 hm))
 have sds : t.busy = true->6<=t.work.next->t.work.next<=12->sd M' t.work.stand t.work.key = sd M t.work.stand t.work.key:=by
  intro b h6 h12
  have:=(hst b h6 h12).1
  exact sd_congr (by simp only [Ky]; rw [this]) (by simp only [Ln]; rw [this])
 have sda : t.busy = true->6<=t.work.next->t.work.next<=12->Mt M t.work->sd M' t.work.above t.work.key = sd M t.work.above t.work.key:=by
  intro b h6 h12 hm
  have:=(hab b h6 h12 hm).1
  exact sd_congr (by simp only [Ky]; rw [this]) (by simp only [Ln]; rw [this])
 have mt2 : t.busy = true->7<=t.work.next->t.work.next<=11->t.work.kind = 2->Mt M t.work:=fun b h7 h11 hk=>⟨hk,(h.c7 b h7 h11).2 hk⟩
 have mt3 : t.busy = true->t.work.kind = 2->(t.work.next = 9\/t.work.next = 10\/t.work.next = 11\/(t.work.next = 12/\t.work.ans.did = true))->Mt M t.work:=fun b hk hn=>⟨hk,(h.q9 b hk hn).1.ky⟩
 have tsrc : t.busy = true->8<=t.work.next->t.work.next<=11->M'.node t.work.tsrc = M.node t.work.tsrc/\(∀ s,Pd M' t.work.tsrc s = Pd M t.work.tsrc s)/\(∀ s st d,Sd M' t.work.tsrc s st d->Sd M t.work.tsrc s st d)/\sd M' t.work.tsrc t.work.key = sd M t.work.tsrc t.work.key:=by
  intro b h8 h11;have e:=(h.tt b h8 h11).1;by_cases hk : t.work.kind = 2
  ·rw [e,if_pos hk];have hm:=mt2 b (by omega) h11 hk
   have:=hab b (by omega) (by omega) hm
   exact ⟨this.1,this.2.1,this.2.2.1,sda b (by omega) (by omega) hm⟩
  ·rw [e,if_neg hk]
   have:=hst b (by omega) (by omega)
   exact ⟨this.1,this.2.1,this.2.2.1,sds b (by omega) (by omega)⟩
 refine ⟨h.kd,h.nx,h.rd,h.sl,?_,?_,h.l4,?_,?_,h.ky,h.hi,h.lk,h.l3,h.m7,?_,?_,?_,h.n9,?_,?_,?_,?_,?_,?_,?_,?_,?_⟩
 ·intro b h3; have:=h.tm b h3; exact ⟨by omega,this.2⟩
 ·intro x hu;rw [gc x hu];constructor
  ·rintro ⟨h2,h3⟩;have h4:=(h.hd x h2).1 h3;have h5:=h.held h1 h2 h3;rw [hhl h4.1 h5.2.1 h5.2.2.1]; exact h4
  ·rintro ⟨h2,h3⟩;have hlk : 0 < t.work.locks:=by
    rcases Nat.eq_zero_or_pos t.work.locks with h0 | h0
    ·rw [h0] at h3; simp at h3
    ·exact h0
   obtain ⟨h5,h12,hk⟩:=h.mid h2 hlk;rw [hhl h2 h5 h12] at h3;have hux : Us M x:=by
    rcases hl_mem h3 with rfl | ⟨hm,rfl⟩
    ·exact (h.xs h2 hk (by omega) h12).2.1
    ·exact (h.xa h2 hk (by omega) h12 (h.ns h1 h2 h5 h12 hm)).2.1.1
   exact ⟨hux,(h.hd x hux).2 ⟨h2,h3⟩⟩
 ·intro b h5; rw [hhl b (by omega) (by omega)]; exact h.l5 b h5
 ·intro b h6 h12; rw [hhl b (by omega) h12]; exact h.l6 b h6 h12
 ·intro b hk h4 h12;obtain ⟨q1,q2⟩:=h.xs b hk h4 h12
  have:=gn _ (wz _ q1)
  exact ⟨wk _ q1,q2.rely (h.tm b (by omega)).1 this.1 this.2.2.2.2.2⟩
 ·intro b hk h4 h12 hs;obtain ⟨q1,q2,q3⟩:=h.xa b hk h4 h12 hs;have e1:=gn _ (wz _ q1);have e2:=gn _ (wz _ (h.xs b hk h4 h12).1);exact ⟨wk _ q1,q2.rely (h.tm b (by omega)).1 e1.1 e1.2.2.2.2.2,by rw [e1.2.2.2.1,e2.2.2.2.1]; exact q3⟩
 ·intro b h5 h12;obtain ⟨q1,q2,q3,q4⟩:=h.cs b h5 h12;have e1:=gn _ (.inr q1);exact ⟨ga _ q1,q2.rely (h.tm b (by omega)).1 e1.1 e1.2.2.2.2.2,by rw [e1.2.2.1]; exact q3,q4⟩
 ·intro b h7 h11;rw [hah b (by omega) (by omega)]; exact h.c7 b h7 h11
 ·intro b h7 h8;obtain ⟨q1,q2,q3⟩:=h.e7 b h7 h8;have e1:=hst b (by omega) (by omega);rw [sds b (by omega) (by omega)];refine ⟨e1.2.2.2.1 _ _ q1,by simp only [Ld]; rw [e1.1]; exact q2,?_⟩;intro hk;obtain ⟨q4,q5⟩:=q3 hk;have hm:=mt2 b h7 (by omega) hk;have e2:=hab b (by omega) (by omega) hm;rw [sda b (by omega) (by omega) hm];exact ⟨e2.2.2.2.1 _ _ q4,by simp only [Ld]; rw [e2.1]; exact q5⟩
 ·intro b h8 h11;obtain ⟨q1,q2⟩:=h.tt b h8 h11;exact ⟨q1,by rw [(tsrc b h8 h11).2.2.2]; exact q2⟩
 ·intro b hk hn;obtain ⟨a,n,q⟩:=h.f8 b hk hn;have f8a : Fr8 a t:=⟨b,hk,hn,by rw [q.md]; simp⟩;have f8n : Fr8 n t:=⟨b,hk,hn,by rw [q.md]; simp⟩;obtain ⟨ea,pa,sa,_⟩:=gb a (.inr ⟨b,hk,.inl hn,f8a.2.2.2⟩);obtain ⟨en,pn,sn,_⟩:=gb n (.inr ⟨b,hk,.inl hn,f8n.2.2.2⟩);have es:=hst b (by omega) (by omega);have hk' : ∀ z,kid M' t.work a z = kid M t.work a z:=fun z=>by unfold kid; rw [hah b (by omega) (by omega)]
  refine ⟨a,n,q.md,q.ne,q.z,?_,?_,?_,?_,?_,?_,?_,?_,?_,?_⟩
  ·simp only [Us]; rw [ea,en]; exact q.ua
  ·have e1:=gf a f8a; have e2:=gf n f8n; exact ⟨e1.1,e2.1,e1.2,e2.2⟩
  ·simp only [Ln,Ky,Ho]; rw [ea]; exact q.da
  ·rw [hah b (by omega) (by omega)]; simp only [Ln,Ho]; rw [show Ky M' n = Ky M n by simp only [Ky]; rw [en],en]; exact q.dn
  ·intro z; rw [hk']; simp only [Ld]; rw [en]; exact q.ld z
  ·intro z; rw [hk',pn]; exact q.pn z
  ·intro z; rw [pa]; exact q.pa z
  ·intro z s d hh; exact q.sn z s d (sn _ _ _ hh)
  ·intro z s d hh; exact q.sa z s d (sa _ _ _ hh)
  ·rw [sds b (by omega) (by omega),es.2.1]; exact q.ps
 ·intro b hk hn;obtain ⟨a,n,q⟩:=h.f10 b hk hn;have fa : Fr a t:=⟨b,hk,.inr hn,by rw [q.md]; simp⟩;have fn : Fr n t:=⟨b,hk,.inr hn,by rw [q.md]; simp⟩;obtain ⟨ea,pa,sa,_⟩:=gb a (.inr fa);obtain ⟨en,pn,sn,an,bn⟩:=gb n (.inr fn);have es:=hst b (by omega) (by omega);have hk' : ∀ z,kid M' t.work a z = kid M t.work a z:=fun z=>by unfold kid; rw [hah b (by omega) (by omega)]
  have aa : ∀ z,A (g'.V c') n z (kid M' t.work a z):=fun z=>by rw [hk']; exact an _ _ (q.an z)
  have as' : A (g'.V c') t.work.stand (sd M' t.work.stand t.work.key) n:=by rw [sds b (by omega) (by omega)]; exact es.2.2.2.1 _ _ q.as1
  have hasa : (g'.V c').Has a:=by
   have:=aa (decide (Ky M' t.work.ahead < t.work.key))
   unfold kid at this;rw [if_pos rfl] at this;exact (Tr.ed_has this).1
  have innn : (g'.V c').Inn n:=by
   rcases (Tr.ed_has (aa false)).2 with e | e
   ·have:=(Tr.ed_has as').1
    rw [e] at this; exact absurd this gz
   ·exact e
  refine ⟨a,n,q.md,q.ne,?_,?_,?_,aa,as',?_,?_,?_⟩
  ·simp only [Us]; rw [ea,en]; exact ⟨q.ua.1,q.ua.2.1,hasa,innn⟩
  ·simp only [Ln,Ho]; rw [ea,en]; exact q.h
  ·intro z; rw [hk']; simp only [Ld]; rw [en]; exact q.ld z
  ·rw [sds b (by omega) (by omega),es.2.1]; exact q.ps
  ·rw [sds b (by omega) (by omega)]; simp only [Ld]; rw [es.1]; exact q.ls
  ·rw [es.2.2.2.2,bn]; exact q.bn
 ·intro b hk h8 h10;obtain ⟨q1,q2,q3⟩:=h.q8 b hk h8 h10;have hm:=mt2 b (by omega) (by omega) hk;have e1:=hst b (by omega) (by omega);have e2:=hab b (by omega) (by omega) hm;rw [sda b (by omega) (by omega) hm,sds b (by omega) (by omega),e2.2.1];simp only [Ld];rw [e1.1,e2.1]; exact ⟨q1,q2,q3⟩
 ·intro b hk hn;obtain ⟨q,qd⟩:=h.q9 b hk hn;have hm:=mt3 b hk hn;have e1:=hst b (by omega) (by omega);have e2:=hab b (by omega) (by omega) hm;have e3:=gp _ _ (show Pair t.work.stand t.work.ahead t from ⟨b,hk,hn,rfl,rfl⟩);refine ⟨⟨⟨go _ q.o.1,go _ q.o.2⟩,?_,?_,?_,?_,?_⟩,?_⟩
  ·rw [e1.1,e3]; exact q.re
  ·rw [sds b (by omega) (by omega)]; simp only [Ld]; rw [e1.1]; exact q.ld
  ·rw [sds b (by omega) (by omega),sda b (by omega) (by omega) hm]; simp only [Ld]; rw [e1.1]; exact e2.2.2.2.1 _ _ q.a
  ·rw [hah b (by omega) (by omega)]; exact q.ky
  ·simp only [Ln]; rw [e1.1]; exact q.ln
  ·intro h9; simp only [De]; rw [e1.1,e3]; exact qd h9
 ·intro b hn;have e:=tsrc b (by omega) (by omega);simp only [Ld];rw [e.2.1,e.1]; exact h.p11 b hn
 ·intro b h9 h11;obtain ⟨q1,q2,q3,q4,q5⟩:=h.s9 b h9 h11;exact ⟨q1,q2,q3,by omega,fun s d hh=>q5 s d ((tsrc b (by omega) h11).2.2.1 _ _ _ hh)⟩
end
end T
end
end Go.Proofs.YtfccelbmacjifabGreat
