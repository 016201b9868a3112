import Derived.Test.YtfccelbmacjifaaGreatP0
import Derived.Test.YtfccelbmacjifaaGreatP20
set_option linter.unusedSimpArgs false
set_option maxRecDepth 100000
set_option maxHeartbeats 4000000
namespace Go.Proofs.YtfccelbmacjifaaGreat
section
section
variable {C C' : Int->Prop} {M M' M2 : PMem} {c c' : Int} {r r' : PSweep} {i j : Nat} {t t' u : PThread} {ts : List PThread} {P : PSt} {x : Int} {k : PWork}
theorem step_mid (P : PSt) (h4 : 4<=t.work.next) (h12 : t.work.next<=12) : P.step i t = if t.work.kind = 3\/t.work.kind = 4 then P.read i t.work else P.update i t.work:=by
 unfold PSt.step;split <;> first | (rename_i hh; omega) | rfl
theorem Inv.moves (h : Inv C P) (ht : P.ts[i]? = some t) (hb : t.busy = true) (hn : ¬ (t.work.next = 5/\(t.work.kind = 1\/t.work.kind = 2))) (hr : ¬ (t.work.next = 4/\(t.work.kind = 3\/t.work.kind = 4))) : (P.step i t).2≠2:=by
 have hT:=h.th i t ht;have hnx:=hT.nx hb;have hkd:=hT.kd hb;have hrd:=hT.rd hb;rcases (show t.work.next = 1\/t.work.next = 2\/t.work.next = 3\/t.work.next = 13\/(4<=t.work.next/\t.work.next<=12) by omega) with hq | hq | hq | hq | hq
 ·unfold PSt.step; simp only [hq]; decide
 ·unfold PSt.step; simp only [hq]; decide
 ·unfold PSt.step; simp only [hq]; decide
 ·unfold PSt.step; simp only [hq]; decide
 ·rw [step_mid P hq.1 hq.2];by_cases hk : t.work.kind = 3\/t.work.kind = 4
  ·have:=hrd hk; omega
  ·rw [if_neg hk];unfold PSt.update;rcases (show t.work.next = 4\/t.work.next = 6\/t.work.next = 7\/t.work.next = 8\/t.work.next = 9\/t.work.next = 10\/t.work.next = 11\/t.work.next = 12 by omega) with e | e | e | e | e | e | e | e <;> simp only [e] <;> decide
theorem Inv.waits (h : Inv C P) (ht : P.ts[i]? = some t) (hb : t.busy = true) (hw : (P.step i t).2 = 2) : (P.step i t).1 = P/\((t.work.next = 5/\(t.work.kind = 1\/t.work.kind = 2)/\Ho P.mem (lockNext t.work)≠-1)\/∃ x d,d ∈ Pd P.mem x):=by
 by_cases hn : t.work.next = 5/\(t.work.kind = 1\/t.work.kind = 2)
 ·have hs : P.step i t = P.lock i t.work:=by
   rw [step_mid P (by omega) (by omega),if_neg (by omega)];unfold PSt.update;simp only [hn.1]
  rw [hs] at hw ⊢;rcases h.lock ht hb hn.1 with ⟨_,q,_⟩ | ⟨q1,q2⟩
  ·rw [q] at hw; exact absurd (show (1 : Int) = 2 from hw) (by decide)
  ·rw [q2]; exact ⟨rfl,.inl ⟨hn.1,hn.2,q1⟩⟩
 ·by_cases hr : t.work.next = 4/\(t.work.kind = 3\/t.work.kind = 4)
  ·have hs : P.step i t = P.read i t.work:=by rw [step_mid P (by omega) (by omega),if_pos hr.2]
   obtain ⟨x,h1,_⟩:=h.linkIs ht hb hr.1 hr.2;rw [hs] at hw ⊢;unfold PSt.read at hw ⊢;rw [h1] at hw ⊢;simp only at hw ⊢;by_cases hp : P.mem.hasPending x false = true
   ·rw [if_pos hp];refine ⟨rfl,.inr ⟨x,?_⟩⟩
    have:=hasPd_iff.1 hp
    cases hd : Pd P.mem x with
    | nil=>exact absurd hd this
    | cons d l=>exact ⟨d,by simp⟩
   ·rw [if_neg hp] at hw; exact absurd (show (1 : Int) = 2 from hw) (by decide)
  ·exact absurd hw (h.moves ht hb hn hr)
theorem Inv.kyle (h : Inv C P) (hx : x = 1\/Gd P.mem C x) (h0 : x≠0) : 0<=Ky P.mem x/\Ky P.mem x<=1099511627777:=by
 rcases hx with rfl | hx
 ·have:=h.n.a1.2.2.2.2.2; omega
 ·have:=h.gd01 hx h0; omega
theorem Inv.holder (h : Inv C P) (ht : P.ts[i]? = some t) (hb : t.busy = true) (hn : t.work.next = 5) (hh : Ho P.mem (lockNext t.work)≠-1) :
  ∃ j u,P.ts[j]? = some u/\u.busy = true/\(u.work.kind = 1\/u.work.kind = 2)/\((P.step j u).2≠2\/(u.work.next = 5/\Ho P.mem (lockNext u.work)≠-1/\lockNext u.work≠0/\(lockNext t.work≠0->Ky P.mem (lockNext t.work) < Ky P.mem (lockNext u.work)))):=by
 obtain ⟨_,_,l3,_,_,_,_⟩:=h.lockIs ht hb hn;obtain ⟨j,hj,hjo⟩:=(h.o.ho _ l3).resolve_left hh;have hju : P.ts[j]? = some P.ts[j]:=List.getElem?_eq_getElem hj;generalize P.ts[j] = u at hju;have hU:=h.th j u hju;obtain ⟨ub,um⟩:=(hU.hd _ l3).1 hjo;obtain ⟨_,_,ul,_⟩:=hU.heldUs ub um;obtain ⟨u1,u2,u3⟩:=hU.mid ub ul;refine ⟨j,u,hju,ub,u3,?_⟩;by_cases hmv : (P.step j u).2 = 2
 ·right;obtain ⟨_,w⟩:=h.waits hju ub hmv;have hu5 : u.work.next = 5:=by
   by_cases e : u.work.next = 5
   ·exact e
   ·exact absurd hmv (h.moves hju ub (fun q=>e q.1) (fun q=>by omega))
  have hw5 : Ho P.mem (lockNext u.work)≠-1:=by
   have hs : P.step j u = P.lock j u.work:=by
    rw [step_mid P (by omega) (by omega),if_neg (by omega)];unfold PSt.update;simp only [hu5]
   rw [hs] at hmv;rcases h.lock hju ub hu5 with ⟨_,q,_⟩ | ⟨q1,q2⟩
   ·rw [q] at hmv; exact absurd (show (1 : Int) = 2 from hmv) (by decide)
   ·exact q1
  have hl1 : u.work.locks = 1:=by
   have:=hU.l5 ub hu5
   have:=(wl_pos P.mem u.work).2
   omega
  have hln : lockNext u.work = u.work.ahead:=by unfold lockNext; rw [if_neg (by omega)]
  rw [hl1] at um;have hst : lockNext t.work = u.work.stand:=by simpa using um
  obtain ⟨_,_,x3⟩:=hU.xs ub (by omega) (by omega) u2;obtain ⟨_,_,c3,c4⟩:=hU.cs ub (by omega) u2;refine ⟨hu5,hw5,by rw [hln]; exact c3,?_⟩;intro h0;rw [hln,hst];rw [hst] at h0
  have:=x3.resolve_left h0
  omega
 ·exact .inl hmv
theorem Inv.chase (h : Inv C P) : ∀ (m i : Nat) (t : PThread),P.ts[i]? = some t->t.busy = true->t.work.next = 5->Ho P.mem (lockNext t.work)≠-1->lockNext t.work≠0->(1099511627777 - Ky P.mem (lockNext t.work)).toNat<=m->∃ j u,P.ts[j]? = some u/\u.busy = true/\(P.step j u).2≠2/\(u.work.kind = 1\/u.work.kind = 2)
 | 0,i,t,ht,hb,hn,hh,h0,hm=>by
  obtain ⟨j,u,hj,ub,uk,q | ⟨q1,q2,q3,q4⟩⟩:=h.holder ht hb hn hh
  ·exact ⟨j,u,hj,ub,q,uk⟩
  ·exfalso;have h1:=h.kyle (h.lockIs ht hb hn).2.2.2.1 h0;have h2:=h.kyle (h.lockIs hj ub q1).2.2.2.1 q3
   have:=q4 h0
   omega
 | m + 1,i,t,ht,hb,hn,hh,h0,hm=>by
  obtain ⟨j,u,hj,ub,uk,q | ⟨q1,q2,q3,q4⟩⟩:=h.holder ht hb hn hh
  ·exact ⟨j,u,hj,ub,q,uk⟩
  ·have h1:=h.kyle (h.lockIs ht hb hn).2.2.2.1 h0;have h2:=h.kyle (h.lockIs hj ub q1).2.2.2.1 q3
   have:=q4 h0
   exact Inv.chase h m j u hj ub q1 q2 q3 (by omega)
theorem Inv.live (h : Inv C P) (ht : P.ts[i]? = some t) (hb : t.busy = true) : ∃ j u,P.ts[j]? = some u/\u.busy = true/\(P.step j u).2≠2/\(j = i\/u.work.kind = 1\/u.work.kind = 2):=by
 by_cases hw : (P.step i t).2 = 2
 ·obtain ⟨_,⟨h5,_,hh⟩ | ⟨x,d,hd⟩⟩:=h.waits ht hb hw
  ·by_cases h0 : lockNext t.work = 0
   ·obtain ⟨j,u,hj,ub,uk,q | ⟨q1,q2,q3,_⟩⟩:=h.holder ht hb h5 hh
    ·exact ⟨j,u,hj,ub,q,.inr uk⟩
    ·obtain ⟨j,u,z1,z2,z3,z4⟩:=h.chase _ j u hj ub q1 q2 q3 (Nat.le_refl _);exact ⟨j,u,z1,z2,z3,.inr z4⟩
   ·obtain ⟨j,u,z1,z2,z3,z4⟩:=h.chase _ i t ht hb h5 hh h0 (Nat.le_refl _);exact ⟨j,u,z1,z2,z3,.inr z4⟩
  ·obtain ⟨j,u,hj,hu⟩:=h.e.pd x d hd;refine ⟨j,u,hj,?_,?_,.inr ?_⟩
   ·rcases hu with q | q
    ·exact q.1
    ·exact q.1
   ·rcases hu with ⟨q1,q2,q3,q4,_⟩ | ⟨q1,q2,q3,_⟩
    ·exact h.moves hj q1 (fun e=>by omega) (fun e=>by omega)
    ·exact h.moves hj q1 (fun e=>by omega) (fun e=>by omega)
   ·rcases hu with q | q
    ·exact q.2.1
    ·exact .inl q.2.1
 ·exact ⟨i,t,ht,hb,hw,.inl rfl⟩
end
end
section
def Passed (M : PMem) (C : Int->Prop) (x p : Int) : Prop:=p = 0\/(x≠0/\Gd M C p/\Ky M p<=Ky M x)
open Classical in
noncomputable def wp (L : Nat) (M : PMem) (C : Int->Prop) (x : Int) : Nat:=((List.range L).filter (fun p=>decide (¬ Passed M C x ((p : Nat) : Int)))).length
open Classical in
noncomputable def stale (M : PMem) (C : Int->Prop) (k : PWork) : Nat:=if C k.stand/\(k.next = 4\/Ld M k.stand = k.ahead) then 0 else 1
def unl (t : PThread) : Bool:=t.busy && (decide (t.work.kind = 1\/t.work.kind = 2) && decide (t.work.next<=10))
def rx (k : PWork) : Int:=if k.kind = 3 then k.stand else match k.links with
 | p :: _=>p.1
 | []=>0
noncomputable def phi (L : Nat) (M : PMem) (C : Int->Prop) (u : Nat) (t : PThread) : Nat :=
 if t.busy = false then 0
 else if t.work.kind = 3\/t.work.kind = 4 then (if t.work.next = 13 then 1 else if t.work.next = 4 then 2 + wp L M C (rx t.work) else L + 7 - t.work.next)
 else if 7<=t.work.next then 14 - t.work.next
 else (if t.work.next = 6 then 9 else if t.work.next = 5 then 11 - t.work.locks else if t.work.next = 4 then 11 + wp L M C t.work.stand else L + 15 - t.work.next) + (u + (if 4<=t.work.next then stale M C t.work else 0)) * (L + 2)
noncomputable def Phi (L : Nat) (C : Int->Prop) (P : PSt) : Nat:=(P.ts.map (phi L P.mem C (count unl P.ts))).sum
theorem filt_le {α : Type} (p q : α->Bool) : ∀ (l : List α),(∀ a ∈ l,q a = true->p a = true)->(l.filter q).length<=(l.filter p).length
 | [],_=>by simp
 | a :: l,h=>by
  have ih:=filt_le p q l (fun b hb=>h b (by simp [hb]));have ha:=h a (by simp);rw [List.filter_cons,List.filter_cons];by_cases hq : q a = true
  ·rw [if_pos hq,if_pos (ha hq)]; simpa using ih
  ·rw [if_neg hq];split
   ·simp; omega
   ·exact ih
theorem filt_lt {α : Type} (p q : α->Bool) : ∀ (l : List α),(∀ a ∈ l,q a = true->p a = true)->(∃ a ∈ l,p a = true/\q a = false)->(l.filter q).length < (l.filter p).length
 | [],_,h=>by obtain ⟨a,ha,_⟩:=h; cases ha
 | a :: l,h,hx=>by
  have hle:=filt_le p q l (fun b hb=>h b (by simp [hb]));have ha:=h a (by simp);rw [List.filter_cons,List.filter_cons];obtain ⟨b,hb,h1,h2⟩:=hx;rcases List.mem_cons.1 hb with rfl | hb
  ·rw [if_pos h1,if_neg (by rw [h2]; decide)]; simp; omega
  ·have ih:=filt_lt p q l (fun c hc=>h c (by simp [hc])) ⟨b,hb,h1,h2⟩;by_cases hq : q a = true
   ·rw [if_pos hq,if_pos (ha hq)]; simpa using ih
   ·rw [if_neg hq];split
    ·simp; omega
    ·exact ih
section
variable {C C' : Int->Prop} {M M' M2 : PMem} {c c' : Int} {r r' : PSweep} {i j : Nat} {t t' u : PThread} {ts : List PThread} {P : PSt} {x d : Int} {k : PWork} {L : Nat}
open Classical in
theorem wp_mono (h : ∀ p,Passed M C x p->Passed M' C' x p) : wp L M' C' x<=wp L M C x:=by
 refine filt_le _ _ _ ?_;intro a _ hq;simp only [decide_eq_true_eq] at hq ⊢;exact fun hp=>hq (h _ hp)
open Classical in
theorem wp_le (hL : 1<=L) (M : PMem) (C : Int->Prop) (x : Int) : wp L M C x + 1<=L:=by
 have h:=filt_lt (fun _ : Nat=>true) (fun p=>decide (¬ Passed M C x ((p : Nat) : Int))) (List.range L) (fun _ _ _=>rfl) ⟨0,by simp; omega,rfl,by simp; exact .inl rfl⟩;rw [List.filter_eq_self.2 (fun _ _=>rfl),List.length_range] at h;exact h
open Classical in
theorem Inv.wp_pos (h : Inv C P) (hL : 2<=L) (x : Int) : 1<=wp L P.mem C x:=by
 unfold wp;apply List.length_pos_of_mem (a:=1);rw [List.mem_filter];refine ⟨by simp; omega,?_⟩;simp only [decide_eq_true_eq];rintro (q | ⟨_,q,_⟩)
 ·have : ((1 : Nat) : Int) = 0:=q; omega
 ·exact (h.gdLinks q).2 rfl
open Classical in
theorem Inv.wp_lt (h : Inv C P) (hL : P.mem.ns.length = L) (hd : Gd P.mem C d) (h0 : d≠0) (hlt : Lt P.mem x d) : wp L P.mem C d < wp L P.mem C x:=by
 have hu:=h.gdUs (.inr hd);obtain ⟨k,e,rfl,hk,_⟩:=node_at (hasN_used hu);have hkl:=(List.getElem?_eq_some_iff.1 hk).1;refine filt_lt _ _ _ ?_ ⟨k,by simp; omega,?_,?_⟩
 ·intro p _ hq;simp only [decide_eq_true_eq] at hq ⊢;rintro (q | ⟨q1,q2,q3⟩)
  ·exact hq (.inl q)
  ·refine hq (.inr ⟨h0,q2,?_⟩)
   have:=hlt.resolve_left q1
   omega
 ·simp only [decide_eq_true_eq];rintro (q | ⟨q1,q2,q3⟩)
  ·exact h0 q
  ·have:=hlt.resolve_left q1
   omega
 ·simp only [decide_eq_false_iff_not,Classical.not_not];exact .inr ⟨h0,hd,Int.le_refl _⟩
theorem stale_le (M : PMem) (C : Int->Prop) (k : PWork) : stale M C k<=1:=by unfold stale; split <;> omega
theorem stale_zero (h : C k.stand/\(k.next = 4\/Ld M k.stand = k.ahead)) : stale M C k = 0:=by unfold stale; rw [if_pos h]
theorem sum_set (f g : PThread->Nat) : ∀ (ts : List PThread) (i : Nat) (t t' : PThread),ts[i]? = some t->(∀ j u,j≠i->ts[j]? = some u->g u<=f u)->g t' < f t->((ts.set i t').map g).sum < (ts.map f).sum
 | [],i,t,t',h,_,_=>by simp at h
 | a :: l,0,t,t',h,ho,hi=>by
  simp at h; subst h;have hl : (l.map g).sum<=(l.map f).sum:=by
   have : ∀ (m : List PThread),(∀ u ∈ m,g u<=f u)->(m.map g).sum<=(m.map f).sum:=by
    intro m
    induction m with
    | nil=>simp
    | cons b m ih =>
     intro hm;have h1:=hm b (by simp);have h2:=ih (fun u hu=>hm u (by simp [hu]));simp only [List.map_cons,List.sum_cons]; omega
   apply this;intro u hu;obtain ⟨j,hj⟩:=List.mem_iff_getElem?.1 hu;exact ho (j + 1) u (by omega) (by simpa using hj)
  simp only [List.set_cons_zero,List.map_cons,List.sum_cons]; omega
 | a :: l,i + 1,t,t',h,ho,hi=>by
  have ih:=sum_set f g l i t t' (by simpa using h) (fun j u hj hu=>ho (j + 1) u (by omega) (by simpa using hu)) hi;have h0:=ho 0 a (by omega) rfl;simp only [List.set_cons_succ,List.map_cons,List.sum_cons]; omega
theorem count_set_le (p : PThread->Bool) : ∀ {ts : List PThread} {i : Nat} {t t' : PThread},ts[i]? = some t->(p t' = true->p t = true)->count p (ts.set i t')<=count p ts
 | [],i,t,t',h=>by simp at h
 | a :: l,0,t,t',h=>by
  intro hp;simp at h; subst h;unfold count;rw [List.set_cons_zero,List.filter_cons,List.filter_cons];by_cases hq : p t' = true
  ·rw [if_pos hq,if_pos (hp hq)]; simp
  ·rw [if_neg hq]; split <;> simp
 | a :: l,i + 1,t,t',h=>by
  intro hp;have ih:=count_set_le p (ts:=l) (i:=i) (t:=t) (t':=t') (by simpa using h) hp;unfold count at *;rw [List.set_cons_succ,List.filter_cons,List.filter_cons];split <;> simp <;> omega
theorem Th.phi_le (h : Inv C P) (hj : P.ts[j]? = some u) {n n' : Nat}
  (hk : ∀ x,x = 1\/Gd P.mem C x->Nk P.mem M' x/\(Gd P.mem C x->Gd M' C' x))
  (hs : n' + 1<=n\/(n'<=n/\C' = C/\∀ x,Gd P.mem C x->Ld M' x = Ld P.mem x)) : phi L M' C' n' u<=phi L P.mem C n u:=by
 have hU:=h.th j u hj;have hwp : ∀ x,Gd P.mem C x->wp L M' C' x<=wp L P.mem C x:=by
  intro x hx;refine wp_mono ?_;rintro p (q | ⟨q1,q2,q3⟩)
  ·exact .inl q
  ·obtain ⟨⟨z1,_⟩,z2⟩:=hk p (.inr q2);obtain ⟨⟨y1,_⟩,_⟩:=hk x (.inr hx);exact .inr ⟨q1,z2 q2,by rw [z1.1,y1.1]; exact q3⟩
 unfold phi;by_cases hb : u.busy = false
 ·rw [if_pos hb,if_pos hb]; exact Nat.le_refl _
 ·rw [if_neg hb,if_neg hb];have b : u.busy = true:=by simpa using hb
  by_cases hr : u.work.kind = 3\/u.work.kind = 4
  ·rw [if_pos hr,if_pos hr];by_cases h13 : u.work.next = 13
   ·rw [if_pos h13,if_pos h13]; exact Nat.le_refl _
   ·rw [if_neg h13,if_neg h13];by_cases h4 : u.work.next = 4
    ·rw [if_pos h4,if_pos h4];have hg : Gd P.mem C (rx u.work):=by
      unfold rx;rcases hr with hr | hr
      ·rw [if_pos hr]; exact (hU.xs b (by omega) (by omega) (by omega)).1
      ·rw [if_neg (by omega)];obtain ⟨x,e,g,_⟩:=hU.xl b hr h4;rw [e]; exact g
     have:=hwp _ hg
     omega
    ·rw [if_neg h4,if_neg h4]; exact Nat.le_refl _
  ·rw [if_neg hr,if_neg hr];by_cases h7 : 7<=u.work.next
   ·rw [if_pos h7,if_pos h7]; exact Nat.le_refl _
   ·rw [if_neg h7,if_neg h7];have hkd:=hU.kd b;have hg : 4<=u.work.next->Gd P.mem C u.work.stand:=fun h4=>(hU.xs b (by omega) h4 (by omega)).1
    have h1 : (if u.work.next = 6 then 9 else if u.work.next = 5 then 11 - u.work.locks else if u.work.next = 4 then 11 + wp L M' C' u.work.stand else L + 15 - u.work.next)<=(if u.work.next = 6 then 9 else if u.work.next = 5 then 11 - u.work.locks else if u.work.next = 4 then 11 + wp L P.mem C u.work.stand else L + 15 - u.work.next):=by
     by_cases h6 : u.work.next = 6
     ·rw [if_pos h6,if_pos h6]; exact Nat.le_refl _
     ·rw [if_neg h6,if_neg h6];by_cases h5 : u.work.next = 5
      ·rw [if_pos h5,if_pos h5]; exact Nat.le_refl _
      ·rw [if_neg h5,if_neg h5];by_cases h4 : u.work.next = 4
       ·rw [if_pos h4,if_pos h4]
        have:=hwp _ (hg (by omega)); omega
       ·rw [if_neg h4,if_neg h4]; exact Nat.le_refl _
    have h2 : n' + (if 4<=u.work.next then stale M' C' u.work else 0)<=n + (if 4<=u.work.next then stale P.mem C u.work else 0):=by
     by_cases h4 : 4<=u.work.next
     ·rw [if_pos h4,if_pos h4];rcases hs with hs | ⟨hs1,hs2,hs3⟩
      ·have:=stale_le M' C' u.work; omega
      ·subst hs2;have hst : stale M' C' u.work<=stale P.mem C' u.work:=by
        unfold stale;rw [hs3 _ (hg h4)];exact Nat.le_refl _
       omega
     ·rw [if_neg h4,if_neg h4];omega
    have h3:=Nat.mul_le_mul_right (L + 2) h2;omega
end
end
section
section
variable {C C' : Int->Prop} {M M' M2 : PMem} {c c' : Int} {r r' : PSweep} {i j : Nat} {t t' u : PThread} {ts : List PThread} {P : PSt} {x d : Int} {k : PWork} {L n n' : Nat}
theorem phi_idle (hb : t.busy = false) : phi L M C n t = 0:=by unfold phi; rw [if_pos hb]
theorem phi_r13 (hb : t.busy = true) (hr : t.work.kind = 3\/t.work.kind = 4) (hn : t.work.next = 13) : phi L M C n t = 1:=by
 unfold phi; rw [if_neg (by simp [hb]),if_pos hr,if_pos hn]
theorem phi_r4 (hb : t.busy = true) (hr : t.work.kind = 3\/t.work.kind = 4) (hn : t.work.next = 4) : phi L M C n t = 2 + wp L M C (rx t.work):=by
 unfold phi; rw [if_neg (by simp [hb]),if_pos hr,if_neg (by omega),if_pos hn]
theorem phi_r3 (hb : t.busy = true) (hr : t.work.kind = 3\/t.work.kind = 4) (hn : t.work.next<=3) : phi L M C n t = L + 7 - t.work.next:=by
 unfold phi; rw [if_neg (by simp [hb]),if_pos hr,if_neg (by omega),if_neg (by omega)]
theorem phi_u7 (hb : t.busy = true) (hr : ¬ (t.work.kind = 3\/t.work.kind = 4)) (hn : 7<=t.work.next) : phi L M C n t = 14 - t.work.next:=by
 unfold phi; rw [if_neg (by simp [hb]),if_neg hr,if_pos hn]
theorem phi_u6 (hb : t.busy = true) (hr : ¬ (t.work.kind = 3\/t.work.kind = 4)) (hn : t.work.next = 6) : phi L M C n t = 9 + (n + stale M C t.work) * (L + 2):=by
 unfold phi; rw [if_neg (by simp [hb]),if_neg hr,if_neg (by omega),if_pos hn,if_pos (by omega)]
theorem phi_u5 (hb : t.busy = true) (hr : ¬ (t.work.kind = 3\/t.work.kind = 4)) (hn : t.work.next = 5) : phi L M C n t = 11 - t.work.locks + (n + stale M C t.work) * (L + 2):=by
 unfold phi; rw [if_neg (by simp [hb]),if_neg hr,if_neg (by omega),if_neg (by omega),if_pos hn,if_pos (by omega)]
theorem phi_u4 (hb : t.busy = true) (hr : ¬ (t.work.kind = 3\/t.work.kind = 4)) (hn : t.work.next = 4) : phi L M C n t = 11 + wp L M C t.work.stand + (n + stale M C t.work) * (L + 2):=by
 unfold phi; rw [if_neg (by simp [hb]),if_neg hr,if_neg (by omega),if_neg (by omega),if_neg (by omega),if_pos hn,if_pos (by omega)]
theorem phi_u3 (hb : t.busy = true) (hr : ¬ (t.work.kind = 3\/t.work.kind = 4)) (hn : t.work.next<=3) : phi L M C n t = L + 15 - t.work.next + n * (L + 2):=by
 unfold phi; rw [if_neg (by simp [hb]),if_neg hr,if_neg (by omega),if_neg (by omega),if_neg (by omega),if_neg (by omega),if_neg (by omega)]; rfl
structure Nearer (L : Nat) (P : PSt) (C : Int->Prop) (i : Nat) (t t' : PThread) : Prop where
 ts : (P.step i t).1.ts = P.ts.set i t'
 un : unl t' = true->unl t = true
 ln : t.work.next = 10->unl t = true/\unl t' = false
 lt : ∀ n n',n'<=n->phi L (P.step i t).1.mem (nextC C t) n' t' < phi L P.mem C n t
theorem unl_mono (hb : t.busy = true) (hk : k.kind = t.work.kind) (hn : k.next<=10->t.work.next<=10) (h : unl { t with work:=k } = true) : unl t = true:=by
 unfold unl at *;simp only [Bool.and_eq_true,decide_eq_true_eq] at h ⊢;rw [hk] at h;exact ⟨hb,h.2.1,hn h.2.2⟩
theorem mul_mono (h : n'<=n) {a b : Nat} (hab : a<=b) : (n' + a) * (L + 2)<=(n + b) * (L + 2):=Nat.mul_le_mul_right _ (by omega)
theorem Nearer.late (hb : t.busy = true) (hr : ¬ (t.work.kind = 3\/t.work.kind = 4)) (h6 : 6<=t.work.next) (hts : (P.step i t).1.ts = P.ts.set i { t with work:=k }) (hk : k.kind = t.work.kind) (hn : t.work.next < k.next) (h13 : k.next<=13) (h10 : t.work.next = 10->k.next = 11) (hkd : t.work.kind = 1\/t.work.kind = 2) : Nearer L P C i t { t with work:=k }:=by
 refine ⟨hts,unl_mono hb hk (fun h=>by omega),?_,?_⟩
 ·intro e
  have:=h10 e
  unfold unl;simp only [hb,Bool.true_and,Bool.and_eq_true,decide_eq_true_eq,Bool.and_eq_false_iff,decide_eq_false_iff_not];exact ⟨⟨hkd,by omega⟩,.inr (by omega)⟩
 ·intro n n' hnn;have hk' : ¬ (k.kind = 3\/k.kind = 4):=by rw [hk]; exact hr
  rw [phi_u7 (t:={ t with work:=k }) hb hk' (by show 7<=k.next; omega)];show 14 - k.next < _
  by_cases h7 : 7<=t.work.next
  ·rw [phi_u7 hb hr h7]; omega
  ·rw [phi_u6 hb hr (by omega)]; omega
theorem Inv.near (h : Inv C P) (hL : P.mem.ns.length = L) (ht : P.ts[i]? = some t) (hb : t.busy = true) (hmv : (P.step i t).2≠2) : ∃ t',Nearer L P C i t t':=by
 have hT:=h.th i t ht;have hnx:=hT.nx hb;have hkd:=hT.kd hb;have hrd:=hT.rd hb;have hL2 : 2<=L:=by rw [<- hL]; exact h.wm.len
 rcases (show t.work.next = 1\/t.work.next = 2\/t.work.next = 3\/t.work.next = 13\/(4<=t.work.next/\t.work.next<=12) by omega) with hn | hn | hn | hn | hn
 ·have hs : P.step i t = (P.setT i { t with slot:=1,work:={ t.work with next:=2 } },1):=by unfold PSt.step; simp only [hn]
  refine ⟨{ t with slot:=1,work:={ t.work with next:=2 } },by rw [hs]; rfl,?_,fun e=>by omega,?_⟩
  ·intro hh; unfold unl at *; simp only [Bool.and_eq_true,decide_eq_true_eq] at hh ⊢; exact ⟨hb,hh.2.1,by omega⟩
  ·intro n n' hnn;rw [hs,nextC_ne (by omega)];by_cases hr : t.work.kind = 3\/t.work.kind = 4
   ·rw [phi_r3 (t:={ t with slot:=1,work:={ t.work with next:=2 } }) hb hr (by show 2<=3; omega),phi_r3 hb hr (by omega)];show L + 7 - 2 < _; omega
   ·rw [phi_u3 (t:={ t with slot:=1,work:={ t.work with next:=2 } }) hb hr (by show 2<=3; omega),phi_u3 hb hr (by omega)];show L + 15 - 2 + n' * (L + 2) < _
    have:=Nat.mul_le_mul_right (L + 2) hnn
    omega
 ·have hs : P.step i t = (P.setT i { t with work:={ t.work with time:=P.clock,next:=3 } },1):=by unfold PSt.step; simp only [hn]
  refine ⟨{ t with work:={ t.work with time:=P.clock,next:=3 } },by rw [hs]; rfl,?_,fun e=>by omega,?_⟩
  ·intro hh; unfold unl at *; simp only [Bool.and_eq_true,decide_eq_true_eq] at hh ⊢; exact ⟨hb,hh.2.1,by omega⟩
  ·intro n n' hnn;rw [hs,nextC_ne (by omega)];by_cases hr : t.work.kind = 3\/t.work.kind = 4
   ·rw [phi_r3 (t:={ t with work:={ t.work with time:=P.clock,next:=3 } }) hb hr (by show 3<=3; omega),phi_r3 hb hr (by omega)];show L + 7 - 3 < _; omega
   ·rw [phi_u3 (t:={ t with work:={ t.work with time:=P.clock,next:=3 } }) hb hr (by show 3<=3; omega),phi_u3 hb hr (by omega)];show L + 15 - 3 + n' * (L + 2) < _
    have:=Nat.mul_le_mul_right (L + 2) hnn
    omega
 ·have hs : P.step i t = (P.setT i { t with slot:=2,work:=t.work.home },1):=by unfold PSt.step; simp only [hn]
  refine ⟨{ t with slot:=2,work:=t.work.home },by rw [hs]; rfl,?_,fun e=>by omega,?_⟩
  ·intro hh;unfold unl at *;simp only [Bool.and_eq_true,decide_eq_true_eq] at hh ⊢;have : t.work.kind = 1\/t.work.kind = 2:=hh.2.1;exact ⟨hb,this,by omega⟩
  ·intro n n' hnn;rw [hs,nextC_ne (by omega)];by_cases hr : t.work.kind = 3\/t.work.kind = 4
   ·rw [phi_r4 (t:={ t with slot:=2,work:=t.work.home }) hb hr rfl,phi_r3 hb hr (by omega)]
    have:=wp_le (L:=L) (by omega) P.mem C (rx t.work.home)
    show 2 + wp L P.mem C (rx t.work.home) < _;omega
   ·rw [phi_u4 (t:={ t with slot:=2,work:=t.work.home }) hb hr rfl,phi_u3 hb hr (by omega)];show 11 + wp L P.mem C 0 + (n' + stale P.mem C t.work.home) * (L + 2) < _;rw [stale_zero (k:=t.work.home) ⟨h.n.a0.1,.inl rfl⟩]
    have:=wp_le (L:=L) (by omega) P.mem C 0
    have:=Nat.mul_le_mul_right (L + 2) (show n' + 0<=n by omega)
    omega
 ·have hs : P.step i t = (P.setT i t.leave,3):=by unfold PSt.step; simp only [hn]
  refine ⟨t.leave,by rw [hs]; rfl,?_,fun e=>by omega,?_⟩
  ·intro hh; exact nomatch hh
  ·intro n n' hnn;rw [phi_idle rfl];by_cases hr : t.work.kind = 3\/t.work.kind = 4
   ·rw [phi_r13 hb hr hn]; omega
   ·rw [phi_u7 hb hr (by omega)]; omega
 ·have hsm:=step_mid (i:=i) P hn.1 hn.2;by_cases hr : t.work.kind = 3\/t.work.kind = 4
  ·-- a read
   have hn4 : t.work.next = 4:=by have:=hrd hr; omega
   rw [if_pos hr] at hsm;obtain ⟨x,h1,h2,h3,h4,h5⟩:=h.linkIs ht hb hn4 hr;have htm:=hT.tm hb (by omega);have hrx : rx t.work = x:=by
    unfold rx;rcases hr with e | e
    ·rw [if_pos e]; exact (h4 e).symm
    ·rw [if_neg (by omega),h5 e]
   have hp : Pd P.mem x = []:=by
    by_cases q : Pd P.mem x = []
    ·exact q
    ·exfalso;apply hmv;rw [hsm];unfold PSt.read;rw [h1];simp only;rw [if_pos (hasPd_iff.2 q)]
   obtain ⟨n1,n2,n3,n4⟩:=h.led h2 htm.2 h3 hp;have hs : P.step i t = (P.setW i (if t.work.kind = 3 then P.lookUp t.work (P.mem.ledTo x false t.work.time) else P.scan t.work (P.mem.ledTo x false t.work.time)),1):=by
    rw [hsm];unfold PSt.read;rw [h1];simp only;rw [if_neg (by rw [hasPd_iff]; simp [hp])]
   generalize hd : P.mem.ledTo x false t.work.time = d at *;generalize hk : (if t.work.kind = 3 then P.lookUp t.work d else P.scan t.work d) = k at *;have hkk : k.kind = t.work.kind/\(k.next = 13\/(k.next = 4/\rx k = d/\Gd P.mem C d)):=by
    rw [<- hk];rcases hr with e | e
    ·rw [if_pos e];unfold PSt.lookUp;have hps : P.isPassed d t.work.key = decide (Ky P.mem d < t.work.key):=by
      unfold PSt.isPassed; rw [if_neg (by rw [h.kind]; decide)]
     rw [hps];by_cases hlt : Ky P.mem d < t.work.key
     ·rw [if_pos (by simpa using hlt)];refine ⟨rfl,.inr ⟨hn4,?_,?_⟩⟩
      ·unfold rx; rw [if_pos (show t.work.kind = 3 from e)]
      ·have:=hT.ky hb (by omega)
       rcases n1 with n1 | n1
       ·have:=h.n.a1.2.2.2.2.2; rw [n1] at hlt; omega
       ·exact n1
     ·rw [if_neg (by simpa using hlt)]; exact ⟨rfl,.inl rfl⟩
    ·rw [if_neg (by omega)];unfold PSt.scan;have hhi:=hT.hi hb e;simp only [h5 e,List.drop_one,List.tail_cons,List.append_nil];have hlw : P.linksWithin d (leastLo t.work.spans) (greatestHi t.work.spans) = if Ky P.mem d<=greatestHi t.work.spans then [(d,false)] else []:=by
      unfold PSt.linksWithin; rw [if_pos h.kind]
     rw [hlw];by_cases hle : Ky P.mem d<=greatestHi t.work.spans
     ·rw [if_pos hle,if_neg (by simp)];refine ⟨rfl,.inr ⟨hn4,?_,?_⟩⟩
      ·unfold rx; rw [if_neg (show ¬ t.work.kind = 3 by omega)]
      ·rcases n1 with n1 | n1
       ·have:=h.n.a1.2.2.2.2.2; rw [n1] at hle; omega
       ·exact n1
     ·rw [if_neg hle,if_pos (show ([] : List (Int × Bool)).length = 0 from rfl)]; exact ⟨rfl,.inl rfl⟩
   refine ⟨{ t with work:=k },by rw [hs,setW_to P ht],unl_mono hb hkk.1 (fun _=>by omega),fun e=>by omega,?_⟩;intro n n' hnn;rw [hs,nextC_ne (by omega),phi_r4 hb hr hn4,hrx];have hr' : k.kind = 3\/k.kind = 4:=by rw [hkk.1]; exact hr
   show phi L P.mem C n' { t with work:=k } < _;rcases hkk.2 with e | ⟨e1,e2,e3⟩
   ·rw [phi_r13 (t:={ t with work:=k }) hb hr' e]; omega
   ·rw [phi_r4 (t:={ t with work:=k }) hb hr' e1];show 2 + wp L P.mem C (rx k) < _;rw [e2]
    have:=h.wp_lt hL e3 n3 n4
    omega
  ·rw [if_neg hr] at hsm;have hk : t.work.kind = 1\/t.work.kind = 2:=by omega
   unfold PSt.update at hsm;rcases (show t.work.next = 4\/t.work.next = 5\/t.work.next = 6\/t.work.next = 7\/t.work.next = 8\/t.work.next = 9\/t.work.next = 10\/t.work.next = 11\/t.work.next = 12 by omega) with hn | hn | hn | hn | hn | hn | hn | hn | hn
   ·-- walk
    simp only [hn] at hsm;obtain ⟨g1,g2,g3⟩:=hT.xs hb (by omega) (by omega) (by omega);have hky:=hT.ky hb (by omega);have hl0:=hT.l4 hb (.inl (by omega));obtain ⟨n1,n2,n3⟩:=h.next g1
    have hld:=(h.side g1 t.work.key).2.2;refine ⟨{ t with work:=P.walk t.work },by rw [hsm,setW_to P ht],unl_mono hb (by unfold PSt.walk; split <;> rfl) (fun _=>by omega),fun e=>by omega,?_⟩;intro n n' hnn;rw [hsm,nextC_ne (by omega),phi_u4 hb hr hn];show phi L P.mem C n' { t with work:=P.walk t.work } < _;unfold PSt.walk;rw [hld];have hps : P.isPassed (Ld P.mem t.work.stand) t.work.key = decide (Ky P.mem (Ld P.mem t.work.stand) < t.work.key):=by
     unfold PSt.isPassed; rw [if_neg (by rw [h.kind]; decide)]
    rw [hps];by_cases hlt : Ky P.mem (Ld P.mem t.work.stand) < t.work.key
    ·rw [if_pos (by simpa using hlt)];have hg : Gd P.mem C (Ld P.mem t.work.stand):=by
      rcases n1 with n1 | n1
      ·have:=h.n.a1.2.2.2.2.2; rw [n1] at hlt; omega
      ·exact n1
     rw [phi_u4 (t:={ t with work:={ t.work with above:=t.work.stand,stand:=Ld P.mem t.work.stand } }) hb hr hn];show 11 + wp L P.mem C (Ld P.mem t.work.stand) + (n' + stale P.mem C { t.work with above:=t.work.stand,stand:=Ld P.mem t.work.stand }) * (L + 2) < _;have h1:=h.wp_lt hL hg n2 n3;have h2 : stale P.mem C { t.work with above:=t.work.stand,stand:=Ld P.mem t.work.stand }<=stale P.mem C t.work:=by
      by_cases hc : C t.work.stand
      ·rw [stale_zero (k:={ t.work with above:=t.work.stand,stand:=Ld P.mem t.work.stand }) ⟨?_,.inl hn⟩]
       ·omega
       ·rcases (h.n.mc _ hc).2.2.2.1 with q | q
        ·rw [q] at hlt; have:=h.n.a1.2.2.2.2.2; omega
        ·exact q
      ·have : stale P.mem C t.work = 1:=by unfold stale; rw [if_neg (fun hh=>hc hh.1)]
       rw [this]; exact stale_le _ _ _
     have:=mul_mono (L:=L) hnn h2
     omega
    ·rw [if_neg (by simpa using hlt)];rw [phi_u5 (t:={ t with work:={ t.work with ahead:=Ld P.mem t.work.stand,next:=5 } }) hb hr rfl];show 11 - t.work.locks + (n' + stale P.mem C { t.work with ahead:=Ld P.mem t.work.stand,next:=5 }) * (L + 2) < _;have h1:=h.wp_pos hL2 t.work.stand;have h2 : stale P.mem C { t.work with ahead:=Ld P.mem t.work.stand,next:=5 }<=stale P.mem C t.work:=by
      by_cases hc : C t.work.stand
      ·rw [stale_zero (k:={ t.work with ahead:=Ld P.mem t.work.stand,next:=5 }) ⟨hc,.inr rfl⟩]; omega
      ·have : stale P.mem C t.work = 1:=by unfold stale; rw [if_neg (fun hh=>hc hh.1)]
       rw [this]; exact stale_le _ _ _
     have:=mul_mono (L:=L) hnn h2
     omega
   ·-- lock
    simp only [hn] at hsm;rcases h.lock ht hb hn with ⟨_,q,_⟩ | ⟨_,q⟩
    ·have hq:=hsm.trans q;generalize hnn : (if wl P.mem t.work<=t.work.locks + 1 then 6 else 5) = nn at hq;have hn56 : nn = 6\/nn = 5:=by rw [<- hnn]; split <;> omega
     refine ⟨{ t with work:={ t.work with locks:=t.work.locks + 1,next:=nn } },by rw [hq,setMW_to P ht],unl_mono hb rfl (fun _=>by omega),fun e=>by omega,?_⟩;intro n n' hle;rw [hq,nextC_ne (by omega),phi_u5 hb hr hn];have hst : stale (P.mem.modN (lockNext t.work) fun x=>{ x with holder:=(i : Int) }) C { t.work with locks:=t.work.locks + 1,next:=nn }<=stale P.mem C t.work:=by
      have hnl:=nl_modN P.mem (lockNext t.work) (fun x=>{ x with holder:=(i : Int) }) (fun e=>⟨⟨rfl,rfl⟩,id,rfl⟩) t.work.stand;by_cases hc : C t.work.stand/\Ld P.mem t.work.stand = t.work.ahead
      ·rw [stale_zero (k:={ t.work with locks:=t.work.locks + 1,next:=nn }) ⟨hc.1,.inr (hnl.2.trans hc.2)⟩]; omega
      ·have : stale P.mem C t.work = 1:=by
        unfold stale;rw [if_neg];rintro ⟨a,b | b⟩
        ·omega
        ·exact hc ⟨a,b⟩
       rw [this]; exact stale_le _ _ _
     have hmm:=mul_mono (L:=L) hle hst;have hlk:=hT.l5 hb hn
     have:=(wl_pos P.mem t.work).2
     show phi L (P.mem.modN (lockNext t.work) fun x=>{ x with holder:=(i : Int) }) C n' { t with work:={ t.work with locks:=t.work.locks + 1,next:=nn } } < _;rcases hn56 with e | e
     ·rw [phi_u6 (t:={ t with work:={ t.work with locks:=t.work.locks + 1,next:=nn } }) hb hr e];show 9 + (n' + stale _ C { t.work with locks:=t.work.locks + 1,next:=nn }) * (L + 2) < _;omega
     ·rw [phi_u5 (t:={ t with work:={ t.work with locks:=t.work.locks + 1,next:=nn } }) hb hr e];show 11 - (t.work.locks + 1) + (n' + stale _ C { t.work with locks:=t.work.locks + 1,next:=nn }) * (L + 2) < _;omega
    ·exact absurd (by rw [hsm,q]) hmv
   ·-- check
    simp only [hn] at hsm;have hout:=h.outd ht hb (by omega) (by omega) (by omega);have hck : P.check i t.work = if P.outdated t.work then (P.setM (P.mem.unlock i)).setW i ({ t.work with locks:=0 } : PWork).home else if P.meetsKey t.work == (t.work.kind == 1) then P.setW i (t.work.settle { stamp:=P.clock }) else P.setW i { t.work with next:=7 }:=rfl
    by_cases ho : P.outdated t.work = true
    ·rw [hck,if_pos ho] at hsm;refine ⟨{ t with work:=({ t.work with locks:=0 } : PWork).home },by rw [hsm,setMW_to P ht],unl_mono hb rfl (fun _=>by omega),fun e=>by omega,?_⟩;intro n n' hle;rw [hsm,nextC_ne (by omega),phi_u6 hb hr hn]
     -- the check fails only where the walk is stale
     have hst : stale P.mem C t.work = 1:=by
      unfold stale;rw [if_neg];rintro ⟨hC,q⟩;have q : Ld P.mem t.work.stand = t.work.ahead:=q.resolve_left (by omega);apply hout.1 ho;have hsH:=hT.hStand hb (by omega) (by omega);refine ⟨?_,q,?_⟩
      ·cases hd : (P.mem.node t.work.stand).dead
       ·rfl
       ·exfalso;obtain ⟨j,u,hj,y1,y2,y3,y4⟩:=h.o.ki _ hd hC;have hU:=h.th j u hj;have hA:=hU.hAhead y1 (by omega) (by omega) y2 ((hU.c7 y1 (by omega) (by omega)).2.2.2 y2);rw [y4,hsH.2] at hA;have : i = j:=by have:=hA.2; omega
        subst this;rw [ht] at hj; injection hj with hj; subst hj
        omega
      ·cases hd : (P.mem.node t.work.ahead).dead
       ·rfl
       ·exfalso;have hCa : C t.work.ahead:=by
         rcases (h.n.mc _ hC).2.2.2.1 with z | z
         ·rw [q] at z; rw [z,h.n.a1.2.2.2.1] at hd; cases hd
         ·rw [q] at z; exact z
        obtain ⟨j,u,hj,y1,y2,y3,y4⟩:=h.o.ki _ hd hCa;have hU:=h.th j u hj;have hc7:=hU.c7 y1 (by omega) (by omega);have hc10:=hU.c10 y1 (by omega) (by omega);have hS:=hU.hStand y1 (by omega) (by omega);have heq : u.work.stand = t.work.stand:=h.n.mi _ _ hc7.1 hC (by rw [hc10,y4,q]);rw [heq,hsH.2] at hS;have : i = j:=by have:=hS.2; omega
        subst this;rw [ht] at hj; injection hj with hj; subst hj
        omega
     rw [hst];show phi L (P.mem.unlock i) C n' { t with work:=({ t.work with locks:=0 } : PWork).home } < _;rw [phi_u4 (t:={ t with work:=({ t.work with locks:=0 } : PWork).home }) hb hr rfl];show 11 + wp L (P.mem.unlock i) C 0 + (n' + stale (P.mem.unlock i) C ({ t.work with locks:=0 } : PWork).home) * (L + 2) < _;rw [stale_zero (k:=({ t.work with locks:=0 } : PWork).home) ⟨h.n.a0.1,.inl rfl⟩];have h1:=wp_le (L:=L) (by omega) (P.mem.unlock i) C 0;have h2:=Nat.mul_le_mul_right (L + 2) (show n' + 0<=n by omega);have h3 : (n + 1) * (L + 2) = n * (L + 2) + (L + 2):=by rw [Nat.add_mul]; omega
     omega
    ·rw [hck,if_neg ho] at hsm;by_cases hm : (P.meetsKey t.work == (t.work.kind == 1)) = true
     ·rw [if_pos hm] at hsm;exact ⟨_,Nearer.late (k:=t.work.settle { stamp:=P.clock }) hb hr (by omega) (by rw [hsm,setW_to P ht]) rfl (by show _ < 12; omega) (by show 12<=13; omega) (fun e=>by omega) hk⟩
     ·rw [if_neg hm] at hsm;exact ⟨_,Nearer.late (k:={ t.work with next:=7 }) hb hr (by omega) (by rw [hsm,setW_to P ht]) rfl (by show _ < 7; omega) (by show 7<=13; omega) (fun e=>by omega) hk⟩
   ·-- prepare
    simp only [hn] at hsm;have hpr : P.prepare i t.work = if P.mem.room.1 < (P.needs t.work.kind).1\/P.mem.room.2 < (P.needs t.work.kind).2 then P.setW i (t.work.settle { err:=7 }) else (P.setM (if t.work.kind = 1 then P.prepareInsert t.work else P.prepareRemove t.work).1).setW i { (if t.work.kind = 1 then P.prepareInsert t.work else P.prepareRemove t.work).2 with next:=8 }:=rfl
    rw [hpr] at hsm;by_cases hroom : P.mem.room.1 < (P.needs t.work.kind).1\/P.mem.room.2 < (P.needs t.work.kind).2
    ·rw [if_pos hroom] at hsm;exact ⟨_,Nearer.late (k:=t.work.settle { err:=7 }) hb hr (by omega) (by rw [hsm,setW_to P ht]) rfl (by show _ < 12; omega) (by show 12<=13; omega) (fun e=>by omega) hk⟩
    ·rw [if_neg hroom] at hsm;have hkd2 : (if t.work.kind = 1 then P.prepareInsert t.work else P.prepareRemove t.work).2.kind = t.work.kind:=by
      split
      ·unfold PSt.prepareInsert; simp only; split <;> rfl
      ·unfold PSt.prepareRemove; simp only; split <;> rfl
     generalize (if t.work.kind = 1 then P.prepareInsert t.work else P.prepareRemove t.work) = pp at *;exact ⟨_,Nearer.late (k:={ pp.2 with next:=8 }) hb hr (by omega) (by rw [hsm,setMW_to P ht]) hkd2 (by show _ < 8; omega) (by show 8<=13; omega) (fun e=>by omega) hk⟩
   ·-- take
    simp only [hn] at hsm;have htk : P.take i t.work = if P.limit<=P.clock then (P.setM ((P.mem.unpend t.work.tsrc t.work.tside).frees t.work.made)).setW i (t.work.settle { err:=8 }) else if t.work.kind = 2 then ({ P with clock:=P.clock + 1 } : PSt).setW i { t.work with ans:={ did:=true,stamp:=P.clock + 1,value:=(P.mem.node t.work.ahead).value },next:=9 } else (({ P with clock:=P.clock + 1 } : PSt).setM (P.mem.stampsNew (P.clock + 1) t.work.made)).setW i { t.work with ans:={ did:=true,stamp:=P.clock + 1 },next:=10 }:=rfl
    rw [htk] at hsm;by_cases hlim : P.limit<=P.clock
    ·rw [if_pos hlim] at hsm;exact ⟨_,Nearer.late (k:=t.work.settle { err:=8 }) hb hr (by omega) (by rw [hsm,setMW_to P ht]) rfl (by show _ < 12; omega) (by show 12<=13; omega) (fun e=>by omega) hk⟩
    ·rw [if_neg hlim] at hsm;by_cases hk2 : t.work.kind = 2
     ·rw [if_pos hk2] at hsm;exact ⟨_,Nearer.late (k:={ t.work with ans:={ did:=true,stamp:=P.clock + 1,value:=(P.mem.node t.work.ahead).value },next:=9 }) hb hr (by omega) (by rw [hsm,setW_to { P with clock:=P.clock + 1 } ht]) rfl (by show _ < 9; omega) (by show 9<=13; omega) (fun e=>by omega) hk⟩
     ·rw [if_neg hk2] at hsm;exact ⟨_,Nearer.late (k:={ t.work with ans:={ did:=true,stamp:=P.clock + 1 },next:=10 }) hb hr (by omega) (by rw [hsm,setMW_to { P with clock:=P.clock + 1 } ht]) rfl (by show _ < 10; omega) (by show 10<=13; omega) (fun e=>by omega) hk⟩
   ·simp only [hn] at hsm;exact ⟨_,Nearer.late (k:={ t.work with next:=10 }) hb hr (by omega) (by rw [hsm,setMW_to P ht]) rfl (by show _ < 10; omega) (by show 10<=13; omega) (fun e=>by omega) hk⟩
   ·simp only [hn] at hsm;exact ⟨_,Nearer.late (k:={ t.work with next:=11 }) hb hr (by omega) (by rw [hsm,setMW_to P ht]) rfl (by show _ < 11; omega) (by show 11<=13; omega) (fun e=>rfl) hk⟩
   ·simp only [hn] at hsm;exact ⟨_,Nearer.late (k:={ t.work with next:=12 }) hb hr (by omega) (by rw [hsm,setMW_to P ht]) rfl (by show _ < 12; omega) (by show 12<=13; omega) (fun e=>by omega) hk⟩
   ·simp only [hn] at hsm;have hul : P.unlock i t.work = (P.setM (if t.work.kind = 2/\t.work.ans.did = true then (P.mem.unlock i).retires P.clock (P.takenOut t.work) else P.mem.unlock i)).setW i { t.work with locks:=0,next:=13 }:=rfl;rw [hul] at hsm;exact ⟨_,Nearer.late (k:={ t.work with locks:=0,next:=13 }) hb hr (by omega) (by rw [hsm,setMW_to P ht]) rfl (by show _ < 13; omega) (by show 13<=13; omega) (fun e=>by omega) hk⟩
theorem Inv.drops (h : Inv C P) (hL : P.mem.ns.length = L) (ht : P.ts[i]? = some t) (hb : t.busy = true) (hmv : (P.step i t).2≠2) : Phi L (nextC C t) (P.step i t).1 < Phi L C P:=by
 obtain ⟨t',hN⟩:=h.near hL ht hb hmv;have hke:=h.keeps ht hb;have hgd : ∀ x,Gd P.mem C x->Gd (P.step i t).1.mem (nextC C t) x:=by
  intro x hx;rcases hx with hx | hx
  ·unfold nextC;split
   ·next hh =>
    by_cases e : x = t.work.ahead
    ·right;subst e;exact (hke _ (.inr (.inl hx))).1.2 ((h.th i t ht).d10 hb hh.2 hh.1)
    ·exact .inl ⟨hx,e⟩
   ·split
    ·exact .inl (.inl hx)
    ·exact .inl hx
  ·exact .inr ((hke x (.inr (.inr hx))).1.2 hx)
 unfold Phi;rw [hN.ts];have hle:=count_set_le unl ht hN.un;refine sum_set _ _ P.ts i t t' ht ?_ (hN.lt _ _ hle);intro j u hj hu;refine Th.phi_le h hu (fun x hx=>⟨(hke x hx).1,hgd x⟩) ?_;by_cases h10 : t.work.next = 10
 ·left;obtain ⟨z1,z2⟩:=hN.ln h10
  have:=count_set_e unl ht z1 z2
  omega
 ·right;exact ⟨hle,nextC_ne h10,fun x hx=>((hke x (.inr hx)).2 h10).2⟩
end
end
section
theorem pend_len (M : PMem) (n : Int) (s : Bool) (to : Int) : (M.pend n s to).ns.length = M.ns.length:=by rw [pend_ns]
theorem addLink_len (M : PMem) (n to : Int) : (M.addLink n to).ns.length = M.ns.length:=by
 unfold PMem.addLink;split
 ·split
  ·rw [pend_len,modN_len]
  ·rw [pend_len,modN_len]
  ·rfl
 ·rfl
theorem make_len (M : PMem) (a b : Int) : (M.make a b).1.ns.length = M.ns.length:=by unfold PMem.make; split <;> simp
theorem free_len (M : PMem) (n : Int) : (M.free n).ns.length = M.ns.length:=by unfold PMem.free; split <;> simp
theorem frees_len : ∀ (l : List Int) (M : PMem),(M.frees l).ns.length = M.ns.length
 | [],_=>rfl
 | n :: l,M=>by show ((M.free n).frees l).ns.length = _; rw [frees_len l,free_len]
theorem freesIf_len (ht : Bool) (tm : Int) : ∀ (l : List Nat) (M : PMem),(M.freesIf ht tm l).ns.length = M.ns.length
 | [],_=>rfl
 | n :: l,M=>by
  unfold PMem.freesIf;rw [freesIf_len ht tm l];split
  ·exact free_len _ _
  ·rfl
theorem kills_len : ∀ (l : List Int) (M : PMem),(M.kills l).ns.length = M.ns.length
 | [],_=>rfl
 | n :: l,M=>by show ((M.kill n).kills l).ns.length = _; rw [kills_len l]; exact modN_len _ _ _
theorem retires_len (tm : Int) : ∀ (l : List Int) (M : PMem),(M.retires tm l).ns.length = M.ns.length
 | [],_=>rfl
 | n :: l,M=>by show ((M.retire n tm).retires tm l).ns.length = _; rw [retires_len tm l]; exact modN_len _ _ _
theorem lock_len (M : PMem) (n t : Int) : (M.lock n t).1.ns.length = M.ns.length:=by
 unfold PMem.lock;split
 ·split
  ·rfl
  ·exact modN_len _ _ _
 ·rfl
theorem lead_len (M : PMem) (n : Int) (s : Bool) : (M.lead n s).ns.length = M.ns.length:=by
 unfold PMem.lead; split
 ·exact modN_len _ _ _
 ·rfl
theorem unlock_len (M : PMem) (t : Int) : (M.unlock t).ns.length = M.ns.length:=by simp [PMem.unlock]
section
variable {C C' : Int->Prop} {i j : Nat} {t : PThread} {P : PSt} {L : Nat}
theorem step_len (hk : P.kind = 0) : (P.step i t).1.mem.ns.length = P.mem.ns.length:=by
 unfold PSt.step;split
 ·rfl
 ·rfl
 ·rfl
 ·rfl
 ·split
  ·unfold PSt.read;simp only;split <;> rfl
  ·unfold PSt.update;split
   ·rfl
   ·unfold PSt.lock;split
    ·split
     ·exact lock_len _ _ _
     ·rfl
    ·rfl
   ·show (P.check i t.work).mem.ns.length = _;unfold PSt.check;split
    ·exact unlock_len _ _
    ·split <;> rfl
   ·show (P.prepare i t.work).mem.ns.length = _;unfold PSt.prepare;split
    ·rfl
    ·show (if t.work.kind = 1 then P.prepareInsert t.work else P.prepareRemove t.work).1.ns.length = _;split
     ·unfold PSt.prepareInsert;simp only [if_pos hk];rw [pend_len,addLink_len,make_len]
     ·unfold PSt.prepareRemove;simp only [if_pos hk];rw [pend_len]
   ·show (P.take i t.work).mem.ns.length = _;unfold PSt.take;split
    ·show ((P.mem.unpend _ _).frees _).ns.length = _;rw [frees_len,unpend_ns]
    ·simp only;split
     ·rfl
     ·show (P.mem.stampsNew _ _).ns.length = _;rw [stampsNew_ns]
   ·exact kills_len _ _
   ·exact lead_len _ _ _
   ·show (P.mem.stamp _ _ _).ns.length = _;rw [stamp_ns]
   ·show (P.unlock i t.work).mem.ns.length = _;unfold PSt.unlock;simp only;show (if _ then _ else _ : PMem).ns.length = _;split
    ·rw [retires_len,unlock_len]
    ·exact unlock_len _ _
   ·rfl
theorem sweep_len : P.doSweep.1.mem.ns.length = P.mem.ns.length:=by
 unfold PSt.doSweep;simp only;split
 ·rfl
 ·split
  ·split <;> rfl
  ·split
   ·rfl
   ·exact freesIf_len _ _ _ _
theorem sum_le (f : PThread->Nat) (K : Nat) : ∀ (l : List PThread),(∀ t ∈ l,f t<=K)->(l.map f).sum<=l.length * K
 | [],_=>by simp
 | a :: l,h=>by
  have ih:=sum_le f K l (fun t ht=>h t (by simp [ht]));have ha:=h a (by simp);simp only [List.map_cons,List.sum_cons,List.length_cons,Nat.add_mul];omega
theorem filt_len {α : Type} (p : α->Bool) (l : List α) : count p l<=l.length:=by unfold count; exact List.length_filter_le _ _
theorem Inv.bound (h : Inv C P) (N : Nat) : Phi (N + 2) C P<=P.ts.length * ((P.ts.length + 2) * (N + 16)):=by
 unfold Phi;refine sum_le _ _ _ ?_;intro t ht;obtain ⟨i,hi⟩:=List.mem_iff_getElem?.1 ht;have hT:=h.th i t hi;have hu:=filt_len unl P.ts;generalize count unl P.ts = u at *;generalize P.ts.length = T at *;have e1 : (T + 2) * (N + 16) = (T + 1) * (N + 4) + (T + 1) * 12 + (N + 16):=by
  rw [show T + 2 = (T + 1) + 1 by omega,Nat.add_mul (T + 1) 1,show N + 16 = (N + 4) + 12 by omega,Nat.mul_add (T + 1)]; omega
 rw [e1];have e2 : ∀ s,s<=1->(u + s) * (N + 2 + 2)<=(T + 1) * (N + 4):=fun s hs=>Nat.mul_le_mul (by omega) (by omega)
 by_cases hb : t.busy = true
 ·have hnx:=hT.nx hb;by_cases hr : t.work.kind = 3\/t.work.kind = 4
  ·rcases hT.rd hb hr with h4 | h13
   ·rcases (show t.work.next = 4\/t.work.next<=3 by omega) with e | e
    ·rw [phi_r4 hb hr e]
     have:=wp_le (L:=N + 2) (by omega) P.mem C (rx t.work)
     omega
    ·rw [phi_r3 hb hr e]; omega
   ·rw [phi_r13 hb hr h13]; omega
  ·have hs:=e2 _ (stale_le P.mem C t.work);rcases (show 7<=t.work.next\/t.work.next = 6\/t.work.next = 5\/t.work.next = 4\/t.work.next<=3 by omega) with e | e | e | e | e
   ·rw [phi_u7 hb hr e]; omega
   ·rw [phi_u6 hb hr e]; omega
   ·rw [phi_u5 hb hr e]; omega
   ·rw [phi_u4 hb hr e]
    have:=wp_le (L:=N + 2) (by omega) P.mem C t.work.stand
    omega
   ·rw [phi_u3 hb hr e]
    have:=e2 0 (by omega)
    simp only [Nat.add_zero] at this;omega
 ·rw [phi_idle (by simpa using hb)]; omega
end
end
end Go.Proofs.YtfccelbmacjifaaGreat
