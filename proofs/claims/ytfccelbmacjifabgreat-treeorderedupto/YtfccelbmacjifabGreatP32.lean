import Derived.Test.YtfccelbmacjifabGreatP0
import Derived.Test.YtfccelbmacjifabGreatP31
set_option linter.unusedSimpArgs false
set_option maxRecDepth 100000
set_option maxHeartbeats 4000000
namespace Go.Proofs.YtfccelbmacjifabGreat
section
namespace T
def un (M : PMem) : Nat:=count (fun x : PNode=>x.used) M.ns
def ue (M : PMem) : Nat:=count (fun x : PEntry=>x.used) M.es
def Ud (M M' : PMem) (a b : Nat) : Prop:=un M'<=un M + a/\ue M'<=ue M + b
section
variable {M M1 M2 : PMem} {a b c d : Nat}
theorem Ud.refl (M : PMem) : Ud M M 0 0:=⟨Nat.le_refl _,Nat.le_refl _⟩
theorem Ud.trans (h : Ud M M1 a b) (g : Ud M1 M2 c d) : Ud M M2 (a + c) (b + d):=by unfold Ud at *; omega
theorem Ud.t0 (h : Ud M M1 a b) (g : Ud M1 M2 0 0) : Ud M M2 a b:=by unfold Ud at *; omega
theorem cnt_set {α : Type} (p : α->Bool) (l : List α) (k : Nat) (y : α) : count p (l.set k y)<=count p l + 1/\((∀ x,l[k]? = some x->p y = true->p x = true)->count p (l.set k y)<=count p l):=by
 cases hx : l[k]? with
 | none =>
  have : l.set k y = l:=by
   apply List.set_eq_of_length_le;exact List.getElem?_eq_none_iff.1 hx
  rw [this];exact ⟨by omega,fun _=>Nat.le_refl _⟩
 | some x =>
  have:=count_flip p y hx
  refine ⟨by split at this <;> split at this <;> omega,fun h=>?_⟩;cases hy : p y
  ·rw [hy] at this; simp only [Bool.false_eq_true,if_false] at this; split at this <;> omega
  ·rw [hy,h x rfl hy] at this; omega
theorem cnt_le {α : Type} (p : α->Bool) : ∀ (l m : List α),m.length = l.length->(∀ (j : Nat) a b,l[j]? = some a->m[j]? = some b->p b = true->p a = true)->count p m<=count p l
 | [],[],_,_=>Nat.le_refl _
 | [],b :: m,h,_=>by simp at h
 | a :: l,[],h,_=>by simp at h
 | a :: l,b :: m,h,hp=>by
  have ih:=cnt_le p l m (by simpa using h) (fun j a b h1 h2=>hp (j + 1) a b (by simpa using h1) (by simpa using h2));have h0:=hp 0 a b rfl rfl;unfold count at *;cases hb : p b
  ·cases ha : p a <;> simp [ha,hb] <;> omega
  ·simp [h0 hb,hb]; omega
theorem ud_modN (M : PMem) (i : Int) {f : PNode->PNode} (hf : ∀ e,(f e).used = e.used) : Ud M (M.modN i f) 0 0:=by
 unfold PMem.modN;split
 ·refine ⟨?_,Nat.le_refl _⟩;refine cnt_le _ M.ns _ (by simp) ?_;intro j x y hx hy hu;rw [List.getElem?_modify,hx] at hy;simp only [Option.map_eq_map,Option.map_some,Option.some.injEq] at hy;subst hy;split at hu
  ·rw [hf] at hu; exact hu
  ·exact hu
 ·exact Ud.refl _
theorem ud_setE (M : PMem) (k : Int) (e : PEntry) : Ud M (M.setE k e) 0 1:=⟨Nat.le_refl _,(cnt_set _ _ _ _).1⟩
theorem ud_pend (M : PMem) (n : Int) (s : Bool) (to : Int) : Ud M (M.pend n s to) 0 1:=by
 unfold PMem.pend;split
 ·exact ud_setE _ _ _
 ·exact ⟨Nat.le_refl _,by omega⟩
theorem ud_unpend (M : PMem) (n : Int) (s : Bool) : Ud M (M.unpend n s) 0 0:=by
 unfold PMem.unpend;split
 ·exact ⟨Nat.le_refl _,(cnt_set _ _ _ _).2 (fun x _ q=>nomatch q)⟩
 ·exact Ud.refl _
theorem ud_stamp (M : PMem) (n : Int) (s : Bool) (st : Int) : Ud M (M.stamp n s st) 0 0:=by
 unfold PMem.stamp;split
 ·refine ⟨Nat.le_refl _,(cnt_set _ _ _ _).2 ?_⟩;intro x hx hu;have : M.ent (M.pending n s) = x:=by unfold PMem.ent; rw [hx]; rfl
  rw [this] at hu;exact hu
 ·exact Ud.refl _
theorem ud_addLink (M : PMem) (n to : Int) : Ud M (M.addLink n to) 0 1:=by
 unfold PMem.addLink;split
 ·split
  ·exact (ud_modN M n (f:=linked false to) (fun _=>rfl)).trans (ud_pend _ _ _ _)
  ·exact (ud_modN M n (f:=linked true to) (fun _=>rfl)).trans (ud_pend _ _ _ _)
  ·exact ⟨Nat.le_refl _,by omega⟩
 ·exact ⟨Nat.le_refl _,by omega⟩
theorem ud_make (M : PMem) (k v : Int) : Ud M (M.make k v).1 1 0:=by
 unfold PMem.make;split
 ·exact ⟨(cnt_set _ _ _ _).1,Nat.le_refl _⟩
 ·exact ⟨Nat.le_succ _,Nat.le_refl _⟩
theorem ud_free (M : PMem) (n : Int) : Ud M (M.free n) 0 0:=by
 unfold PMem.free;split
 ·refine ⟨(cnt_set _ _ _ _).2 (fun x _ q=>nomatch q),?_⟩;refine cnt_le _ M.es _ (by simp) ?_;intro j x y hx hy hu;rw [List.getElem?_map,hx] at hy;simp only [Option.map_some,Option.some.injEq] at hy;subst hy;split at hu
  ·exact nomatch hu
  ·exact hu
 ·exact Ud.refl _
theorem ud_frees : ∀ (l : List Int) (M : PMem),Ud M (M.frees l) 0 0
 | [],M=>Ud.refl M
 | n :: l,M=>(ud_free M n).t0 (ud_frees l _)
theorem ud_freesIf (ht : Bool) (tm : Int) : ∀ (l : List Nat) (M : PMem),Ud M (M.freesIf ht tm l) 0 0
 | [],M=>Ud.refl M
 | n :: l,M=>by
  unfold PMem.freesIf;split
  ·exact (ud_free M n).t0 (ud_freesIf ht tm l _)
  ·exact ud_freesIf ht tm l M
theorem ud_drop (M : PMem) (time : Int) : Ud M (M.drop time) 0 0:=by
 refine ⟨Nat.le_refl _,?_⟩;have hk:=dropK time M.es M.es.length;refine cnt_le _ M.es _ hk.len ?_;intro j x y hx hy hu;obtain ⟨e0,h1,h2⟩:=hk.back hy;rw [hx] at h1; injection h1 with h1; subst h1
 rcases h2 with rfl | ⟨rfl,_⟩
 ·exact nomatch hu
 ·exact hu
theorem ud_unlock (M : PMem) (t : Int) : Ud M (M.unlock t) 0 0:=by
 refine ⟨?_,Nat.le_refl _⟩;refine cnt_le _ M.ns _ (by simp [PMem.unlock]) ?_;intro j x y hx hy hu;have hy' : (M.ns.map (unlocked t))[j]? = some y:=hy;rw [List.getElem?_map,hx] at hy';simp only [Option.map_some,Option.some.injEq] at hy';subst hy';unfold unlocked at hu;split at hu <;> exact hu
theorem ud_retires (tm : Int) : ∀ (l : List Int) (M : PMem),Ud M (M.retires tm l) 0 0
 | [],M=>Ud.refl M
 | n :: l,M=>(show Ud M (M.retire n tm) 0 0 from ud_modN M n (f:=fun x=>{ x with retired:=true,retiredAt:=tm }) (fun _=>rfl)).t0 (ud_retires tm l (M.retire n tm))
theorem ud_kills : ∀ (l : List Int) (M : PMem),Ud M (M.kills l) 0 0
 | [],M=>Ud.refl M
 | n :: l,M=>(show Ud M (M.kill n) 0 0 from ud_modN M n (f:=fun x=>{ x with dead:=true }) (fun _=>rfl)).t0 (ud_kills l (M.kill n))
theorem ud_stampsNew (st : Int) : ∀ (l : List Int) (M : PMem),Ud M (M.stampsNew st l) 0 0
 | [],M=>Ud.refl M
 | n :: l,M=>((ud_stamp M n false st).t0 (ud_stamp _ n true st)).t0 (ud_stampsNew st l _)
theorem ud_lead (M : PMem) (n : Int) (s : Bool) : Ud M (M.lead n s) 0 0:=by
 unfold PMem.lead;split
 ·exact ud_modN M n (fun _=>rfl)
 ·exact Ud.refl _
theorem ud_lock (M : PMem) (n t : Int) : Ud M (M.lock n t).1 0 0:=by
 unfold PMem.lock;split
 ·split
  ·exact Ud.refl _
  ·exact ud_modN M n (fun _=>rfl)
 ·exact Ud.refl _
theorem cnt_all {α : Type} (p : α->Bool) (l : List α) : count p l + count (fun x=>!p x) l = l.length:=by
 induction l with
 | nil=>rfl
 | cons x r ih =>
  unfold count at *;cases hp : p x <;> simp [hp] <;> omega
theorem un_room (M : PMem) : M.room.1 = M.ns.length - un M/\M.room.2 = M.es.length - ue M:=by
 have h1:=cnt_all (fun x : PNode=>x.used) M.ns;have h2:=cnt_all (fun x : PEntry=>x.used) M.es;have e1 : M.room.1 = (count (fun x : PNode=>!x.used) M.ns : Nat):=rfl;have e2 : M.room.2 = (count (fun x : PEntry=>!x.used) M.es : Nat):=rfl;unfold un ue;omega
end
def bi7 (t : PThread) : Bool:=t.busy && (decide (t.work.kind = 1) && decide (t.work.next<=7))
def br7 (t : PThread) : Bool:=t.busy && (decide (t.work.kind = 2) && decide (t.work.next<=7))
structure Used (P : PSt) (puts takes : Int) : Prop where
 n : (un P.mem : Int) + 2 * count bi7 P.ts<=2 * puts + 2
 e : (ue P.mem : Int) + 3 * count bi7 P.ts + count br7 P.ts<=1 + 3 * puts + takes
section
variable {g : Gh} {P : PSt} {i : Nat} {t : PThread} {puts takes : Int}
theorem mem_step (h7 : t.work.next≠7) : Ud P.mem (P.step i t).1.mem 0 0:=by
 unfold PSt.step;split
 ·exact Ud.refl _
 ·exact Ud.refl _
 ·exact Ud.refl _
 ·exact Ud.refl _
 ·split
  ·unfold PSt.read;simp only;split
   ·exact Ud.refl _
   ·exact Ud.refl _
  ·unfold PSt.update;split
   ·exact Ud.refl _
   ·unfold PSt.lock;split
    ·split
     ·exact ud_lock _ _ _
     ·exact Ud.refl _
    ·exact Ud.refl _
   ·unfold PSt.check;split
    ·exact ud_unlock _ _
    ·split
     ·exact Ud.refl _
     ·exact Ud.refl _
   ·next e7=>exact absurd e7 h7
   ·unfold PSt.take;split
    ·exact (ud_unpend _ _ _).t0 (ud_frees _ _)
    ·simp only;split
     ·exact Ud.refl _
     ·exact ud_stampsNew _ _ _
   ·exact ud_kills _ _
   ·exact ud_lead _ _ _
   ·exact ud_stamp _ _ _ _
   ·unfold PSt.unlock;show Ud P.mem (if _ then _ else _) 0 0;split
    ·exact (ud_unlock _ _).t0 (ud_retires _ _ _)
    ·exact ud_unlock _ _
   ·exact Ud.refl _
theorem ud_join (M : PMem) (a b : Int) : Ud M (M.join a b).1 1 2:=by
 unfold PMem.join;simp only;split
 ·exact ((ud_make M _ _).trans (ud_addLink _ _ _)).trans (ud_addLink _ _ _)
 ·exact ((ud_make M _ _).trans (ud_addLink _ _ _)).trans (ud_addLink _ _ _)
theorem mem_prep (hk : P.kind = 1) (h7 : t.work.next = 7) (hu : t.work.kind = 1\/t.work.kind = 2) : Ud P.mem (P.step i t).1.mem (if t.work.kind = 1 then 2 else 0) (if t.work.kind = 1 then 3 else 1):=by
 have hsm:=step_mid (i:=i) P (t:=t) (by omega) (by omega);rw [if_neg (by omega)] at hsm;unfold PSt.update at hsm;simp only [h7] at hsm;rw [hsm];unfold PSt.prepare;split
 ·show Ud P.mem P.mem _ _;unfold Ud; omega
 ·show Ud P.mem (if t.work.kind = 1 then P.prepareInsert t.work else P.prepareRemove t.work).1 _ _;by_cases h1 : t.work.kind = 1
  ·rw [if_pos h1,if_pos h1,if_pos h1];unfold PSt.prepareInsert;simp only [if_neg (show ¬ P.kind = 0 by omega)];exact ((ud_make P.mem _ _).trans (ud_join _ _ _)).trans (ud_pend _ _ _ _)
  ·rw [if_neg h1,if_neg h1,if_neg h1];unfold PSt.prepareRemove;simp only [if_neg (show ¬ P.kind = 0 by omega)];exact ud_pend _ _ _ _
theorem Inv.seven (h : Inv g P) (ht : P.ts[i]? = some t) (hb : t.busy = true) : ∃ t',(P.step i t).1.ts = P.ts.set i t'/\(bi7 t' = true->bi7 t = true)/\(br7 t' = true->br7 t = true)/\(t.work.next = 7->(t.work.kind = 1\/t.work.kind = 2)/\bi7 t' = false/\br7 t' = false/\(t.work.kind = 1->bi7 t = true)/\(t.work.kind = 2->br7 t = true)):=by
 have hi:=(List.getElem?_eq_some_iff.1 ht).1;obtain ⟨t',hto⟩:=h.goTo ht hb;refine ⟨t',hto.ts,?_⟩;have hnx:=(h.th i t ht).nx hb;by_cases hk : t.work.kind = 1\/t.work.kind = 2
 ·obtain ⟨t2,hu⟩:=h.upTo ht hb hk;have e2 : t2 = t':=set_inj hi (hu.ts.symm.trans hto.ts);subst e2;have h77 : t.work.next = 7->¬ t2.work.next<=7:=by
   intro q;rcases hu.n7 q with ⟨q1,_⟩ | q1
   ·rw [q1]; show ¬ 12<=7; omega
   ·omega
  have hhi : ¬ t.work.next<=6->¬ (t2.busy = true/\t2.work.next<=7):=by
   rintro q ⟨q1,q2⟩;by_cases h13 : t.work.next = 13
   ·rw [hu.n13 h13] at q1; exact nomatch q1
   ·by_cases h7 : t.work.next = 7
    ·exact h77 h7 q2
    ·by_cases h8 : t.work.next = 8
     ·have hn8:=hto.n8 h8;split at hn8
      ·rw [hn8] at q2; have : 12<=7:=q2; omega
      ·split at hn8
       ·rw [hn8] at q2; have : 9<=7:=q2; omega
       ·rw [hn8] at q2; have : 10<=7:=q2; omega
     ·have:=(hu.n9 (by omega) (by omega)).1; omega
  refine ⟨fun q=>?_,fun q=>?_,fun q=>⟨hk,?_,?_,fun q1=>by unfold bi7; simp [hb,q1,q],fun q1=>by unfold br7; simp [hb,q1,q]⟩⟩
  ·unfold bi7 at q;simp only [Bool.and_eq_true,decide_eq_true_eq] at q;by_cases h6 : t.work.next<=6
   ·have:=hto.kd q.1
    unfold bi7;simp [hb,<- this,q.2.1]; omega
   ·exact absurd ⟨q.1,q.2.2⟩ (hhi h6)
  ·unfold br7 at q;simp only [Bool.and_eq_true,decide_eq_true_eq] at q;by_cases h6 : t.work.next<=6
   ·have:=hto.kd q.1
    unfold br7;simp [hb,<- this,q.2.1]; omega
   ·exact absurd ⟨q.1,q.2.2⟩ (hhi h6)
  ·unfold bi7; simp [h77 q]
  ·unfold br7; simp [h77 q]
 ·have hno : ∀ u : PThread,(u.busy = true->u.work.kind = t.work.kind)->bi7 u = false/\br7 u = false:=by
   intro u hu;unfold bi7 br7;cases hbu : u.busy
   ·exact ⟨rfl,rfl⟩
   ·rw [hu hbu]
    simp
    omega
  have h1:=hno t' hto.kd;have hrd:=(h.th i t ht).rd hb;have hkd:=(h.th i t ht).kd hb;exact ⟨fun q=>absurd (h1.1.symm.trans q) (by decide),fun q=>absurd (h1.2.symm.trans q) (by decide),fun q=>by have:=hrd (by omega); omega⟩
theorem Used.step (hu : Used P puts takes) (h : Inv g P) (ht : P.ts[i]? = some t) (hb : t.busy = true) : Used (P.step i t).1 puts takes:=by
 obtain ⟨t',e1,e2,e3,e4⟩:=h.seven ht hb;have c1:=count_flip bi7 t' ht;have c2:=count_flip br7 t' ht;obtain ⟨hn,he⟩:=hu;have g1 : count bi7 (P.ts.set i t')<=count bi7 P.ts:=by
  cases q : bi7 t'
  ·rw [q] at c1; simp only [Bool.false_eq_true,if_false] at c1; split at c1 <;> omega
  ·rw [q,e2 q] at c1; omega
 have g2 : count br7 (P.ts.set i t')<=count br7 P.ts:=by
  cases q : br7 t'
  ·rw [q] at c2; simp only [Bool.false_eq_true,if_false] at c2; split at c2 <;> omega
  ·rw [q,e3 q] at c2; omega
 by_cases h7 : t.work.next = 7
 ·obtain ⟨k0,k1,k2,k3,k4⟩:=e4 h7;have hm:=mem_prep (i:=i) h.kind h7 k0;rw [k1] at c1;rw [k2] at c2;simp only [Bool.false_eq_true,if_false] at c1 c2;unfold Ud at hm;rcases k0 with q | q
  ·rw [k3 q] at c1;simp only [if_true,q] at c1 hm;refine ⟨by rw [e1]; omega,by rw [e1]; omega⟩
  ·rw [k4 q] at c2;rw [if_neg (by omega),if_neg (by omega)] at hm;simp only [if_true] at c2;refine ⟨by rw [e1]; omega,by rw [e1]; omega⟩
 ·have hm:=mem_step (P:=P) (i:=i) h7;unfold Ud at hm;exact ⟨by rw [e1]; omega,by rw [e1]; omega⟩
theorem Used.sweep (hu : Used P puts takes) : Used P.doSweep.1 puts takes:=by
 have hm : Ud P.mem P.doSweep.1.mem 0 0:=by
  unfold PSt.doSweep;simp only;split
  ·exact Ud.refl _
  ·split
   ·split <;> exact Ud.refl _
   ·split
    ·exact ud_drop _ _
    ·exact ud_freesIf _ _ _ _
 obtain ⟨hn,he⟩:=hu;unfold Ud at hm;exact ⟨by rw [sweep_ts]; omega,by rw [sweep_ts]; omega⟩
end
section
variable {R : Int->List (Int × Int)} {P : PSt} {i : Nat} {t : PThread} {puts takes N E : Int}
theorem cnt_pos {α : Type} (p : α->Bool) {l : List α} {k : Nat} {x : α} (h : l[k]? = some x) (hp : p x = true) : 1<=count p l:=by
 unfold count;exact List.length_pos_of_mem (List.mem_filter.2 ⟨List.mem_of_getElem? h,hp⟩)
theorem Used.full (hu : Used P puts takes) (hk0 : P.kind = 1) (ht : P.ts[i]? = some t) (hb : t.busy = true) (h7 : t.work.next = 7) (hk : t.work.kind = 1\/t.work.kind = 2) (hr : P.mem.room.1 < (P.needs t.work.kind).1\/P.mem.room.2 < (P.needs t.work.kind).2) (hN : (P.mem.ns.length : Int) = N + 2) (hE : (P.mem.es.length : Int) = E) : N < 2 * puts\/E < 1 + 3 * puts + takes:=by
 obtain ⟨hn,he⟩:=hu;obtain ⟨r1,r2⟩:=un_room P.mem;rcases hk with q | q
 ·have hne : P.needs t.work.kind = (2,3):=by unfold PSt.needs; rw [q,if_neg (by decide),if_pos (by rw [hk0])]
  rw [hne] at hr
  have:=cnt_pos bi7 ht (by unfold bi7; simp [hb,q,h7])
  simp only at hr;omega
 ·have hne : P.needs t.work.kind = (0,1):=by unfold PSt.needs; rw [q,if_pos (by decide)]
  rw [hne] at hr
  have:=cnt_pos br7 ht (by unfold br7; simp [hb,q,h7])
  have h0 : (0 : Int)<=P.mem.room.1:=by
   have e1 : P.mem.room.1 = (count (fun x : PNode=>!x.used) P.mem.ns : Nat):=rfl;omega
  simp only at hr;omega
theorem Nums.late (hn : Nums R P puts takes) (ht : P.ts[i]? = some t) (hb : t.busy = true) (h8 : t.work.next = 8) (hk : t.work.kind = 1\/t.work.kind = 2) (hl : P.limit<=P.clock) : P.limit < puts + takes:=by
 have:=cnt_pos bu8 ht (by unfold bu8; simp [hb,hk,h8])
 have:=hn.ck
 omega
theorem lens_le (R : List (Int × Int)) (spans : List (Int × Int)) : (lensOf (spanLists spans R) : Int)<=spans.length * R.length:=by
 have : ∀ (ll : List (List (Int × Int))),(∀ l ∈ ll,l.length<=R.length)->(lensOf ll : Int)<=ll.length * R.length:=by
  intro ll
  induction ll with
  | nil=>intro _; simp [lensOf]
  | cons l r ih =>
   intro h;have h1:=h l (by simp);have h2:=ih (fun x hx=>h x (by simp [hx]));have e1 : (lensOf (l :: r) : Int) = l.length + lensOf r:=by simp [lensOf]
   rw [e1,List.length_cons,Int.natCast_add,Int.add_mul];simp only [Int.natCast_one,Int.one_mul];omega
 have h2:=this (spanLists spans R) (by
  intro l hl;unfold spanLists at hl;obtain ⟨p,_,rfl⟩:=List.mem_map.1 hl;exact List.length_filter_le _ _)
 have e : (spanLists spans R).length = spans.length:=by unfold spanLists; simp
 rw [e] at h2;exact h2
end
end T
end
section
namespace T
def TookU (R : Int->List (Int × Int)) (u : Int->Int × Int × Int) (c : Int) (k : PWork) (s : Int) : Prop:=1<=s/\s<=c/\u s = (k.kind,k.key,k.value)/\shUpd (R (s - 1)) k.kind k.key = true/\k.ans = { did:=true,stamp:=s,value:=if k.kind = 2 then (shVal (R (s - 1)) k.key).1 else 0 }
def NotU (R : Int->List (Int × Int)) (c : Int) (k : PWork) (s : Int) : Prop:=0<=s/\s<=c/\shUpd (R s) k.kind k.key = false/\k.ans = { stamp:=s }
structure Said (R : Int->List (Int × Int)) (u : Int->Int × Int × Int) (c : Int) (t : PThread) : Prop where
 a9 : t.busy = true->(t.work.kind = 1\/t.work.kind = 2)->9<=t.work.next->t.work.next<=11->TookU R u c t.work t.work.ans.stamp
 a12 : t.busy = true->(t.work.kind = 1\/t.work.kind = 2)->12<=t.work.next->TookU R u c t.work t.work.ans.stamp\/NotU R c t.work t.work.ans.stamp\/t.work.ans = { err:=7 }\/t.work.ans = { err:=8 }
def nextU (u : Int->Int × Int × Int) (P : PSt) (t : PThread) : Int->Int × Int × Int:=fun s=>if s = P.clock + 1 then (t.work.kind,t.work.key,t.work.value) else u s
section
variable {g : Gh} {R : Int->List (Int × Int)} {u : Int->Int × Int × Int} {P : PSt} {i : Nat} {t : PThread} {c s : Int} {k k' : PWork}
theorem TookU.more (h : TookU R u c k s) : TookU (nextR R P t) (nextU u P t) (c + 1) k s\/P.clock < c:=by
 by_cases hc : P.clock < c
 ·exact .inr hc
 ·obtain ⟨h1,h2,h3,h4,h5⟩:=h;left;have e1 : nextR R P t (s - 1) = R (s - 1):=by unfold nextR; rw [if_neg (by omega)]
  have e2 : nextU u P t s = u s:=by unfold nextU; rw [if_neg (by omega)]
  exact ⟨h1,by omega,by rw [e2]; exact h3,by rw [e1]; exact h4,by rw [e1]; exact h5⟩
theorem NotU.more (h : NotU R c k s) : NotU (nextR R P t) (c + 1) k s\/P.clock < c:=by
 by_cases hc : P.clock < c
 ·exact .inr hc
 ·obtain ⟨h1,h2,h3,h4⟩:=h;left;have e1 : nextR R P t s = R s:=by unfold nextR; rw [if_neg (by omega)]
  exact ⟨h1,by omega,by rw [e1]; exact h3,h4⟩
theorem Said.more (h : Said R u P.clock t) {t0 : PThread} : Said (nextR R P t0) (nextU u P t0) (P.clock + 1) t:=by
 refine ⟨fun a b c d=>?_,fun a b c=>?_⟩
 ·exact ((h.a9 a b c d).more).resolve_right (by omega)
 ·rcases h.a12 a b c with q | q | q
  ·exact .inl ((q.more).resolve_right (by omega))
  ·exact .inr (.inl ((q.more).resolve_right (by omega)))
  ·exact .inr (.inr q)
theorem TookU.same (h : TookU R u c k s) (h1 : k'.kind = k.kind) (h2 : k'.key = k.key) (h3 : k'.value = k.value) (h4 : k'.ans = k.ans) : TookU R u c k' s:=by
 unfold TookU at *;rw [h1,h2,h3,h4]; exact h
theorem NotU.same (h : NotU R c k s) (h1 : k'.kind = k.kind) (h2 : k'.key = k.key) (h4 : k'.ans = k.ans) : NotU R c k' s:=by
 unfold NotU at *;rw [h1,h2,h4]; exact h
theorem Inv.idleU (h : Inv g P) (hR : R P.clock = Rt g P.clock) (ht : P.ts[i]? = some t) (hb : t.busy = true) (hk : t.work.kind = 1\/t.work.kind = 2) (hn : t.work.next = 6) (ho : ¬ P.outdated t.work = true) (hm : Ky P.mem t.work.ahead = t.work.key ↔ t.work.kind = 1) : shUpd (R P.clock) t.work.kind t.work.key = false:=by
 have hv:=h.idle6 ht hb hn ho;rw [hR];unfold shUpd;rw [hv];rcases hk with q | q
 ·rw [if_pos (hm.2 q),q]; rfl
 ·rw [if_neg (fun e=>by have:=hm.1 e; omega),q]; rfl
theorem Said.step (hS : ∀ (j : Nat) w,P.ts[j]? = some w->Said R u P.clock w) (h : Inv g P) (hR : R P.clock = Rt g P.clock) (h0 : 0<=P.clock) (ht : P.ts[i]? = some t) (hb : t.busy = true) :
  ((P.step i t).1.clock = P.clock->∀ (j : Nat) w,(P.step i t).1.ts[j]? = some w->Said R u P.clock w)/\((P.step i t).1.clock = P.clock + 1->∀ (j : Nat) w,(P.step i t).1.ts[j]? = some w->Said (nextR R P t) (nextU u P t) (P.clock + 1) w):=by
 have hi:=(List.getElem?_eq_some_iff.1 ht).1;have hT:=h.th i t ht;have hnx:=hT.nx hb;obtain ⟨t',hto⟩:=h.goTo ht hb;have old : ∀ (j : Nat) w,(P.step i t).1.ts[j]? = some w->(j = i/\w = t')\/P.ts[j]? = some w:=by
  intro j w hw;rw [hto.ts,List.getElem?_set] at hw;by_cases e : i = j
  ·subst e; simp [hi] at hw; exact .inl ⟨rfl,hw.symm⟩
  ·rw [if_neg e] at hw; exact .inr hw
 by_cases hk : t.work.kind = 1\/t.work.kind = 2
 ·obtain ⟨t2,hu⟩:=h.upTo ht hb hk;have e2 : t2 = t':=set_inj hi (hu.ts.symm.trans hto.ts);subst e2;by_cases hc : t.work.next = 8/\¬ P.limit<=P.clock/\(t.work.kind = 1\/t.work.kind = 2)
  ·have hck:=hto.ck;rw [if_pos hc] at hck;refine ⟨fun e=>by omega,fun _ j w hw=>?_⟩;rcases old j w hw with ⟨_,rfl⟩ | q
   ·have hn8:=hto.n8 hc.1;rw [if_neg hc.2.1] at hn8;have e1 : nextR R P t (P.clock + 1 - 1) = R P.clock:=by unfold nextR; rw [if_neg (by omega)]; congr 1; omega
    have e3 : nextU u P t (P.clock + 1) = (t.work.kind,t.work.key,t.work.value):=by unfold nextU; rw [if_pos rfl]
    have took : TookU (nextR R P t) (nextU u P t) (P.clock + 1) w.work w.work.ans.stamp:=by
     rcases hk with q | q
     ·rw [if_neg (by omega)] at hn8;obtain ⟨_,g2,_⟩:=h.tookRows ht hb ⟨hc.1,hc.2.2,hc.2.1⟩;rw [<- hR] at g2;rw [hn8];exact ⟨by show 1<=P.clock + 1; omega,Int.le_refl _,e3,by show shUpd (nextR R P t (P.clock + 1 - 1)) _ _ = true; rw [e1]; exact g2,by show ({ did:=true,stamp:=P.clock + 1 } : BAns) = { did:=true,stamp:=P.clock + 1,value:=if t.work.kind = 2 then _ else 0 }; rw [if_neg (by omega)]⟩
     ·rw [if_pos q] at hn8;obtain ⟨_,g2,g3⟩:=h.tookRows ht hb ⟨hc.1,hc.2.2,hc.2.1⟩;rw [<- hR] at g2 g3;have g3:=g3 q;rw [hn8];refine ⟨by show 1<=P.clock + 1; omega,Int.le_refl _,e3,by show shUpd (nextR R P t (P.clock + 1 - 1)) _ _ = true; rw [e1]; exact g2,?_⟩;show ({ did:=true,stamp:=P.clock + 1,value:=(P.mem.node t.work.ahead).value } : BAns) = { did:=true,stamp:=P.clock + 1,value:=if t.work.kind = 2 then (shVal (nextR R P t (P.clock + 1 - 1)) t.work.key).1 else 0 };rw [if_pos q,e1,g3]
    exact ⟨fun _ _ _ _=>took,fun _ _ _=>.inl took⟩
   ·exact (hS j w q).more
  ·have hck:=hto.ck;rw [if_neg hc] at hck;refine ⟨fun _ j w hw=>?_,fun e=>by omega⟩;rcases old j w hw with ⟨_,rfl⟩ | q
   ·obtain ⟨t3,s1,_,s3⟩:=step_work ht hb;have e3 : t3 = w:=set_inj hi (s1.symm.trans hto.ts);subst e3;by_cases h13 : t.work.next = 13
    ·rw [hu.n13 h13];exact ⟨(fun b=>nomatch b),(fun b=>nomatch b)⟩
    ·have hsame:=(s3 (fun q=>h13 (three_next q))).2.1;obtain ⟨a1,a2,a3,_⟩:=hsame;by_cases h9 : 9<=t.work.next
     ·obtain ⟨n1,n2⟩:=hu.n9 h9 (by omega);refine ⟨fun _ _ _ d=>?_,fun _ _ d=>?_⟩
      ·rw [n2]; exact (((hS i t ht).a9 hb hk h9 (by omega))).same a1 a2 a3 n2
      ·rw [n2];by_cases h11 : t.work.next<=11
       ·exact .inl (((hS i t ht).a9 hb hk h9 h11).same a1 a2 a3 n2)
       ·rcases (hS i t ht).a12 hb hk (by omega) with q | q | q
        ·exact .inl (q.same a1 a2 a3 n2)
        ·exact .inr (.inl (q.same a1 a2 n2))
        ·exact .inr (.inr q)
     ·by_cases h8 : t.work.next = 8
      ·have hn8:=hto.n8 h8;rw [if_pos (Classical.not_not.1 (fun q=>hc ⟨h8,q,hk⟩))] at hn8;rw [hn8];exact ⟨fun _ _ _ d=>by have : 12<=11:=d; omega,fun _ _ _=>.inr (.inr (.inr rfl))⟩
      ·by_cases h7 : t.work.next = 7
       ·rcases hu.n7 h7 with ⟨q,_⟩ | q
        ·rw [q];exact ⟨fun _ _ _ d=>by have : 12<=11:=d; omega,fun _ _ _=>.inr (.inr (.inl rfl))⟩
        ·exact ⟨fun _ _ d=>by omega,fun _ _ d=>by omega⟩
       ·by_cases h6 : t.work.next = 6
        ·rcases hu.n6 h6 with q | q | ⟨q,q1,q2⟩
         ·exact ⟨fun _ _ d=>by omega,fun _ _ d=>by omega⟩
         ·exact ⟨fun _ _ d=>by omega,fun _ _ d=>by omega⟩
         ·have hs:=h.idleU hR ht hb hk h6 q1 q2;rw [q];exact ⟨fun _ _ _ d=>by have : 12<=11:=d; omega,fun _ _ _=>.inr (.inl ⟨h0,Int.le_refl _,hs,rfl⟩)⟩
        ·have:=hu.lo (by omega)
         exact ⟨fun _ _ d=>by omega,fun _ _ d=>by omega⟩
   ·exact hS j w q
 ·have hck:=hto.ck;rw [if_neg (fun q=>hk q.2.2)] at hck;refine ⟨fun _ j w hw=>?_,fun e=>by omega⟩;rcases old j w hw with ⟨_,rfl⟩ | q
  ·exact ⟨fun b c=>absurd (by rw [<- hto.kd b]; exact c) hk,fun b c=>absurd (by rw [<- hto.kd b]; exact c) hk⟩
  ·exact hS j w q
end
end T
end
section
namespace T
def tookD (d : DeedV) : Bool:=decide (d.op.kind = 1\/d.op.kind = 2) && d.a.did
def Tm (ds : List DeedV) (s f : Int) (b : Bool) : Prop:=∀ (j : Nat) e,(j : Int) < f->ds[j]? = some e->e.a.stamp<=s/\(b = true->e.a.stamp < s)
section
variable {g : Gh} {R : Int->List (Int × Int)} {u : Int->Int × Int × Int} {P : PSt} {i : Nat} {t t' : PThread} {puts takes N E L f s : Int} {ds : List DeedV} {o : OpV} {k : PWork}
theorem Tm.app {b : Bool} (h : Tm ds s f b) (hf : f<=ds.length) (x : DeedV) : Tm (ds ++ [x]) s f b:=by
 intro j e hj he;rw [List.getElem?_append_left (by omega)] at he;exact h j e hj he
def Tell (P : PSt) (i : Nat) (t t' : PThread) : Prop :=
 ((P.step i t).1.clock = P.clock /\
  ((t'.busy = true/\t.work.next<=8/\t'.work.next<=8) \/
   (t'.busy = true/\t.work.next = 6/\t'.work.next = 12/\t'.work.ans = { stamp:=P.clock }) \/
   (t'.busy = true/\t.work.next = 7/\t'.work.next = 12/\t'.work.ans = { err:=7 }/\(P.mem.room.1 < (P.needs t.work.kind).1\/P.mem.room.2 < (P.needs t.work.kind).2)) \/
   (t'.busy = true/\t.work.next = 8/\t'.work.next = 12/\t'.work.ans = { err:=8 }/\P.limit<=P.clock) \/
   (t'.busy = true/\9<=t.work.next/\t.work.next<=12/\t'.work.next = t.work.next + 1/\t'.work.ans = t.work.ans) \/
   (t'.busy = false/\t.work.next = 13))) \/
 ((P.step i t).1.clock = P.clock + 1/\t'.busy = true/\t.work.next = 8/\9<=t'.work.next/\t'.work.ans.did = true/\t'.work.ans.stamp = P.clock + 1/\t'.work.ans.err = 0)
theorem Inv.tell (h : Inv g P) (ht : P.ts[i]? = some t) (hb : t.busy = true) (hk : t.work.kind = 1\/t.work.kind = 2) (hts : (P.step i t).1.ts = P.ts.set i t') : Tell P i t t':=by
 have hi:=(List.getElem?_eq_some_iff.1 ht).1;have hnx:=(h.th i t ht).nx hb;obtain ⟨t1,hto⟩:=h.goTo ht hb;have e1 : t1 = t':=set_inj hi (hto.ts.symm.trans hts);subst e1;obtain ⟨t2,hu⟩:=h.upTo ht hb hk;have e2 : t2 = t1:=set_inj hi (hu.ts.symm.trans hto.ts);subst e2;have hck:=hto.ck;unfold Tell;by_cases h13 : t.work.next = 13
 ·left;rw [if_neg (by omega)] at hck;exact ⟨hck,.inr (.inr (.inr (.inr (.inr ⟨by rw [hu.n13 h13]; rfl,h13⟩))))⟩
 have hb2:=hu.bz h13;by_cases h9 : 9<=t.work.next
 ·left;rw [if_neg (by omega)] at hck;obtain ⟨n1,n2⟩:=hu.n9 h9 (by omega);exact ⟨hck,.inr (.inr (.inr (.inr (.inl ⟨hb2,h9,by omega,n1,n2⟩))))⟩
 by_cases h8 : t.work.next = 8
 ·have hn8:=hto.n8 h8;by_cases hl : P.limit<=P.clock
  ·left;rw [if_neg (fun q=>q.2.1 hl)] at hck;rw [if_pos hl] at hn8;exact ⟨hck,.inr (.inr (.inr (.inl ⟨hb2,h8,by rw [hn8]; rfl,by rw [hn8]; rfl,hl⟩)))⟩
  ·right;rw [if_pos ⟨h8,hl,hk⟩] at hck;rw [if_neg hl] at hn8;split at hn8
   ·exact ⟨hck,hb2,h8,by rw [hn8]; show 9<=9; omega,by rw [hn8],by rw [hn8],by rw [hn8]⟩
   ·exact ⟨hck,hb2,h8,by rw [hn8]; show 9<=10; omega,by rw [hn8],by rw [hn8],by rw [hn8]⟩
 ·left;rw [if_neg (by omega)] at hck;refine ⟨hck,?_⟩;by_cases h7 : t.work.next = 7
  ·rcases hu.n7 h7 with ⟨q,q1⟩ | q
   ·exact .inr (.inr (.inl ⟨hb2,h7,by rw [q]; rfl,by rw [q]; rfl,q1⟩))
   ·exact .inl ⟨hb2,by omega,by omega⟩
  ·by_cases h6 : t.work.next = 6
   ·rcases hu.n6 h6 with q | q | ⟨q,_⟩
    ·exact .inl ⟨hb2,by omega,by omega⟩
    ·exact .inl ⟨hb2,by omega,by omega⟩
    ·exact .inr (.inl ⟨hb2,h6,by rw [q]; rfl,by rw [q]; rfl⟩)
   ·have:=hu.lo (by omega)
    exact .inl ⟨hb2,by omega,by omega⟩
theorem Inv.rdTo (h : Inv g P) (ht : P.ts[i]? = some t) (hb : t.busy = true) (hk : t.work.kind = 3\/t.work.kind = 4) (hts : (P.step i t).1.ts = P.ts.set i t') : (P.step i t).1.clock = P.clock/\(t'.busy = true->3<=t'.work.next->(t.work.next = 2/\t'.work.time = P.clock)\/(3<=t.work.next/\t'.work.time = t.work.time)):=by
 have hi:=(List.getElem?_eq_some_iff.1 ht).1;obtain ⟨t1,hto⟩:=h.goTo ht hb;have hck:=hto.ck;rw [if_neg (by omega)] at hck;refine ⟨hck,?_⟩;have hnx:=(h.th i t ht).nx hb;have hrd:=(h.th i t ht).rd hb hk;have same : P.ts.set i t = P.ts:=by
  apply List.ext_getElem?;intro j;rw [List.getElem?_set];split
  ·next e=>subst e; simp_all
  ·rfl
 have on : ∀ {w : PThread},(P.step i t).1.ts = P.ts.set i w->w = t':=fun q=>set_inj hi (q.symm.trans hts)
 rcases (show t.work.next = 1\/t.work.next = 2\/t.work.next = 3\/t.work.next = 13\/t.work.next = 4 by omega) with hn | hn | hn | hn | hn
 ·have hs : P.step i t = (P.setT i { t with slot:=1,work:={ t.work with next:=2 } },1):=by unfold PSt.step; simp only [hn]
  have e:=on (w:={ t with slot:=1,work:={ t.work with next:=2 } }) (by rw [hs]; rfl);subst e;intro _ q;have : 3<=2:=q;omega
 ·have hs : P.step i t = (P.setT i { t with work:={ t.work with time:=P.clock,next:=3 } },1):=by unfold PSt.step; simp only [hn]
  have e:=on (w:={ t with work:={ t.work with time:=P.clock,next:=3 } }) (by rw [hs]; rfl);subst e;exact fun _ _=>.inl ⟨hn,rfl⟩
 ·have hs : P.step i t = (P.setT i { t with slot:=2,work:=t.work.home },1):=by unfold PSt.step; simp only [hn]
  have e:=on (w:={ t with slot:=2,work:=t.work.home }) (by rw [hs]; rfl);subst e;exact fun _ _=>.inr ⟨by omega,rfl⟩
 ·have hs : P.step i t = (P.setT i t.leave,3):=by unfold PSt.step; simp only [hn]
  have e:=on (w:=t.leave) (by rw [hs]; rfl);subst e;exact fun q=>nomatch q
 ·have hsm:=step_mid (i:=i) (t:=t) P (by omega) (by omega);rw [if_pos hk] at hsm;unfold PSt.read at hsm;simp only at hsm;split at hsm
  ·have e:=on (w:=t) (by rw [hsm]; exact same.symm);subst e;exact fun _ _=>.inr ⟨by omega,rfl⟩
  ·have hkk : ∀ k,k = (if t.work.kind = 3 then P.lookUp t.work (P.mem.ledTo (P.linkNext t.work).1 (P.linkNext t.work).2 t.work.time) else P.scan t.work (P.mem.ledTo (P.linkNext t.work).1 (P.linkNext t.work).2 t.work.time))->k.time = t.work.time:=by
    rintro k rfl;split
    ·unfold PSt.lookUp; split <;> rfl
    ·unfold PSt.scan; simp only; split <;> rfl
   have e:=on (by rw [hsm]; show (P.setW i _).ts = _; rw [setW_to P ht]);subst e;exact fun _ _=>.inr ⟨by omega,hkk _ rfl⟩
structure WT (ds : List DeedV) (N E L puts takes : Int) (k : PWork) (o : OpV) (f : Int) : Prop where
 op : k.kind = o.kind/\(k.kind≠4->k.key = o.key)/\(k.kind = 1->k.value = o.value)/\(k.kind = 4->k.spans = o.spans)
 pr : properB o.kind o.key o.spans = true
 f0 : 0<=f/\f<=ds.length
 rt : (k.kind = 3\/k.kind = 4)->3<=k.next->0<=k.time/\Tm ds k.time f false
 ut : (k.kind = 1\/k.kind = 2)->9<=k.next->k.ans.err = 0->Tm ds k.ans.stamp f k.ans.did
 e7 : (k.kind = 1\/k.kind = 2)->9<=k.next->k.ans.err = 7->N < 2 * puts\/E < 1 + 3 * puts + takes
 e8 : (k.kind = 1\/k.kind = 2)->9<=k.next->k.ans.err = 8->L < puts + takes
theorem WT.app (h : WT ds N E L puts takes k o f) (x : DeedV) : WT (ds ++ [x]) N E L puts takes k o f:=by
 refine ⟨h.op,h.pr,⟨h.f0.1,?_⟩,fun a b=>⟨(h.rt a b).1,(h.rt a b).2.app h.f0.2 x⟩,fun a b c=>(h.ut a b c).app h.f0.2 x,h.e7,h.e8⟩
 have:=h.f0.2
 simp only [List.length_append,List.length_singleton];omega
theorem WT.begun (h : WT ds N E L puts takes k o f) {p q : Int} (hp : puts<=p) (hq : takes<=q) : WT ds N E L p q k o f:=by
 refine ⟨h.op,h.pr,h.f0,h.rt,h.ut,fun a b c=>?_,fun a b c=>?_⟩
 ·have:=h.e7 a b c; omega
 ·have:=h.e8 a b c; omega
theorem WT.step (hw : WT ds N E L puts takes t.work o f) (h : Inv g P) (hn : Nums R P puts takes) (hu : Used P puts takes) (ht : P.ts[i]? = some t) (hb : t.busy = true) (h0 : 0<=P.clock) (hds : ∀ e ∈ ds,e.a.stamp<=P.clock) (hN : (P.mem.ns.length : Int) = N + 2) (hE : (P.mem.es.length : Int) = E) (hL : P.limit = L) (hts : (P.step i t).1.ts = P.ts.set i t') (hb' : t'.busy = true) : WT ds N E L puts takes t'.work o f:=by
 have hi:=(List.getElem?_eq_some_iff.1 ht).1;obtain ⟨t3,s1,s2,s3⟩:=step_work ht hb;have e3 : t3 = t':=set_inj hi (s1.symm.trans hts);subst e3;have h3 : (P.step i t).2≠3:=fun q=>by rw [s2 q] at hb'; cases hb'
 obtain ⟨_,⟨a1,a2,a3,a4⟩,_⟩:=s3 h3;have now : ∀ b : Bool,∀ s,(P.clock<=s/\(b = true->P.clock < s))->Tm ds s f b:=by
  intro b s hs j e _ he
  have:=hds e (List.mem_of_getElem? he)
  exact ⟨by omega,fun q=>by have:=hs.2 q; omega⟩
 refine ⟨by rw [a1,a2,a3,a4]; exact hw.op,hw.pr,hw.f0,?_,?_,?_,?_⟩
 ·intro k1 k2;rw [a1] at k1;rcases (h.rdTo ht hb k1 hts).2 hb' k2 with ⟨_,q⟩ | ⟨q1,q2⟩
  ·rw [q]; exact ⟨h0,now false _ ⟨Int.le_refl _,(fun q=>nomatch q)⟩⟩
  ·rw [q2]; exact hw.rt k1 q1
 ·intro k1 k2 k3;rw [a1] at k1;rcases h.tell ht hb k1 hts with ⟨_,q | q | q | q | q | q⟩ | q
  ·omega
  ·rw [q.2.2.2]; exact now _ _ ⟨Int.le_refl _,(fun q=>nomatch q)⟩
  ·rw [q.2.2.2.1] at k3; exact absurd k3 (by decide)
  ·rw [q.2.2.2.1] at k3; exact absurd k3 (by decide)
  ·rw [q.2.2.2.2] at k3 ⊢; exact hw.ut k1 q.2.1 k3
  ·rw [q.1] at hb'; cases hb'
  ·rw [q.2.2.2.2.2.1]; exact now _ _ ⟨by omega,fun _=>by omega⟩
 ·intro k1 k2 k3;rw [a1] at k1;rcases h.tell ht hb k1 hts with ⟨_,q | q | q | q | q | q⟩ | q
  ·omega
  ·rw [q.2.2.2] at k3; exact absurd k3 (by show ¬ (0 : Int) = 7; decide)
  ·exact hu.full h.kind ht hb q.2.1 k1 q.2.2.2.2 hN hE
  ·rw [q.2.2.2.1] at k3; exact absurd k3 (by decide)
  ·rw [q.2.2.2.2] at k3; exact hw.e7 k1 q.2.1 k3
  ·rw [q.1] at hb'; cases hb'
  ·omega
 ·intro k1 k2 k3;rw [a1] at k1;rcases h.tell ht hb k1 hts with ⟨_,q | q | q | q | q | q⟩ | q
  ·omega
  ·rw [q.2.2.2] at k3; exact absurd k3 (by show ¬ (0 : Int) = 8; decide)
  ·rw [q.2.2.2.1] at k3; exact absurd k3 (by decide)
  ·rw [<- hL]; exact hn.late ht hb q.2.1 k1 q.2.2.2.2
  ·rw [q.2.2.2.2] at k3; exact hw.e8 k1 q.2.1 k3
  ·rw [q.1] at hb'; cases hb'
  ·omega
def tkT (s : Int) (t : PThread) : Bool:=t.busy && (decide (t.work.kind = 1\/t.work.kind = 2) && (decide (9<=t.work.next) && (t.work.ans.did && decide (t.work.ans.stamp = s))))
def tkD (s : Int) (d : DeedV) : Bool:=tookD d && decide (d.a.stamp = s)
theorem tkT_low (h : t.work.next<=8) : tkT s t = false:=by unfold tkT; simp [show ¬ 9<=t.work.next by omega]
theorem tkT_idle (h : t.busy = false) : tkT s t = false:=by unfold tkT; simp [h]
theorem tkT_not (h : t.work.ans.did = false) : tkT s t = false:=by unfold tkT; simp [h]
theorem tkT_kind (h : ¬ (t.work.kind = 1\/t.work.kind = 2)) : tkT s t = false:=by unfold tkT; simp [h]
theorem Inv.tkStep (h : Inv g P) (ht : P.ts[i]? = some t) (hb : t.busy = true) (hts : (P.step i t).1.ts = P.ts.set i t') : ((P.step i t).2 = 3->(P.step i t).1.clock = P.clock/\tkT s t' = false/\tkT s t = (decide (t.work.kind = 1\/t.work.kind = 2) && t.work.ans.did && decide (t.work.ans.stamp = s)))/\((P.step i t).2≠3->((P.step i t).1.clock = P.clock/\tkT s t' = tkT s t)\/((P.step i t).1.clock = P.clock + 1/\tkT s t = false/\tkT s t' = decide (s = P.clock + 1))):=by
 have hi:=(List.getElem?_eq_some_iff.1 ht).1;obtain ⟨t3,s1,s2,s3⟩:=step_work ht hb;have e3 : t3 = t':=set_inj hi (s1.symm.trans hts);subst e3;by_cases hk : t.work.kind = 1\/t.work.kind = 2
 ·have htell:=h.tell ht hb hk hts;refine ⟨fun q3=>?_,fun q3=>?_⟩
  ·have hb':=s2 q3;have h13:=three_next q3;refine ⟨?_,tkT_idle hb',by unfold tkT; simp [hb,h13,Bool.and_assoc]⟩;rcases htell with ⟨q,_⟩ | q
   ·exact q
   ·rw [hb'] at q; exact absurd q.2.1 (by decide)
  ·obtain ⟨hb',⟨a1,_⟩,_⟩:=s3 q3;rcases htell with ⟨hc,q | q | q | q | q | q⟩ | q
   ·exact .inl ⟨hc,by rw [tkT_low q.2.1,tkT_low q.2.2]⟩
   ·exact .inl ⟨hc,by rw [tkT_low (t:=t) (by omega),tkT_not (by rw [q.2.2.2])]⟩
   ·exact .inl ⟨hc,by rw [tkT_low (t:=t) (by omega),tkT_not (by rw [q.2.2.2.1])]⟩
   ·exact .inl ⟨hc,by rw [tkT_low (t:=t) (by omega),tkT_not (by rw [q.2.2.2.1])]⟩
   ·refine .inl ⟨hc,?_⟩;unfold tkT;rw [a1,q.2.2.2.2,hb,hb'];have e1 : decide (9<=t.work.next) = true:=by simp; exact q.2.1
    have e2 : decide (9<=t3.work.next) = true:=by simp; omega
    rw [e1,e2]
   ·rw [hb'] at q; exact absurd q.1 (by decide)
   ·refine .inr ⟨q.1,tkT_low (by omega),?_⟩;unfold tkT;rw [a1,hb',q.2.2.2.2.1,q.2.2.2.2.2.1];have e2 : decide (9<=t3.work.next) = true:=by simp; omega
    rw [e2,decide_eq_true hk];simp only [Bool.true_and];exact decide_eq_decide.2 ⟨fun q=>q.symm,fun q=>q.symm⟩
 ·have hr : t.work.kind = 3\/t.work.kind = 4:=by have:=(h.th i t ht).kd hb; omega
  have hc:=(h.rdTo ht hb hr hts).1;refine ⟨fun q3=>⟨hc,tkT_idle (s2 q3),?_⟩,fun q3=>.inl ⟨hc,?_⟩⟩
  ·rw [tkT_kind hk]; simp [hk]
  ·obtain ⟨_,⟨a1,_⟩,_⟩:=s3 q3;rw [tkT_kind hk,tkT_kind (by rw [a1]; exact hk)]
end
end T
end
section
namespace T
def okT (R : Int->List (Int × Int)) (c : Int) (d : DeedV) : Prop:=(d.op.kind = 1\/d.op.kind = 2)/\1<=d.a.stamp/\d.a.stamp<=c/\shUpd (R (d.a.stamp - 1)) d.op.kind d.op.key = true/\R d.a.stamp = shNew (R (d.a.stamp - 1)) d.op.kind d.op.key d.op.value/\d.a = { shAns (R (d.a.stamp - 1)) d.op.kind d.op.key d.op.spans with stamp:=d.a.stamp }
def okN (R : Int->List (Int × Int)) (c : Int) (d : DeedV) : Prop:=0<=d.a.stamp/\d.a.stamp<=c/\shUpd (R d.a.stamp) d.op.kind d.op.key = false/\d.a.err = 0/\d.a = { shAns (R d.a.stamp) d.op.kind d.op.key d.op.spans with stamp:=d.a.stamp }
def okE (N E L puts takes : Int) (d : DeedV) : Prop:=d.a = { err:=d.a.err }/\((d.a.err = 7/\(d.op.kind = 1\/d.op.kind = 2)/\(N < 2 * puts\/E < 1 + 3 * puts + takes))\/(d.a.err = 8/\(d.op.kind = 1\/d.op.kind = 2)/\L < puts + takes)\/(d.a.err = 9/\d.op.kind = 4/\64 < d.op.spans.length * puts))
def FairD (R : Int->List (Int × Int)) (c N E L puts takes : Int) (d : DeedV) : Prop:=okT R c d\/okN R c d\/okE N E L puts takes d
section
variable {g : Gh} {R : Int->List (Int × Int)} {u : Int->Int × Int × Int} {P : PSt} {i : Nat} {t t' : PThread} {puts takes N E L f s c : Int} {ds : List DeedV} {o : OpV} {k : PWork} {d : DeedV}
theorem okT.took (h : okT R c d) : tookD d = true/\d.a.err = 0:=by
 obtain ⟨h1,_,_,h4,_,h6⟩:=h;have hd : shAns (R (d.a.stamp - 1)) d.op.kind d.op.key d.op.spans = { did:=true,value:=if d.op.kind = 2 then (shVal (R (d.a.stamp - 1)) d.op.key).1 else 0 }:=by
  unfold shAns;rw [if_neg (by omega),if_neg (by omega),h4,if_pos rfl]
 rw [hd] at h6;unfold tookD;rw [h6];simp [h1]
theorem okN.took (h : okN R c d) : tookD d = false:=by
 obtain ⟨_,_,h3,_,h5⟩:=h;unfold tookD;by_cases hk : d.op.kind = 1\/d.op.kind = 2
 ·have hd : shAns (R d.a.stamp) d.op.kind d.op.key d.op.spans = {}:=by
   unfold shAns;rw [if_neg (by omega),if_neg (by omega),h3]
   rfl
  rw [hd] at h5;rw [h5]; simp
 ·simp [hk]
theorem okE.err (h : okE N E L puts takes d) : d.a.err≠0/\d.a.stamp = 0:=by
 obtain ⟨h1,h2⟩:=h;refine ⟨by omega,by rw [h1]⟩
theorem FairD.le (h : FairD R c N E L puts takes d) (h0 : 0<=c) : d.a.stamp<=c:=by
 rcases h with h | h | h
 ·exact h.2.2.1
 ·exact h.2.1
 ·rw [h.err.2]; exact h0
theorem FairD.more (h : FairD R P.clock N E L puts takes d) : FairD (nextR R P t) (P.clock + 1) N E L puts takes d:=by
 have e : ∀ s,s<=P.clock->nextR R P t s = R s:=fun s hs=>by unfold nextR; rw [if_neg (by omega)]
 rcases h with h | h | h
 ·left;obtain ⟨h1,h2,h3,h4,h5,h6⟩:=h;refine ⟨h1,h2,by omega,?_,?_,?_⟩
  ·rw [e _ (by omega)]; exact h4
  ·rw [e _ (by omega),e _ (by omega)]; exact h5
  ·rw [e _ (by omega)]; exact h6
 ·right; left;obtain ⟨h1,h2,h3,h4,h5⟩:=h;refine ⟨h1,by omega,?_,h4,?_⟩
  ·rw [e _ (by omega)]; exact h3
  ·rw [e _ (by omega)]; exact h5
 ·exact .inr (.inr h)
theorem FairD.begun (h : FairD R c N E L puts takes d) {p q : Int} (hp : puts<=p) (hq : takes<=q) : FairD R c N E L p q d:=by
 rcases h with h | h | h
 ·exact .inl h
 ·exact .inr (.inl h)
 ·obtain ⟨h1,h2⟩:=h;refine .inr (.inr ⟨h1,?_⟩);rcases h2 with ⟨a,b,c⟩ | ⟨a,b,c⟩ | ⟨a,b,c⟩
  ·exact .inl ⟨a,b,by omega⟩
  ·exact .inr (.inl ⟨a,b,by omega⟩)
  ·refine .inr (.inr ⟨a,b,?_⟩)
   have:=Int.mul_le_mul_of_nonneg_left hp (show (0 : Int)<=d.op.spans.length by omega)
   omega
theorem shNew_val (R : List (Int × Int)) (kd ky v v' : Int) (h : kd = 1->v = v') : shNew R kd ky v = shNew R kd ky v':=by
 unfold shNew;split
 ·by_cases e : kd = 1
  ·rw [if_pos e,if_pos e,h e]
  ·rw [if_neg e,if_neg e]
 ·rfl
theorem end_fair (h : Inv g P) (hR : InvR g P) (hRt : ∀ T,0<=T->T<=P.clock->R T = Rt g T) (hS : Said R u P.clock t) (hw : WT ds N E L puts takes t.work o f) (hrs : ∀ s,1<=s->s<=P.clock->R s = shNew (R (s - 1)) (u s).1 (u s).2.1 (u s).2.2) (hn : Nums R P puts takes) (ht : P.ts[i]? = some t) (hb : t.busy = true) (h13 : t.work.next = 13) (av : Value) :
  FairD R P.clock N E L puts takes ⟨o,t.work.ans,av,f⟩/\(t.work.ans.err = 0->Tm ds t.work.ans.stamp f (tookD ⟨o,t.work.ans,av,f⟩)):=by
 obtain ⟨o1,o2,o3,o4⟩:=hw.op;have hkd:=(h.th i t ht).kd hb;by_cases hk : t.work.kind = 1\/t.work.kind = 2
 ·have hko : o.kind = 1\/o.kind = 2:=by rw [<- o1]; exact hk
  have hky:=o2 (by omega);have htk : tookD ⟨o,t.work.ans,av,f⟩ = t.work.ans.did:=by unfold tookD; simp only [hko,decide_true,Bool.true_and]
  refine ⟨?_,fun he=>by rw [htk]; exact hw.ut hk (by omega) he⟩;rcases hS.a12 hb hk (by omega) with q | q | q | q
  ·left;obtain ⟨q1,q2,q3,q4,q5⟩:=q;refine ⟨hko,q1,q2,?_,?_,?_⟩
   ·show shUpd (R (t.work.ans.stamp - 1)) o.kind o.key = true;rw [<- o1,<- hky]; exact q4
   ·show R t.work.ans.stamp = shNew (R (t.work.ans.stamp - 1)) o.kind o.key o.value;rw [hrs _ q1 q2,q3,<- o1,<- hky];exact shNew_val _ _ _ _ _ o3
   ·show t.work.ans = { shAns (R (t.work.ans.stamp - 1)) o.kind o.key o.spans with stamp:=t.work.ans.stamp };have : shAns (R (t.work.ans.stamp - 1)) o.kind o.key o.spans = { did:=true,value:=if t.work.kind = 2 then (shVal (R (t.work.ans.stamp - 1)) t.work.key).1 else 0 }:=by
     unfold shAns;rw [if_neg (by omega),if_neg (by omega),<- o1,<- hky,q4,if_pos rfl]
    rw [this];generalize t.work.ans.stamp = s at *;rw [q5]
  ·right; left;obtain ⟨q1,q2,q3,q4⟩:=q;refine ⟨q1,q2,?_,by show t.work.ans.err = 0; rw [q4],?_⟩
   ·show shUpd (R t.work.ans.stamp) o.kind o.key = false;rw [<- o1,<- hky]; exact q3
   ·show t.work.ans = { shAns (R t.work.ans.stamp) o.kind o.key o.spans with stamp:=t.work.ans.stamp };have : shAns (R t.work.ans.stamp) o.kind o.key o.spans = {}:=by
     unfold shAns;rw [if_neg (by omega),if_neg (by omega),<- o1,<- hky,q3]
     rfl
    rw [this];generalize t.work.ans.stamp = s at *;rw [q4]
  ·right; right;have e7:=hw.e7 hk (by omega) (by rw [q]);refine ⟨by show t.work.ans = { err:=t.work.ans.err }; rw [q],.inl ⟨by show t.work.ans.err = 7; rw [q],hko,e7⟩⟩
  ·right; right;have e8:=hw.e8 hk (by omega) (by rw [q]);refine ⟨by show t.work.ans = { err:=t.work.ans.err }; rw [q],.inr (.inl ⟨by show t.work.ans.err = 8; rw [q],hko,e8⟩)⟩
 ·have hr : t.work.kind = 3\/t.work.kind = 4:=by omega
  have hko : ¬ (o.kind = 1\/o.kind = 2):=by rw [<- o1]; exact hk
  have htk : tookD ⟨o,t.work.ans,av,f⟩ = false:=by unfold tookD; simp only [hko,decide_false,Bool.false_and]
  have han:=(hR i t ht).an hb hr h13;obtain ⟨r1,r2⟩:=hw.rt hr (by omega);have htm:=((h.th i t ht).tm hb (by omega)).1;rw [<- hRt _ r1 htm] at han;have hupd : shUpd (R t.work.time) o.kind o.key = false:=by
   unfold shUpd;simp only [not_or] at hko;simp [hko.1,hko.2]
  by_cases h3 : t.work.kind = 3
  ·unfold readAns at han;rw [if_pos h3] at han;have hst : t.work.ans.stamp = t.work.time:=by rw [han]
   refine ⟨.inr (.inl ⟨by show 0<=t.work.ans.stamp; omega,by show t.work.ans.stamp<=_; omega,by show shUpd (R t.work.ans.stamp) o.kind o.key = false; rw [hst]; exact hupd,by show t.work.ans.err = 0; rw [han],?_⟩),fun _=>by rw [htk,hst]; exact r2⟩;show t.work.ans = { shAns (R t.work.ans.stamp) o.kind o.key o.spans with stamp:=t.work.ans.stamp };rw [hst,han];unfold shAns;rw [if_neg (by omega),if_pos (by omega),<- o2 (by omega)]
  ·have h4 : t.work.kind = 4:=by omega
   unfold readAns at han;rw [if_neg h3] at han;unfold answerOf at han;by_cases hl : lensOf (spanLists t.work.spans (R t.work.time)) > 64
   ·rw [if_pos hl] at han;refine ⟨.inr (.inr ⟨by show t.work.ans = { err:=t.work.ans.err }; rw [han],.inr (.inr ⟨by show t.work.ans.err = 9; rw [han],by show o.kind = 4; omega,?_⟩)⟩),fun he=>by rw [han] at he; exact absurd he (by decide)⟩;show 64 < (o.spans.length : Int) * puts;have hle:=lens_le (R t.work.time) t.work.spans;have hln:=hn.ln t.work.time r1 htm;rw [<- o4 h4]
    have:=Int.mul_le_mul_of_nonneg_left (show ((R t.work.time).length : Int)<=puts by omega) (show (0 : Int)<=t.work.spans.length by omega)
    omega
   ·rw [if_neg hl] at han;have hst : t.work.ans.stamp = t.work.time:=by rw [han]
    refine ⟨.inr (.inl ⟨by show 0<=t.work.ans.stamp; omega,by show t.work.ans.stamp<=_; omega,by show shUpd (R t.work.ans.stamp) o.kind o.key = false; rw [hst]; exact hupd,by show t.work.ans.err = 0; rw [han],?_⟩),fun _=>by rw [htk,hst]; exact r2⟩;show t.work.ans = { shAns (R t.work.ans.stamp) o.kind o.key o.spans with stamp:=t.work.ans.stamp };rw [hst,han];unfold shAns answerOf;rw [if_pos (by omega),<- o4 h4,if_neg hl]
end
end T
end
end Go.Proofs.YtfccelbmacjifabGreat
