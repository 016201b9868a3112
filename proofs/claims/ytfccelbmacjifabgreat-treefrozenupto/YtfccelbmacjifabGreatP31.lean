import Derived.Test.YtfccelbmacjifabGreatP0
import Derived.Test.YtfccelbmacjifabGreatP30
import Derived.Test.YtfccelbmacjifabGreatP26
set_option linter.unusedSimpArgs false
set_option maxRecDepth 100000
set_option maxHeartbeats 4000000
namespace Go.Proofs.YtfccelbmacjifabGreat
section
namespace T
def SL (M : PMem) (x : Int) (s : Bool) : List Int:=(M.es.filter (isSt x s)).map PEntry.stamp
def UQ (M : PMem) : Prop:=∀ x s,(SL M x s).Nodup
theorem mem_SL {M : PMem} {x st : Int} {s : Bool} : st ∈ SL M x s ↔ ∃ d,Sd M x s st d:=by
 unfold SL Sd;rw [List.mem_map];constructor
 ·rintro ⟨e,he,rfl⟩;rw [List.mem_filter] at he;exact ⟨e.dst,e,he.1,he.2,rfl,rfl⟩
 ·rintro ⟨d,e,he,hs,rfl,_⟩;exact ⟨e,List.mem_filter.2 ⟨he,hs⟩,rfl⟩
theorem sl_es {M M' : PMem} (h : M'.es = M.es) (x : Int) (s : Bool) : SL M' x s = SL M x s:=by unfold SL; rw [h]
theorem filt_ins {α β : Type} (p : α->Bool) (f : α->β) : ∀ {l : List α} {k : Nat} {x : α} (y : α),l[k]? = some x->p x = false->p y = true->List.Perm (((l.set k y).filter p).map f) (f y :: (l.filter p).map f)
 | [],k,x,y,h=>by simp at h
 | z :: r,0,x,y,h=>by
  intro hx hy;simp at h; subst h;simp [hx,hy]
 | z :: r,k + 1,x,y,h=>by
  intro hx hy;have ih:=filt_ins p f y (l:=r) (k:=k) (by simpa using h) hx hy;simp only [List.set_cons_succ,List.filter_cons];split
  ·simp only [List.map_cons];exact (ih.cons _).trans (List.Perm.swap _ _ _)
  ·exact ih
theorem sl_setE {M : PMem} {k : Nat} {e y : PEntry} (h : M.es[k]? = some e) (h1 : ∀ x s,isSt x s e = false) (h2 : ∀ x s,isSt x s y = false) (x : Int) (s : Bool) : SL { M with es:=M.es.set k y } x s = SL M x s:=filt_set _ _ h _ (h1 x s) (h2 x s)
theorem sl_pend (M : PMem) (n : Int) (b : Bool) (to : Int) (x : Int) (s : Bool) : SL (M.pend n b to) x s = SL M x s:=by
 unfold PMem.pend;split
 ·next hc =>
  rcases find_bd (fun e : PEntry=>!e.used) M.es 0 with ⟨q,_⟩ | ⟨k,e,h1,h2,h3,_⟩
  ·exfalso;have hq : M.freeEntry = -1:=q;rw [hq] at hc;simp [PMem.hasEntry,isIn] at hc
  ·have hk : M.freeEntry = (k : Int):=h3.trans (by simp);rw [hk];show SL { M with es:=M.es.set (k : Int).toNat _ } x s = _;rw [Int.toNat_natCast];refine sl_setE h1 (fun x s=>?_) (fun x s=>by simp [isSt]) x s;have : e.used = false:=by simpa using h2
   simp [isSt,this]
 ·rfl
theorem sl_addLink (M : PMem) (n to x : Int) (s : Bool) : SL (M.addLink n to) x s = SL M x s:=by
 unfold PMem.addLink;split
 ·split
  ·rw [sl_pend]; exact sl_es (modN_ents _ _ _) _ _
  ·rw [sl_pend]; exact sl_es (modN_ents _ _ _) _ _
  ·rfl
 ·rfl
theorem make_es (M : PMem) (a b : Int) : (M.make a b).1.es = M.es:=by unfold PMem.make; split <;> rfl
theorem sl_prepI (P : PSt) (k : PWork) (x : Int) (s : Bool) : SL (P.prepareInsert k).1 x s = SL P.mem x s:=by
 unfold PSt.prepareInsert;simp only;split
 ·show SL ((((P.mem.make _ _).1.addLink _ _).pend _ _ _)) x s = _;rw [sl_pend,sl_addLink]; exact sl_es (make_es _ _ _) _ _
 ·show SL ((((P.mem.make _ _).1.join _ _).1.pend _ _ _)) x s = _;rw [sl_pend];unfold PMem.join;simp only;rw [sl_addLink,sl_addLink,sl_es (make_es _ _ _),sl_es (make_es _ _ _)]
theorem sl_unpend (M : PMem) (n : Int) (b : Bool) (x : Int) (s : Bool) : SL (M.unpend n b) x s = SL M x s:=by
 unfold PMem.unpend;split
 ·next hc =>
  rcases find_bd (isPd n b) M.es 0 with ⟨q,_⟩ | ⟨k,e,h1,h2,h3,_⟩
  ·exfalso;have hq : M.pending n b = -1:=q;rw [hq] at hc;simp [PMem.hasEntry,isIn] at hc
  ·have hk : M.pending n b = (k : Int):=h3.trans (by simp);rw [hk];show SL { M with es:=M.es.set (k : Int).toNat _ } x s = _;rw [Int.toNat_natCast];exact sl_setE h1 (isSt_pd h2) (fun x s=>isSt_z _ _) x s
 ·rfl
theorem uq_stamp {M : PMem} {n st : Int} {b : Bool} (h : UQ M) (hs : ∀ st' d,Sd M n b st' d->st'≠st) : UQ (M.stamp n b st):=by
 unfold PMem.stamp;split
 ·next hc =>
  rcases find_bd (isPd n b) M.es 0 with ⟨q,_⟩ | ⟨k,e,h1,h2,h3,_⟩
  ·exfalso;have hq : M.pending n b = -1:=q;rw [hq] at hc;simp [PMem.hasEntry,isIn] at hc
  ·have hk : M.pending n b = (k : Int):=h3.trans (by simp);rw [hk];have he : M.ent (k : Int) = e:=by simp [PMem.ent,h1]
   rw [he];intro x s;show (SL { M with es:=M.es.set (k : Int).toNat { e with pending:=false,stamp:=st } } x s).Nodup;rw [Int.toNat_natCast];cases hy : isSt x s { e with pending:=false,stamp:=st }
   ·have : SL { M with es:=M.es.set k { e with pending:=false,stamp:=st } } x s = SL M x s:=filt_set _ _ h1 _ (isSt_pd h2 x s) hy;rw [this]; exact h x s
   ·have hp:=filt_ins (isSt x s) PEntry.stamp { e with pending:=false,stamp:=st } h1 (isSt_pd h2 x s) hy;show (((M.es.set k { e with pending:=false,stamp:=st }).filter (isSt x s)).map PEntry.stamp).Nodup;rw [hp.nodup_iff];refine List.nodup_cons.2 ⟨?_,h x s⟩;intro hm;have hxs : x = n/\s = b:=by
     simp only [isPd,Bool.and_eq_true,beq_iff_eq] at h2;simp only [isSt,Bool.and_eq_true,beq_iff_eq] at hy;exact ⟨hy.2.2.1.symm.trans h2.2.1,hy.2.2.2.symm.trans h2.2.2⟩
    obtain ⟨d,hd⟩:=mem_SL.1 hm;rw [hxs.1,hxs.2] at hd;exact hs st d hd rfl
 ·exact h
theorem sl_free (M : PMem) (n x : Int) (s : Bool) : List.Sublist (SL (M.free n) x s) (SL M x s):=by
 unfold PMem.free;split
 ·unfold SL;simp only;have : ∀ l : List PEntry,List.Sublist (((l.map fun e=>if ofNode n e then PEntry.zero else e).filter (isSt x s)).map PEntry.stamp) ((l.filter (isSt x s)).map PEntry.stamp):=by
   intro l
   induction l with
   | nil=>exact List.Sublist.refl _
   | cons a l ih =>
    simp only [List.map_cons,List.filter_cons];by_cases ho : ofNode n a = true
    ·simp only [ho,if_true,isSt_z,Bool.false_eq_true,if_false];split
     ·exact ih.cons _
     ·exact ih
    ·simp only [ho,if_false,Bool.false_eq_true];split
     ·simp only [List.map_cons]; exact ih.cons_cons _
     ·exact ih
  exact this _
 ·exact List.Sublist.refl _
theorem uq_free {M : PMem} (h : UQ M) (n : Int) : UQ (M.free n):=fun x s=>(h x s).sublist (sl_free M n x s)
theorem uq_frees : ∀ (l : List Int) {M : PMem},UQ M->UQ (M.frees l)
 | [],_,h=>h
 | n :: l,_,h=>uq_frees l (uq_free h n)
theorem uq_freesIf (ht : Bool) (tm : Int) : ∀ (l : List Nat) {M : PMem},UQ M->UQ (M.freesIf ht tm l)
 | [],_,h=>h
 | n :: l,M,h=>by
  unfold PMem.freesIf;refine uq_freesIf ht tm l ?_;split
  ·exact uq_free h _
  ·exact h
theorem sl_set0 {M : PMem} {k : Nat} (x : Int) (s : Bool) : List.Sublist (SL { M with es:=M.es.set k PEntry.zero } x s) (SL M x s):=by
 unfold SL;simp only;have : ∀ (l : List PEntry) (k : Nat),List.Sublist (((l.set k PEntry.zero).filter (isSt x s)).map PEntry.stamp) ((l.filter (isSt x s)).map PEntry.stamp):=by
  intro l
  induction l with
  | nil=>intro k; exact List.Sublist.refl _
  | cons a l ih =>
   intro k;cases k with
   | zero =>
    simp only [List.set_cons_zero,List.filter_cons,isSt_z,Bool.false_eq_true,if_false];split
    ·simp only [List.map_cons]; exact (List.Sublist.refl _).cons _
    ·exact List.Sublist.refl _
   | succ k =>
    simp only [List.set_cons_succ,List.filter_cons];split
    ·simp only [List.map_cons]; exact (ih k).cons_cons _
    ·exact ih k
 exact this _ _
theorem uq_drop {M : PMem} (h : UQ M) (e : Int) : UQ (M.drop e):=by
 have : ∀ k,UQ { M with es:=dropTo e M.es k }:=by
  intro k
  induction k with
  | zero=>exact h
  | succ k ih =>
   show UQ { M with es:=dropOne e (dropTo e M.es k) k };unfold dropOne;split
   ·split
    ·exact fun x s=>(ih x s).sublist (sl_set0 (M:={ M with es:=dropTo e M.es k }) x s)
    ·exact ih
   ·exact ih
 exact this _
section
variable {g g' : Gh} {T : Int} {i j : Nat} {t t' u : PThread} {P P' : PSt} {key : Int}
theorem Inv.uqStep (h : Inv g P) (hu : UQ P.mem) (ht : P.ts[i]? = some t) (hb : t.busy = true) : UQ (P.step i t).1.mem:=by
 have hT:=h.th i t ht;obtain ⟨P',n,hs,ho⟩:=h.out ht hb;rw [hs];have es : ∀ {M : PMem},M.es = P.mem.es->UQ M:=fun e x s=>by rw [sl_es e]; exact hu x s
 cases ho with
 | lock=>exact es (modN_ents _ _ _)
 | home=>exact es rfl
 | prepI hn hk hr1 hr2 a n M1 ep =>
  intro x s;show (SL M1 x s).Nodup
  have:=sl_prepI P t.work x s
  rw [ep] at this;rw [this]; exact hu x s
 | prepR hn hk hr M1 em=>intro x s; show (SL M1 x s).Nodup; rw [em,sl_pend]; exact hu x s
 | late hn hk hl M1 em =>
  show UQ M1;rw [em];exact uq_frees _ (fun x s=>by rw [sl_unpend]; exact hu x s)
 | takeI hn hk hl a n q M1 em =>
  show UQ M1;rw [em,q.md];show UQ ((P.mem.stampNew a (P.clock + 1)).stampNew n (P.clock + 1));rw [stampNew_no q.pa];unfold PMem.stampNew;obtain ⟨a1,a2,a3,a4⟩:=stamp_e (P.clock + 1) h.wm (q.pn false);refine uq_stamp (uq_stamp hu ?_) ?_
  ·intro st' d hd; exact absurd hd (q.sn _ _ _)
  ·intro st' d hd;rcases (a4 _ _ _ _).1 hd with e | e
   ·exact absurd e (q.sn _ _ _)
   ·exact absurd e.2.1 (by simp)
 | kill hn hk M1 em e=>exact es e
 | link hn hk M1 em e=>exact es e
 | stamp hn hk d0 hp M1 em =>
  show UQ M1;rw [em];refine uq_stamp hu ?_;intro st' d hd
  have:=(hT.s9 hb (by omega) (by omega)).2.2.2.2 _ _ hd
  omega
 | unlock hn hk M1 em e=>exact es e
 | _=>exact hu
end
theorem uq_fresh {T N E L : Int} (hE : 1<=E) : UQ (freshP 1 T N E L).mem:=by
 show UQ (freshMem N.toNat E.toNat);unfold freshMem;have h0 : UQ ⟨freshNodes N.toNat,List.replicate E.toNat PEntry.zero⟩:=by
  intro x s;have : SL ⟨freshNodes N.toNat,List.replicate E.toNat PEntry.zero⟩ x s = []:=by
   unfold SL;rw [List.filter_eq_nil_iff.2]
   ·rfl
   ·intro e he; rw [(List.mem_replicate.1 he).2,isSt_z]; decide
  rw [this]; exact List.nodup_nil
 have h1 : ∀ x s st d,¬ Sd ((⟨freshNodes N.toNat,List.replicate E.toNat PEntry.zero⟩ : PMem).addLink 0 1) x s st d:=by
  intro x s st d hd
  have:=mem_SL.2 ⟨d,hd⟩
  rw [sl_addLink] at this;obtain ⟨d',e,he,hh,_⟩:=mem_SL.1 this;have he : e ∈ List.replicate E.toNat PEntry.zero:=he;rw [(List.mem_replicate.1 he).2,isSt_z] at hh; cases hh
 have h2 : UQ ((⟨freshNodes N.toNat,List.replicate E.toNat PEntry.zero⟩ : PMem).addLink 0 1):=fun x s=>by rw [sl_addLink]; exact h0 x s
 unfold PMem.stampNew;refine uq_stamp (uq_stamp h2 (fun st' d hd=>absurd hd (h1 _ _ _ _))) ?_;intro st' d hd
 -- only the first link has an entry
 obtain ⟨_,_,_,_,w5⟩:=fresh_seen N.toNat E.toNat (by omega);intro e;subst e;have hfm : freshMem N.toNat E.toNat = (((⟨freshNodes N.toNat,List.replicate E.toNat PEntry.zero⟩ : PMem).addLink 0 1).stamp 0 false 0).stamp 0 true 0:=rfl;have hm:=mem_SL.2 ⟨d,hd⟩;obtain ⟨M1,hM1⟩ : ∃ M1,M1 = ((⟨freshNodes N.toNat,List.replicate E.toNat PEntry.zero⟩ : PMem).addLink 0 1).stamp 0 false 0:=⟨_,rfl⟩;rw [<- hM1] at hd hm hfm
 -- an entry that is stamped stays
 have keep : ∃ d',Sd (freshMem N.toNat E.toNat) 0 true 0 d':=by
  rw [hfm];unfold PMem.stamp;split
  ·next hc =>
   rcases find_bd (isPd 0 true) M1.es 0 with ⟨q,_⟩ | ⟨k,e,g1,g2,g3,_⟩
   ·exfalso;have hq : M1.pending 0 true = -1:=q;rw [hq] at hc;simp [PMem.hasEntry,isIn] at hc
   ·have hk : M1.pending 0 true = (k : Int):=g3.trans (by simp);rw [hk];refine ⟨d,?_⟩;show Sd { M1 with es:=M1.es.set (k : Int).toNat _ } 0 true 0 d;rw [Int.toNat_natCast];exact (sd_set g1 (isSt_pd g2) _ _ _ _).2 (.inl hd)
  ·exact ⟨d,hd⟩
 obtain ⟨d',hd'⟩:=keep
 have:=((w5 _ _ _ _).1 hd').2.1
 cases this
end T
end
section
section
variable {P : PSt}
def PSt.swp (P : PSt) (m : Nat) : PSt:={ P with sweep:={ made:=m,clock:=P.clock,retired:=retiredFrom P.mem.ns 0,hasTime:=false,time:=0 } }
theorem sweep_first (h : P.sweep = PSweep.zero) : P.doSweep = (P.swp 1,1):=by
 unfold PSt.doSweep PSt.swp;rw [h]
 rfl
theorem do_look (S : PSt) (h0 : S.sweep.made≠0) (h1 : S.sweep.made - 1 < S.ts.length) (h2 : (S.th (S.sweep.made - 1)).slot≠1) : S.doSweep = ({ S with sweep:={ S.sweep.lookAt (S.th (S.sweep.made - 1)) with made:=S.sweep.made + 1 } },1):=by
 unfold PSt.doSweep;simp only;rw [if_neg h0,if_pos h1,if_neg h2]
theorem do_drop (S : PSt) (h0 : S.sweep.made≠0) (h1 : S.sweep.made - 1 = S.ts.length) (ht : S.sweep.hasTime = false) : S.doSweep = ({ S with mem:=S.mem.drop S.sweep.clock,sweep:={ S.sweep with made:=S.sweep.made + 1 } },1):=by
 unfold PSt.doSweep;simp only;rw [if_neg h0,if_neg (by omega),if_pos h1,ht]
 rfl
theorem do_last (S : PSt) (h0 : S.sweep.made≠0) (h1 : S.ts.length < S.sweep.made - 1) : S.doSweep = ({ S with mem:=S.mem.freesIf S.sweep.hasTime S.sweep.time S.sweep.retired,sweep:=PSweep.zero },3):=by
 unfold PSt.doSweep;simp only;rw [if_neg h0,if_neg (by omega),if_neg (by omega)]
theorem sweep_look (hs : ∀ t ∈ P.ts,t.slot = 0) {m : Nat} (hm : 1<=m) (hl : m - 1 < P.ts.length) : (P.swp m).doSweep = (P.swp (m + 1),1):=by
 have hsl : ((P.swp m).th ((P.swp m).sweep.made - 1)).slot = 0:=by
  show (P.th (m - 1)).slot = 0;unfold PSt.th;rw [List.getElem?_eq_getElem hl];exact hs _ (List.getElem_mem hl)
 rw [do_look (P.swp m) (by show m≠0; omega) hl (by rw [hsl]; decide)];unfold PSweep.lookAt;rw [hsl]
 rfl
theorem sweep_drop : (P.swp (P.ts.length + 1)).doSweep = ({ P.swp (P.ts.length + 2) with mem:=P.mem.drop P.clock },1):=by
 rw [do_drop (P.swp (P.ts.length + 1)) (by show P.ts.length + 1≠0; omega) (by show P.ts.length + 1 - 1 = P.ts.length; omega) rfl]
 rfl
theorem sweep_last : ({ P.swp (P.ts.length + 2) with mem:=P.mem.drop P.clock } : PSt).doSweep = ({ P with mem:=(P.mem.drop P.clock).freesIf false 0 (retiredFrom P.mem.ns 0),sweep:=PSweep.zero },3):=by
 rw [do_last ({ P.swp (P.ts.length + 2) with mem:=P.mem.drop P.clock } : PSt) (by show P.ts.length + 2≠0; omega) (by show P.ts.length < P.ts.length + 2 - 1; omega)]
 rfl
theorem sweep_iter (h : P.sweep = PSweep.zero) (hs : ∀ t ∈ P.ts,t.slot = 0) : ∀ j,j<=P.ts.length->P.swIter (j + 1) = P.swp (j + 1)/\P.swHow j = 1
 | 0,_=>by
  have:=sweep_first h
  exact ⟨by show P.doSweep.1 = _; rw [this],by show P.doSweep.2 = 1; rw [this]⟩
 | j + 1,hj=>by
  obtain ⟨h1,_⟩:=sweep_iter h hs j (by omega)
  have:=sweep_look hs (m:=j + 1) (by omega) (by omega)
  refine ⟨?_,?_⟩
  ·show (P.swIter (j + 1)).doSweep.1 = _;rw [h1,this]
  ·show (P.swIter (j + 1)).doSweep.2 = 1;rw [h1,this]
theorem sweep_run (h : P.sweep = PSweep.zero) (hs : ∀ t ∈ P.ts,t.slot = 0) : (∀ j,j < P.ts.length + 2->P.swHow j = 1)/\P.swHow (P.ts.length + 2) = 3/\P.swIter (P.ts.length + 3) = { P with mem:=(P.mem.drop P.clock).freesIf false 0 (retiredFrom P.mem.ns 0),sweep:=PSweep.zero }:=by
 have h1:=(sweep_iter h hs P.ts.length (Nat.le_refl _)).1;have h2 : P.swIter (P.ts.length + 2) = { P.swp (P.ts.length + 2) with mem:=P.mem.drop P.clock }:=by
  show (P.swIter (P.ts.length + 1)).doSweep.1 = _;rw [h1,sweep_drop]
 refine ⟨?_,?_,?_⟩
 ·intro j hj;by_cases hl : j<=P.ts.length
  ·exact (sweep_iter h hs j hl).2
  ·obtain rfl : j = P.ts.length + 1:=by omega
   show (P.swIter (P.ts.length + 1)).doSweep.2 = 1;rw [h1,sweep_drop]
 ·show (P.swIter (P.ts.length + 2)).doSweep.2 = 3;rw [h2,sweep_last]
 ·show (P.swIter (P.ts.length + 2)).doSweep.1 = _;rw [h2,sweep_last]
end
end
section
namespace T
namespace Tr
def is : Tr->List Int
 | lf _ _ _=>[]
 | nd p _ l r=>p :: (l.is ++ r.is)
variable {t : Tr} {x : Int}
theorem mem_is {t : Tr} : x ∈ t.is ↔ t.Inn x:=by
 induction t with
 | lf=>simp [is,Inn]
 | nd p q l r h1 h2=>simp [is,Inn,h1,h2]
theorem is_nodup {t : Tr} (hd : t.Dj) : t.is.Nodup:=by
 induction t with
 | lf=>simp [is]
 | nd p q l r h1 h2 =>
  obtain ⟨d1,d2,d3,d4,d5⟩:=hd;simp only [is,List.nodup_cons,List.mem_append,mem_is];refine ⟨fun e=>e.elim (fun e=>d1 (inn_has e)) (fun e=>d2 (inn_has e)),List.nodup_append.2 ⟨h1 d4,h2 d5,?_⟩⟩;intro a ha b hb e;rw [mem_is] at ha hb;subst e; exact d3 a (inn_has ha) (inn_has hb)
theorem rows_len (t : Tr) : t.rows.length = t.is.length + 1:=by
 induction t with
 | lf=>simp [rows,is]
 | nd p q l r h1 h2=>simp [rows,is,h1,h2]; omega
theorem size_is (t : Tr) : t.size = 2 * t.is.length + 1:=by
 induction t with
 | lf=>simp [size,is]
 | nd p q l r h1 h2=>simp [size,is,h1,h2]; omega
end Tr
theorem nodup_leA {α : Type} [DecidableEq α] : ∀ {l m : List α},l.Nodup->(∀ x ∈ l,x ∈ m)->l.length<=m.length
 | [],_,_,_=>by simp
 | x :: l,m,hn,hs=>by
  obtain ⟨h1,h2⟩:=List.nodup_cons.1 hn;have hx:=hs x (by simp)
  have:=nodup_leA (l:=l) (m:=m.erase x) h2 (fun y hy=>by
   refine (List.mem_erase_of_ne ?_).2 (hs y (by simp [hy]));rintro rfl; exact h1 hy)
  rw [List.length_erase_of_mem hx] at this;have : 0 < m.length:=List.length_pos_of_mem hx
  simp; omega
theorem nodup_eqA {α : Type} [DecidableEq α] {l m : List α} (h1 : l.Nodup) (h2 : m.Nodup) (h : ∀ x,x ∈ l ↔ x ∈ m) : l.length = m.length :=
 Nat.le_antisymm (nodup_leA h1 (fun x hx=>(h x).1 hx)) (nodup_leA h2 (fun x hx=>(h x).2 hx))
theorem map_nodup {α β : Type} [DecidableEq β] (f : α->β) : ∀ (l : List α),(∀ y,(l.filter (fun e=>decide (f e = y))).length<=1)->(l.map f).Nodup
 | [],_=>List.nodup_nil
 | a :: l,h=>by
  simp only [List.map_cons,List.nodup_cons];refine ⟨?_,map_nodup f l (fun y=>?_)⟩
  ·intro hm;obtain ⟨b,hb,e⟩:=List.mem_map.1 hm
   have:=h (f a)
   simp only [List.filter_cons,decide_true,if_true,List.length_cons] at this;have h2 : 0 < (l.filter (fun e=>decide (f e = f a))).length:=List.length_pos_of_mem (List.mem_filter.2 ⟨hb,by simpa using e⟩);omega
  ·have:=h y
   simp only [List.filter_cons] at this;split at this
   ·simp only [List.length_cons] at this; omega
   ·exact this
theorem count_not {α : Type} (p : α->Bool) (l : List α) : count (fun x=>!p x) l + count p l = l.length:=by
 induction l with
 | nil=>rfl
 | cons a l ih=>unfold count at *; simp only [List.filter_cons,List.length_cons]; cases p a <;> simp <;> omega
section
variable {g g' : Gh} {T : Int} {i j : Nat} {t t' u : PThread} {P P' : PSt} {key : Int}
theorem Rt_len (h : Gt (g.V T)) : (Rt g T).length = (g.V T).is.length:=by
 have h1:=Tr.rows_len (g.V T);have hs:=Tr.rows_srt h.ok;have h2 : ((g.V T).rows).filter (fun p=>!decide (p.1<=1099511627776)) = [(1099511627777,0)]:=by
  refine srt_ext (List.Pairwise.filter _ hs) (by simp [Srt]) ?_;rintro ⟨k,v⟩;rw [List.mem_filter,Tr.mem_rows];constructor
  ·rintro ⟨⟨x,hx⟩,hk⟩;simp at hk;by_cases e : x = 1
   ·subst e;have e1:=Tr.goal_key h.ok hx;have e2:=lea_fn h.dj hx h.one;subst e2;have e3:=Tr.goal_key h.ok h.one;rw [e1] at e3;simp at e3 ⊢; exact e3
   ·have:=h.kr x k v hx e; omega
  ·intro e;simp at e;obtain ⟨rfl,rfl⟩:=e;exact ⟨⟨1,h.one⟩,by decide⟩
 have h3:=count_not (fun p : Int × Int=>decide (p.1<=1099511627776)) (g.V T).rows;unfold count at h3;rw [h2] at h3;unfold Rt;simp only [List.length_singleton] at h3;omega
def Idle (P : PSt) : Prop:=∀ t ∈ P.ts,t.busy = false
theorem Idle.ex (h : Idle P) {p : PThread->Prop} (hp : ∀ t,p t->t.busy = true) : ¬ Ex P.ts p:=by
 rintro ⟨i,t,ht,hh⟩
 have:=hp t hh
 rw [h t (List.mem_of_getElem? ht)] at this; cases this
theorem Inv.slot0 (h : Inv g P) (hi : Idle P) : ∀ t ∈ P.ts,t.slot = 0:=by
 intro t ht;obtain ⟨j,hj⟩:=List.mem_iff_getElem?.1 ht;rw [(h.th j t hj).sl,if_neg (fun e=>by have:=e.1; rw [hi t ht] at this; cases this)]
theorem room1_of {M : PMem} (L : List Int) (hn : L.Nodup) (h : ∀ x,Us M x ↔ x ∈ L) : M.room.1 = M.ns.length - L.length:=by
 have h1:=count_not (fun x : PNode=>x.used) M.ns;have h2 : count (fun x : PNode=>x.used) M.ns = L.length:=by
  have h3 : count (fun x : PNode=>x.used) M.ns = ((List.range M.ns.length).filter (fun (n : Nat)=>(M.node (n : Int)).used)).length:=by
   have : ∀ (l : List PNode) (k : Nat),(∀ (j : Nat) e,l[j]? = some e->(M.node ((k + j : Nat) : Int)).used = e.used)->count (fun x : PNode=>x.used) l = ((List.range' k l.length).filter (fun (n : Nat)=>(M.node (n : Int)).used)).length:=by
    intro l
    induction l with
    | nil=>intro k _; rfl
    | cons a l ih =>
     intro k hk;have i1:=ih (k + 1) (fun j e he=>by have:=hk (j + 1) e (by simpa using he); rw [show k + 1 + j = k + (j + 1) by omega]; exact this);have i2:=hk 0 a rfl;unfold count at *;simp only [Nat.add_zero] at i2;simp only [List.length_cons,List.range'_succ,List.filter_cons,i2];split <;> simp [i1]
   rw [List.range_eq_range'];refine this M.ns 0 (fun j e he=>?_);rw [Nat.zero_add,(node_get he).1]
  rw [h3];have h4 : ((List.range M.ns.length).filter (fun (n : Nat)=>(M.node (n : Int)).used)).length = (((List.range M.ns.length).filter (fun (n : Nat)=>(M.node (n : Int)).used)).map (fun (n : Nat)=>(n : Int))).length:=by simp
  rw [h4];refine nodup_eqA ?_ hn ?_
  ·refine List.Pairwise.map _ ?_ (List.Pairwise.filter _ List.nodup_range);intro a b hab e;exact hab (by omega)
  ·intro x;rw [List.mem_map,<- h x];constructor
   ·rintro ⟨n,hn,rfl⟩;exact (List.mem_filter.1 hn).2
   ·intro hu
    have:=hasN_iff.1 (hasN_used hu)
    refine ⟨x.toNat,List.mem_filter.2 ⟨by simp; omega,?_⟩,by omega⟩;have e : ((x.toNat : Nat) : Int) = x:=by omega
    rw [e]; exact hu
 have e1 : M.room.1 = (count (fun x : PNode=>!x.used) M.ns : Nat):=rfl;omega
theorem room2_of {M : PMem} (hp : ∀ x s,Pd M x s = []) (L : List (Int × Bool)) (hn : L.Nodup) (h : ∀ x s,SL M x s≠[] ↔ (x,s) ∈ L) (h1 : ∀ x s,(SL M x s).length<=1) : M.room.2 = M.es.length - L.length:=by
 have h2:=count_not (fun x : PEntry=>x.used) M.es;have nop : ∀ e ∈ M.es,e.used = true->isSt e.src e.side e = true:=by
  intro e he hu;have : e.pending = false:=by
   cases hq : e.pending
   ·rfl
   ·exfalso
    have:=hp e.src e.side
    unfold Pd at this;simp at this;have h3:=this e he;simp [isPd,hq] at h3
  simp [isSt,hu,this]
 have key : ∀ x s,(M.es.filter (fun e=>e.used)).filter (fun e=>decide ((e.src,e.side) = (x,s))) = M.es.filter (isSt x s):=by
  intro x s;rw [List.filter_filter];apply List.filter_congr;intro e he;rw [Bool.eq_iff_iff];simp only [Bool.and_eq_true,decide_eq_true_eq,Prod.mk.injEq];constructor
  ·rintro ⟨⟨e1,e2⟩,e3⟩
   have:=nop e he e3
   rw [e1,e2] at this; exact this
  ·intro hs;simp only [isSt,Bool.and_eq_true,beq_iff_eq] at hs;exact ⟨⟨hs.2.2.1,hs.2.2.2⟩,hs.1⟩
 have h3 : count (fun x : PEntry=>x.used) M.es = L.length:=by
  have e1 : count (fun x : PEntry=>x.used) M.es = ((M.es.filter (fun e=>e.used)).map (fun e=>(e.src,e.side))).length:=by simp [count]
  rw [e1];refine nodup_eqA (map_nodup _ _ ?_) hn ?_
  ·rintro ⟨x,s⟩;rw [key]
   have:=h1 x s
   unfold SL at this;simpa using this
  ·rintro ⟨x,s⟩;rw [<- h x s];constructor
   ·intro hm;obtain ⟨e,he,ee⟩:=List.mem_map.1 hm;have : e ∈ M.es.filter (isSt x s):=by rw [<- key]; exact List.mem_filter.2 ⟨he,by simpa using ee⟩
    intro e0;have hm2 : e.stamp ∈ SL M x s:=List.mem_map.2 ⟨e,this,rfl⟩;rw [e0] at hm2; cases hm2
   ·intro hne;obtain ⟨st,hst⟩:=List.exists_mem_of_ne_nil _ hne;obtain ⟨e,he,_⟩:=List.mem_map.1 hst;rw [<- key] at he;obtain ⟨q1,q2⟩:=List.mem_filter.1 he;exact List.mem_map.2 ⟨e,q1,by simpa using q2⟩
 have e1 : M.room.2 = (count (fun x : PEntry=>!x.used) M.es : Nat):=rfl;omega
end
end T
end
section
namespace T
def Tr.links (t : Tr) : List (Int × Bool):=(0,false) :: t.is.flatMap (fun x=>[(x,false),(x,true)])
theorem Tr.links_len (t : Tr) : t.links.length = 1 + 2 * t.is.length:=by
 unfold Tr.links;have : ∀ l : List Int,(l.flatMap (fun x=>[(x,false),(x,true)])).length = 2 * l.length:=by
  intro l
  induction l with
  | nil=>rfl
  | cons a l ih=>simp only [List.flatMap_cons,List.length_append,List.length_cons,List.length_nil,ih]; omega
 simp only [List.length_cons,this]; omega
theorem Tr.mem_links {t : Tr} {x : Int} {s : Bool} : (x,s) ∈ t.links ↔ (x = 0/\s = false)\/t.Inn x:=by
 unfold Tr.links;simp only [List.mem_cons,Prod.mk.injEq,List.mem_flatMap,List.not_mem_nil,or_false];refine or_congr Iff.rfl ?_;rw [<- Tr.mem_is];constructor
 ·rintro ⟨a,ha,⟨rfl,_⟩ | ⟨rfl,_⟩⟩ <;> exact ha
 ·intro h; exact ⟨x,h,by cases s <;> simp⟩
theorem Tr.links_nodup {t : Tr} (hd : t.Dj) (hz : ¬ t.Has 0) : t.links.Nodup:=by
 unfold Tr.links;rw [List.nodup_cons];constructor
 ·rw [List.mem_flatMap];rintro ⟨a,ha,he⟩;simp at he;exact hz (Tr.inn_has (Tr.mem_is.1 (he.symm ▸ ha)))
 ·have : ∀ l : List Int,l.Nodup->(l.flatMap (fun x=>[(x,false),(x,true)])).Nodup:=by
   intro l
   induction l with
   | nil=>intro _; exact List.nodup_nil
   | cons a l ih =>
    intro hn;obtain ⟨h1,h2⟩:=List.nodup_cons.1 hn;simp only [List.flatMap_cons];refine List.nodup_append.2 ⟨by simp,ih h2,?_⟩;intro p hp q hq e;subst e;obtain ⟨b,hb,hpb⟩:=List.mem_flatMap.1 hq;simp at hp hpb;have : a = b:=by
     rcases hp with rfl | rfl <;> rcases hpb with e | e <;> simp at e <;> exact e
    subst this; exact h1 hb
  exact this _ (Tr.is_nodup hd)
theorem nodup_one {l : List Int} (h : l.Nodup) (he : ∀ a ∈ l,∀ b ∈ l,a = b) : l.length<=1:=by
 match l,h with
 | [],_=>simp
 | [_],_=>simp
 | a :: b :: r,h =>
  obtain ⟨h1,_⟩:=List.nodup_cons.1 h;exact absurd (he a (by simp) b (by simp)) (fun e=>h1 (by simp [e]))
section
variable {g g' : Gh} {T : Int} {i j : Nat} {t t' u : PThread} {P P' : PSt} {key : Int}
theorem Idle.pd (h : Inv g P) (hi : Idle P) (x : Int) (s : Bool) : Pd P.mem x s = []:=by
 cases hp : Pd P.mem x s with
 | nil=>rfl
 | cons d l =>
  exfalso;refine hi.ex ?_ (h.e.pd x s d (by rw [hp]; simp));rintro t (q | q)
  ·exact q.1
  ·exact q.1
theorem All.sweeps (h : All g P) : ∀ j,∃ g',All g' (P.swIter j)/\g'.V = g.V
 | 0=>⟨g,h,rfl⟩
 | j + 1=>by
  obtain ⟨g',h1,h2⟩:=All.sweeps h j;exact ⟨sweepG g' (P.swIter j),h1.sweep,by rw [sweepG_V]; exact h2⟩
theorem All.sweptRoom (h : All g P) (hu : UQ P.mem) (hi : Idle P) {M2 : PMem} (hM : M2 = (P.mem.drop P.clock).freesIf false 0 (retiredFrom P.mem.ns 0)) (hA : ∃ g' : Gh,Ver M2 P.ts (g'.V P.clock) P.clock/\g'.V = g.V) :
  M2.room.1 = P.mem.ns.length - (2 + 2 * (Rt g P.clock).length)/\M2.room.2 = P.mem.es.length - (1 + 2 * (Rt g P.clock).length)/\M2.ns.length = P.mem.ns.length/\M2.es.length = P.mem.es.length:=by
 have hI:=h.i;obtain ⟨d1,d2,d3,d4⟩:=drop_ok hI.wm P.clock;have hnd:=node_ns d1;have hus:=uq_drop hu P.clock;have hel : (P.mem.drop P.clock).es.length = P.mem.es.length:=(dropK P.clock P.mem.es P.mem.es.length).len;obtain ⟨M1,hM1⟩ : ∃ M1,M1 = P.mem.drop P.clock:=⟨_,rfl⟩;rw [<- hM1] at d1 d2 d3 d4 hnd hus hM hel;have hin:=inSw_new P.mem { PSweep.zero with retired:=retiredFrom P.mem.ns 0 } rfl;have hin' : ∀ x,(∃ n ∈ retiredFrom P.mem.ns 0,((n : Nat) : Int) = x) ↔ Re P.mem x:=hin;have reO : ∀ x,Re P.mem x->g.O x:=fun x hx=>hI.n.od x (hI.n.re x hx).1
 obtain ⟨f1,f2,f3⟩:=freesIf_ok false 0 (retiredFrom P.mem.ns 0) M1 d2 (by
  intro n hn;have hr:=(hin' (n : Int)).1 ⟨n,hn,rfl⟩
  have:=hI.n.ou _ (reO _ hr)
  refine ⟨hasN_used (by rw [hnd]; exact this.1),this.2.2.1,fun e=>this.2.1 (e ▸ Tr.lea_has hI.n.gt.one)⟩)
 have hus2:=uq_freesIf false 0 (retiredFrom P.mem.ns 0) hus;have hel2 : (M1.freesIf false 0 (retiredFrom P.mem.ns 0)).es.length = M1.es.length:=by
  have : ∀ (l : List Nat) (M : PMem),(M.freesIf false 0 l).es.length = M.es.length:=by
   intro l
   induction l with
   | nil=>intro M; rfl
   | cons n l ih =>
    intro M;unfold PMem.freesIf;rw [ih];split
    ·unfold PMem.free; split <;> simp
    ·rfl
  exact this _ _
 rw [<- hM] at f1 f2 f3 hus2 hel2;have gone : ∀ x,Gone M1 false 0 (retiredFrom P.mem.ns 0) x ↔ Re P.mem x:=by
  intro x;unfold Gone;rw [hin'];exact ⟨fun e=>e.1,fun e=>⟨e,fun e=>nomatch e⟩⟩
 have outRe : ∀ x,g.O x->Re P.mem x:=by
  intro x hO;rcases hI.n.ot x hO with e | e
  ·rcases hI.n.ro x e with e | e
   ·exact e
   ·exact absurd e (hi.ex (fun t h=>h.1))
  ·exact absurd e (hi.ex (fun t h=>h.1))
 have inRe : ∀ x,x = 0\/(g.V P.clock).Has x->¬ Re P.mem x:=by
  intro x hx hr;rcases hx with rfl | hx
  ·have:=hI.n.n0.2.2.2; simp only [Re] at hr; rw [this] at hr; cases hr
  ·have:=(hI.n.tn x hx).2; simp only [Re] at hr; rw [this] at hr; cases hr
 have us2 : ∀ x,Us M2 x ↔ x ∈ 0 :: (g.V P.clock).ns:=by
  intro x;rw [List.mem_cons,Tr.mem_ns];constructor
  ·intro hx;have hng : ¬ Re P.mem x:=by
    intro hr
    have:=((f3 x).1 ((gone x).2 hr)).1
    simp only [Us] at hx; rw [this] at hx; cases hx
   have hnode:=((f3 x).2 (fun e=>hng ((gone x).1 e))).1;simp only [Us] at hx; rw [hnode,hnd] at hx;rcases hI.n.us x hx with e | e | e | e
   ·exact .inl e
   ·exact .inr e
   ·exact absurd (outRe x e) hng
   ·exact absurd e (hi.ex (fun t h=>h.1))
  ·intro hx;have hng:=inRe x hx;have hnode:=((f3 x).2 (fun e=>hng ((gone x).1 e))).1;simp only [Us]; rw [hnode,hnd];rcases hx with rfl | hx
   ·exact hI.n.n0.1
   ·exact (hI.n.inn hx).2.1
 have sd2 : ∀ x s st d,Sd M2 x s st d->¬ Re P.mem x/\Sd M1 x s st d:=by
  intro x s st d hd;by_cases hr : Re P.mem x
  ·exact absurd hd (((f3 x).1 ((gone x).2 hr)).2.2 s st d)
  ·exact ⟨hr,(((f3 x).2 (fun e=>hr ((gone x).1 e))).2.2 s st d).1 hd⟩
 have pd2 : ∀ x s,Pd M2 x s = []:=by
  intro x s;by_cases hr : Re P.mem x
  ·exact ((f3 x).1 ((gone x).2 hr)).2.1 s
  ·rw [((f3 x).2 (fun e=>hr ((gone x).1 e))).2.1 s,d3]; exact Idle.pd hI hi x s
 have hlen:=Rt_len hI.n.gt;have r1:=room1_of (M:=M2) (0 :: (g.V P.clock).ns) (List.nodup_cons.2 ⟨fun e=>hI.n.gt.z (Tr.mem_ns.1 e),Tr.ns_nodup hI.n.gt.dj⟩) us2;have r2:=room2_of (M:=M2) pd2 (g.V P.clock).links (Tr.links_nodup hI.n.gt.dj hI.n.gt.z) ?_ ?_
 ·rw [List.length_cons,Tr.ns_len,Tr.size_is] at r1;rw [Tr.links_len] at r2;rw [r1,r2,f2,hel2,hel,hlen];have : M1.ns.length = P.mem.ns.length:=by rw [d1]
  rw [this];refine ⟨?_,?_,rfl,rfl⟩ <;> omega
 ·intro x s;rw [Tr.mem_links];constructor
  ·intro hne;obtain ⟨st,hst⟩:=List.exists_mem_of_ne_nil _ hne;obtain ⟨d,hd⟩:=mem_SL.1 hst;obtain ⟨q1,q2⟩:=sd2 x s st d hd;have hms:=hI.e.ms x s st d ((d4 x s st d).1 q2).1;rcases hI.n.us x hms.1 with e | e | e | e
   ·left;refine ⟨e,?_⟩;subst e
    have:=hI.n.n0.2.1
    have h4:=hms.2.2.2;simp only [Ln] at this h4; rw [this] at h4;cases s
    ·rfl
    ·simp [b2i] at h4
   ·right
    have:=hI.n.inn e
    rcases this.2.2 with z | z
    ·have h4:=hms.2.2.2;simp only [Ln] at z h4; rw [z] at h4;cases s <;> simp [b2i] at h4
    ·exact this.1.1 z
   ·exact absurd (outRe x e) q1
   ·exact absurd e (hi.ex (fun t h=>h.1))
  ·intro hx e0;obtain ⟨g',hv,hg'⟩:=hA;obtain ⟨d,hd⟩ : ∃ d,A (g'.V P.clock) x s d:=by
    rw [hg'];rcases hx with ⟨rfl,rfl⟩ | hx
    ·exact ⟨_,Tr.ed_pl 0 false _⟩
    ·exact Tr.inn_ed 0 false s hx
   obtain ⟨st,e1,_⟩:=hv.e x s d hd;rcases e1 with e1 | ⟨e1,_⟩
   ·have:=mem_SL.2 ⟨d,e1⟩
    rw [e0] at this; cases this
   ·exact absurd e1 (hi.ex (fun t h=>h.1))
 ·intro x s;refine nodup_one (hus2 x s) ?_;intro a ha b hb;obtain ⟨da,ha⟩:=mem_SL.1 ha;obtain ⟨db,hb⟩:=mem_SL.1 hb;have ha:=(d4 _ _ _ _).1 (sd2 _ _ _ _ ha).2;have hb:=(d4 _ _ _ _).1 (sd2 _ _ _ _ hb).2;have ca:=(hI.e.ms _ _ _ _ ha.1).2.2.1;have cb:=(hI.e.ms _ _ _ _ hb.1).2.2.1;rcases (show a < b\/b < a\/a = b by omega) with e | e | e
  ·exact absurd cb (ha.2 b db hb.1 e)
  ·exact absurd ca (hb.2 a da ha.1 e)
  ·exact e
end
end T
end
section
namespace T
theorem pend_elen (M : PMem) (n : Int) (s : Bool) (to : Int) : (M.pend n s to).es.length = M.es.length:=by unfold PMem.pend; split <;> simp [PMem.setE]
theorem addLink_elen (M : PMem) (n to : Int) : (M.addLink n to).es.length = M.es.length:=by
 unfold PMem.addLink;split
 ·split
  ·rw [pend_elen,modN_ents]
  ·rw [pend_elen,modN_ents]
  ·rfl
 ·rfl
theorem unpend_elen (M : PMem) (n : Int) (s : Bool) : (M.unpend n s).es.length = M.es.length:=by unfold PMem.unpend; split <;> simp [PMem.setE]
theorem stamp_elen (M : PMem) (n : Int) (s : Bool) (st : Int) : (M.stamp n s st).es.length = M.es.length:=by unfold PMem.stamp; split <;> simp [PMem.setE]
theorem free_elen (M : PMem) (n : Int) : (M.free n).es.length = M.es.length:=by unfold PMem.free; split <;> simp
theorem frees_elen : ∀ (l : List Int) (M : PMem),(M.frees l).es.length = M.es.length
 | [],_=>rfl
 | n :: l,M=>by show ((M.free n).frees l).es.length = _; rw [frees_elen l,free_elen]
theorem stampsNew_elen (st : Int) : ∀ (l : List Int) (M : PMem),(M.stampsNew st l).es.length = M.es.length
 | [],_=>rfl
 | n :: l,M=>by
  show ((M.stampNew n st).stampsNew st l).es.length = _;rw [stampsNew_elen st l];unfold PMem.stampNew;rw [stamp_elen,stamp_elen]
section
variable {g g' : Gh} {i j : Nat} {t t' u : PThread} {P P' : PSt}
theorem Inv.elen (h : Inv g P) (ht : P.ts[i]? = some t) (hb : t.busy = true) : (P.step i t).1.mem.es.length = P.mem.es.length/\(P.step i t).1.limit = P.limit/\(P.step i t).1.sweep = P.sweep:=by
 obtain ⟨P',n,hs,ho⟩:=h.out ht hb;rw [hs];cases ho with
 | lock=>exact ⟨by show (P.mem.modN _ _).es.length = _; rw [modN_ents],rfl,rfl⟩
 | prepI hn hk hr1 hr2 a n M1 ep =>
  refine ⟨?_,rfl,rfl⟩;show M1.es.length = _;have : M1 = (P.prepareInsert t.work).1:=by rw [ep]
  rw [this];unfold PSt.prepareInsert;simp only;split
  ·show ((((P.mem.make _ _).1.addLink _ _).pend _ _ _)).es.length = _;rw [pend_elen,addLink_elen,make_es]
  ·show ((((P.mem.make _ _).1.join _ _).1.pend _ _ _)).es.length = _;rw [pend_elen];unfold PMem.join;simp only;rw [addLink_elen,addLink_elen,make_es,make_es]
 | prepR hn hk hr M1 em=>exact ⟨by show M1.es.length = _; rw [em,pend_elen],rfl,rfl⟩
 | late hn hk hl M1 em=>exact ⟨by show M1.es.length = _; rw [em,frees_elen,unpend_elen],rfl,rfl⟩
 | takeI hn hk hl a n q M1 em=>exact ⟨by show M1.es.length = _; rw [em,stampsNew_elen],rfl,rfl⟩
 | kill hn hk M1 em es=>exact ⟨by show M1.es.length = _; rw [es],rfl,rfl⟩
 | link hn hk M1 em es=>exact ⟨by show M1.es.length = _; rw [es],rfl,rfl⟩
 | stamp hn hk d0 hp M1 em=>exact ⟨by show M1.es.length = _; rw [em,stamp_elen],rfl,rfl⟩
 | unlock hn hk M1 em es=>exact ⟨by show M1.es.length = _; rw [es],rfl,rfl⟩
 | _=>exact ⟨rfl,rfl,rfl⟩
def Solo (P : PSt) (i : Nat) : Prop:=∀ (j : Nat) u,P.ts[j]? = some u->j≠i->u.busy = false
theorem iter_succ (ht : P.ts[i]? = some t) : ∀ j,P.iter i (j + 1) = (P.step i t).1.iter i j:=by
 have hth : P.th i = t:=by unfold PSt.th; rw [ht]; rfl
 intro j
 induction j with
 | zero=>show (P.step i (P.th i)).1 = _; rw [hth]; rfl
 | succ j ih =>
  show ((P.iter i (j + 1)).step i ((P.iter i (j + 1)).th i)).1 = (((P.step i t).1.iter i j).step i (((P.step i t).1.iter i j).th i)).1;rw [ih]
theorem how_zero (ht : P.ts[i]? = some t) : P.how i 0 = (P.step i t).2:=by
 have hth : P.th i = t:=by unfold PSt.th; rw [ht]; rfl
 show (P.step i (P.th i)).2 = _;rw [hth]
theorem how_succ (ht : P.ts[i]? = some t) (j : Nat) : P.how i (j + 1) = (P.step i t).1.how i j:=by
 unfold PSt.how;rw [iter_succ ht]
theorem Inv.outs (h : Inv g P) (ht : P.ts[i]? = some t) (hb : t.busy = true) : ((P.step i t).2 = 1/\∃ t',(P.step i t).1.ts = P.ts.set i t'/\t'.busy = true/\t.work.next≠13)\/(P.step i t).2 = 2\/((P.step i t).2 = 3/\t.work.next = 13/\(P.step i t).1 = { P with ts:=P.ts.set i t.leave }):=by
 obtain ⟨P',n,hs,ho⟩:=h.out ht hb;rw [hs];cases ho with
 | leave hn=>exact .inr (.inr ⟨rfl,hn,rfl⟩)
 | rwait=>exact .inr (.inl rfl)
 | lwait=>exact .inr (.inl rfl)
 | _=>exact .inl ⟨rfl,_,rfl,hb,by omega⟩
theorem solo_end {L : Nat} (Z : PSt->Prop) (hZ : ∀ (Q : PSt) (t : PThread),Z Q->Q.ts[i]? = some t->t.busy = true->(Q.step i t).2 = 1->Z (Q.step i t).1) :
  ∀ (n : Nat) (P : PSt) (g : Gh) (t : PThread),All g P->Solo P i->P.ts[i]? = some t->t.busy = true->P.mem.ns.length = L->phi L g P.mem P.clock P.ts 0 t<=n->Z P ->
   ∃ m,m + 1<=n/\(∀ j,j < m->P.how i j = 1)/\P.how i m = 3/\Z (P.iter i m)/\∃ g' t',All g' (P.iter i m)/\Solo (P.iter i m) i/\(P.iter i m).ts[i]? = some t'/\t'.busy = true/\t'.work.next = 13:=by
 intro n
 induction n with
 | zero =>
  intro P g t hA hS ht hb hl hp _;exfalso;have hmv : (P.step i t).2≠2:=by
   obtain ⟨j,u,h1,h2,h3,_⟩:=hA.i.live ht hb;by_cases e : j = i
   ·subst e; rw [ht] at h1; injection h1 with h1; subst h1; exact h3
   ·rw [hS j u h1 e] at h2; cases h2
  obtain ⟨t',_,e2⟩:=hA.i.near (n:=0) (n':=0) hA.v hA.r hl ht hb hmv (Nat.le_refl _);omega
 | succ n ih =>
  intro P g t hA hS ht hb hl hp hz;have hi:=(List.getElem?_eq_some_iff.1 ht).1;have hmv : (P.step i t).2≠2:=by
   obtain ⟨j,u,h1,h2,h3,_⟩:=hA.i.live ht hb;by_cases e : j = i
   ·subst e; rw [ht] at h1; injection h1 with h1; subst h1; exact h3
   ·rw [hS j u h1 e] at h2; cases h2
  rcases hA.i.outs ht hb with ⟨o1,t1,o2,o3,_⟩ | o | ⟨o1,o2,_⟩
  ·obtain ⟨t',e1,e2⟩:=hA.i.near (n:=0) (n':=0) hA.v hA.r hl ht hb hmv (Nat.le_refl _);have et : t1 = t':=by
    have : (P.ts.set i t1)[i]? = (P.ts.set i t')[i]?:=by rw [<- o2,e1]
    simp [hi] at this; exact this
   subst et;have hts1 : (P.step i t).1.ts[i]? = some t1:=by rw [o2]; simp [hi]
   obtain ⟨m,m1,m2,m3,m4,m5⟩:=ih (P.step i t).1 (nextG g P i t) t1 (hA.step ht hb) (by
    intro j u hj hne;rw [o2,List.getElem?_set_ne (Ne.symm hne)] at hj;exact hS j u hj hne) hts1 o3 (by rw [step_len]; exact hl) (by omega) (hZ P t hz ht hb o1)
   refine ⟨m + 1,by omega,?_,by rw [how_succ ht]; exact m3,by rw [iter_succ ht]; exact m4,by rw [iter_succ ht]; exact m5⟩;intro j hj;cases j with
   | zero=>rw [how_zero ht]; exact o1
   | succ j=>rw [how_succ ht]; exact m2 j (by omega)
  ·exact absurd o hmv
  ·exact ⟨0,by omega,by omega,by rw [how_zero ht]; exact o1,hz,g,t,hA,hS,ht,hb,o2⟩
end
end T
end
end Go.Proofs.YtfccelbmacjifabGreat
