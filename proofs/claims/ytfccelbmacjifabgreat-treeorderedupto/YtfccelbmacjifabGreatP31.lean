import Derived.Test.YtfccelbmacjifabGreatP0
import Derived.Test.YtfccelbmacjifabGreatP30
import Derived.Test.YtfccelbmacjifabGreatP26
set_option linter.unusedSimpArgs false
set_option maxRecDepth 100000
set_option maxHeartbeats 4000000
namespace Go.Proofs.YtfccelbmacjifabGreat
section
namespace T
def SL (M : PMem) (x : Int) (s : Bool) : List Int:=(M.es.filter (isSt x s)).map PEntry.stamp
def UQ (M : PMem) : Prop:=∀ x s,(SL M x s).Nodup
theorem mem_SL {M : PMem} {x st : Int} {s : Bool} : st ∈ SL M x s ↔ ∃ d,Sd M x s st d:=by
 unfold SL Sd;rw [List.mem_map];constructor
 ·rintro ⟨e,he,rfl⟩;rw [List.mem_filter] at he;exact ⟨e.dst,e,he.1,he.2,rfl,rfl⟩
 ·rintro ⟨d,e,he,hs,rfl,_⟩;exact ⟨e,List.mem_filter.2 ⟨he,hs⟩,rfl⟩
theorem sl_es {M M' : PMem} (h : M'.es = M.es) (x : Int) (s : Bool) : SL M' x s = SL M x s:=by unfold SL; rw [h]
theorem filt_ins {α β : Type} (p : α->Bool) (f : α->β) : ∀ {l : List α} {k : Nat} {x : α} (y : α),l[k]? = some x->p x = false->p y = true->List.Perm (((l.set k y).filter p).map f) (f y :: (l.filter p).map f)
 | [],k,x,y,h=>by simp at h
 | z :: r,0,x,y,h=>by
  intro hx hy;simp at h; subst h;simp [hx,hy]
 | z :: r,k + 1,x,y,h=>by
  intro hx hy;have ih:=filt_ins p f y (l:=r) (k:=k) (by simpa using h) hx hy;simp only [List.set_cons_succ,List.filter_cons];split
  ·simp only [List.map_cons];exact (ih.cons _).trans (List.Perm.swap _ _ _)
  ·exact ih
theorem sl_setE {M : PMem} {k : Nat} {e y : PEntry} (h : M.es[k]? = some e) (h1 : ∀ x s,isSt x s e = false) (h2 : ∀ x s,isSt x s y = false) (x : Int) (s : Bool) : SL { M with es:=M.es.set k y } x s = SL M x s:=filt_set _ _ h _ (h1 x s) (h2 x s)
theorem sl_pend (M : PMem) (n : Int) (b : Bool) (to : Int) (x : Int) (s : Bool) : SL (M.pend n b to) x s = SL M x s:=by
 unfold PMem.pend;split
 ·next hc =>
  rcases find_bd (fun e : PEntry=>!e.used) M.es 0 with ⟨q,_⟩ | ⟨k,e,h1,h2,h3,_⟩
  ·exfalso;have hq : M.freeEntry = -1:=q;rw [hq] at hc;simp [PMem.hasEntry,isIn] at hc
  ·have hk : M.freeEntry = (k : Int):=h3.trans (by simp);rw [hk];show SL { M with es:=M.es.set (k : Int).toNat _ } x s = _;rw [Int.toNat_natCast];refine sl_setE h1 (fun x s=>?_) (fun x s=>by simp [isSt]) x s;have : e.used = false:=by simpa using h2
   simp [isSt,this]
 ·rfl
theorem sl_addLink (M : PMem) (n to x : Int) (s : Bool) : SL (M.addLink n to) x s = SL M x s:=by
 unfold PMem.addLink;split
 ·split
  ·rw [sl_pend]; exact sl_es (modN_ents _ _ _) _ _
  ·rw [sl_pend]; exact sl_es (modN_ents _ _ _) _ _
  ·rfl
 ·rfl
theorem make_es (M : PMem) (a b : Int) : (M.make a b).1.es = M.es:=by unfold PMem.make; split <;> rfl
theorem uq_stamp {M : PMem} {n st : Int} {b : Bool} (h : UQ M) (hs : ∀ st' d,Sd M n b st' d->st'≠st) : UQ (M.stamp n b st):=by
 unfold PMem.stamp;split
 ·next hc =>
  rcases find_bd (isPd n b) M.es 0 with ⟨q,_⟩ | ⟨k,e,h1,h2,h3,_⟩
  ·exfalso;have hq : M.pending n b = -1:=q;rw [hq] at hc;simp [PMem.hasEntry,isIn] at hc
  ·have hk : M.pending n b = (k : Int):=h3.trans (by simp);rw [hk];have he : M.ent (k : Int) = e:=by simp [PMem.ent,h1]
   rw [he];intro x s;show (SL { M with es:=M.es.set (k : Int).toNat { e with pending:=false,stamp:=st } } x s).Nodup;rw [Int.toNat_natCast];cases hy : isSt x s { e with pending:=false,stamp:=st }
   ·have : SL { M with es:=M.es.set k { e with pending:=false,stamp:=st } } x s = SL M x s:=filt_set _ _ h1 _ (isSt_pd h2 x s) hy;rw [this]; exact h x s
   ·have hp:=filt_ins (isSt x s) PEntry.stamp { e with pending:=false,stamp:=st } h1 (isSt_pd h2 x s) hy;show (((M.es.set k { e with pending:=false,stamp:=st }).filter (isSt x s)).map PEntry.stamp).Nodup;rw [hp.nodup_iff];refine List.nodup_cons.2 ⟨?_,h x s⟩;intro hm;have hxs : x = n/\s = b:=by
     simp only [isPd,Bool.and_eq_true,beq_iff_eq] at h2;simp only [isSt,Bool.and_eq_true,beq_iff_eq] at hy;exact ⟨hy.2.2.1.symm.trans h2.2.1,hy.2.2.2.symm.trans h2.2.2⟩
    obtain ⟨d,hd⟩:=mem_SL.1 hm;rw [hxs.1,hxs.2] at hd;exact hs st d hd rfl
 ·exact h
theorem sl_free (M : PMem) (n x : Int) (s : Bool) : List.Sublist (SL (M.free n) x s) (SL M x s):=by
 unfold PMem.free;split
 ·unfold SL;simp only;have : ∀ l : List PEntry,List.Sublist (((l.map fun e=>if ofNode n e then PEntry.zero else e).filter (isSt x s)).map PEntry.stamp) ((l.filter (isSt x s)).map PEntry.stamp):=by
   intro l
   induction l with
   | nil=>exact List.Sublist.refl _
   | cons a l ih =>
    simp only [List.map_cons,List.filter_cons];by_cases ho : ofNode n a = true
    ·simp only [ho,if_true,isSt_z,Bool.false_eq_true,if_false];split
     ·exact ih.cons _
     ·exact ih
    ·simp only [ho,if_false,Bool.false_eq_true];split
     ·simp only [List.map_cons]; exact ih.cons_cons _
     ·exact ih
  exact this _
 ·exact List.Sublist.refl _
theorem uq_free {M : PMem} (h : UQ M) (n : Int) : UQ (M.free n):=fun x s=>(h x s).sublist (sl_free M n x s)
theorem uq_freesIf (ht : Bool) (tm : Int) : ∀ (l : List Nat) {M : PMem},UQ M->UQ (M.freesIf ht tm l)
 | [],_,h=>h
 | n :: l,M,h=>by
  unfold PMem.freesIf;refine uq_freesIf ht tm l ?_;split
  ·exact uq_free h _
  ·exact h
theorem sl_set0 {M : PMem} {k : Nat} (x : Int) (s : Bool) : List.Sublist (SL { M with es:=M.es.set k PEntry.zero } x s) (SL M x s):=by
 unfold SL;simp only;have : ∀ (l : List PEntry) (k : Nat),List.Sublist (((l.set k PEntry.zero).filter (isSt x s)).map PEntry.stamp) ((l.filter (isSt x s)).map PEntry.stamp):=by
  intro l
  induction l with
  | nil=>intro k; exact List.Sublist.refl _
  | cons a l ih =>
   intro k;cases k with
   | zero =>
    simp only [List.set_cons_zero,List.filter_cons,isSt_z,Bool.false_eq_true,if_false];split
    ·simp only [List.map_cons]; exact (List.Sublist.refl _).cons _
    ·exact List.Sublist.refl _
   | succ k =>
    simp only [List.set_cons_succ,List.filter_cons];split
    ·simp only [List.map_cons]; exact (ih k).cons_cons _
    ·exact ih k
 exact this _ _
theorem uq_drop {M : PMem} (h : UQ M) (e : Int) : UQ (M.drop e):=by
 have : ∀ k,UQ { M with es:=dropTo e M.es k }:=by
  intro k
  induction k with
  | zero=>exact h
  | succ k ih =>
   show UQ { M with es:=dropOne e (dropTo e M.es k) k };unfold dropOne;split
   ·split
    ·exact fun x s=>(ih x s).sublist (sl_set0 (M:={ M with es:=dropTo e M.es k }) x s)
    ·exact ih
   ·exact ih
 exact this _
section
variable {g g' : Gh} {T : Int} {i j : Nat} {t t' u : PThread} {P P' : PSt} {key : Int}
theorem uq_sweep (hu : UQ P.mem) : UQ P.doSweep.1.mem:=by
 unfold PSt.doSweep;simp only;split
 ·exact hu
 ·split
  ·split <;> exact hu
  ·split
   ·exact uq_drop hu _
   ·exact uq_freesIf _ _ _ hu
end
theorem uq_fresh {T N E L : Int} (hE : 1<=E) : UQ (freshP 1 T N E L).mem:=by
 show UQ (freshMem N.toNat E.toNat);unfold freshMem;have h0 : UQ ⟨freshNodes N.toNat,List.replicate E.toNat PEntry.zero⟩:=by
  intro x s;have : SL ⟨freshNodes N.toNat,List.replicate E.toNat PEntry.zero⟩ x s = []:=by
   unfold SL;rw [List.filter_eq_nil_iff.2]
   ·rfl
   ·intro e he; rw [(List.mem_replicate.1 he).2,isSt_z]; decide
  rw [this]; exact List.nodup_nil
 have h1 : ∀ x s st d,¬ Sd ((⟨freshNodes N.toNat,List.replicate E.toNat PEntry.zero⟩ : PMem).addLink 0 1) x s st d:=by
  intro x s st d hd
  have:=mem_SL.2 ⟨d,hd⟩
  rw [sl_addLink] at this;obtain ⟨d',e,he,hh,_⟩:=mem_SL.1 this;have he : e ∈ List.replicate E.toNat PEntry.zero:=he;rw [(List.mem_replicate.1 he).2,isSt_z] at hh; cases hh
 have h2 : UQ ((⟨freshNodes N.toNat,List.replicate E.toNat PEntry.zero⟩ : PMem).addLink 0 1):=fun x s=>by rw [sl_addLink]; exact h0 x s
 unfold PMem.stampNew;refine uq_stamp (uq_stamp h2 (fun st' d hd=>absurd hd (h1 _ _ _ _))) ?_;intro st' d hd
 -- only the first link has an entry
 obtain ⟨_,_,_,_,w5⟩:=fresh_seen N.toNat E.toNat (by omega);intro e;subst e;have hfm : freshMem N.toNat E.toNat = (((⟨freshNodes N.toNat,List.replicate E.toNat PEntry.zero⟩ : PMem).addLink 0 1).stamp 0 false 0).stamp 0 true 0:=rfl;have hm:=mem_SL.2 ⟨d,hd⟩;obtain ⟨M1,hM1⟩ : ∃ M1,M1 = ((⟨freshNodes N.toNat,List.replicate E.toNat PEntry.zero⟩ : PMem).addLink 0 1).stamp 0 false 0:=⟨_,rfl⟩;rw [<- hM1] at hd hm hfm
 -- an entry that is stamped stays
 have keep : ∃ d',Sd (freshMem N.toNat E.toNat) 0 true 0 d':=by
  rw [hfm];unfold PMem.stamp;split
  ·next hc =>
   rcases find_bd (isPd 0 true) M1.es 0 with ⟨q,_⟩ | ⟨k,e,g1,g2,g3,_⟩
   ·exfalso;have hq : M1.pending 0 true = -1:=q;rw [hq] at hc;simp [PMem.hasEntry,isIn] at hc
   ·have hk : M1.pending 0 true = (k : Int):=g3.trans (by simp);rw [hk];refine ⟨d,?_⟩;show Sd { M1 with es:=M1.es.set (k : Int).toNat _ } 0 true 0 d;rw [Int.toNat_natCast];exact (sd_set g1 (isSt_pd g2) _ _ _ _).2 (.inl hd)
  ·exact ⟨d,hd⟩
 obtain ⟨d',hd'⟩:=keep
 have:=((w5 _ _ _ _).1 hd').2.1
 cases this
end T
end
section
section
variable {P : PSt}
end
end
section
namespace T
namespace Tr
def is : Tr->List Int
 | lf _ _ _=>[]
 | nd p _ l r=>p :: (l.is ++ r.is)
variable {t : Tr} {x : Int}
theorem rows_len (t : Tr) : t.rows.length = t.is.length + 1:=by
 induction t with
 | lf=>simp [rows,is]
 | nd p q l r h1 h2=>simp [rows,is,h1,h2]; omega
theorem size_is (t : Tr) : t.size = 2 * t.is.length + 1:=by
 induction t with
 | lf=>simp [size,is]
 | nd p q l r h1 h2=>simp [size,is,h1,h2]; omega
end Tr
theorem nodup_leA {α : Type} [DecidableEq α] : ∀ {l m : List α},l.Nodup->(∀ x ∈ l,x ∈ m)->l.length<=m.length
 | [],_,_,_=>by simp
 | x :: l,m,hn,hs=>by
  obtain ⟨h1,h2⟩:=List.nodup_cons.1 hn;have hx:=hs x (by simp)
  have:=nodup_leA (l:=l) (m:=m.erase x) h2 (fun y hy=>by
   refine (List.mem_erase_of_ne ?_).2 (hs y (by simp [hy]));rintro rfl; exact h1 hy)
  rw [List.length_erase_of_mem hx] at this;have : 0 < m.length:=List.length_pos_of_mem hx
  simp; omega
theorem nodup_eqA {α : Type} [DecidableEq α] {l m : List α} (h1 : l.Nodup) (h2 : m.Nodup) (h : ∀ x,x ∈ l ↔ x ∈ m) : l.length = m.length :=
 Nat.le_antisymm (nodup_leA h1 (fun x hx=>(h x).1 hx)) (nodup_leA h2 (fun x hx=>(h x).2 hx))
theorem map_nodup {α β : Type} [DecidableEq β] (f : α->β) : ∀ (l : List α),(∀ y,(l.filter (fun e=>decide (f e = y))).length<=1)->(l.map f).Nodup
 | [],_=>List.nodup_nil
 | a :: l,h=>by
  simp only [List.map_cons,List.nodup_cons];refine ⟨?_,map_nodup f l (fun y=>?_)⟩
  ·intro hm;obtain ⟨b,hb,e⟩:=List.mem_map.1 hm
   have:=h (f a)
   simp only [List.filter_cons,decide_true,if_true,List.length_cons] at this;have h2 : 0 < (l.filter (fun e=>decide (f e = f a))).length:=List.length_pos_of_mem (List.mem_filter.2 ⟨hb,by simpa using e⟩);omega
  ·have:=h y
   simp only [List.filter_cons] at this;split at this
   ·simp only [List.length_cons] at this; omega
   ·exact this
theorem count_not {α : Type} (p : α->Bool) (l : List α) : count (fun x=>!p x) l + count p l = l.length:=by
 induction l with
 | nil=>rfl
 | cons a l ih=>unfold count at *; simp only [List.filter_cons,List.length_cons]; cases p a <;> simp <;> omega
section
variable {g g' : Gh} {T : Int} {i j : Nat} {t t' u : PThread} {P P' : PSt} {key : Int}
theorem Rt_len (h : Gt (g.V T)) : (Rt g T).length = (g.V T).is.length:=by
 have h1:=Tr.rows_len (g.V T);have hs:=Tr.rows_srt h.ok;have h2 : ((g.V T).rows).filter (fun p=>!decide (p.1<=1099511627776)) = [(1099511627777,0)]:=by
  refine srt_ext (List.Pairwise.filter _ hs) (by simp [Srt]) ?_;rintro ⟨k,v⟩;rw [List.mem_filter,Tr.mem_rows];constructor
  ·rintro ⟨⟨x,hx⟩,hk⟩;simp at hk;by_cases e : x = 1
   ·subst e;have e1:=Tr.goal_key h.ok hx;have e2:=lea_fn h.dj hx h.one;subst e2;have e3:=Tr.goal_key h.ok h.one;rw [e1] at e3;simp at e3 ⊢; exact e3
   ·have:=h.kr x k v hx e; omega
  ·intro e;simp at e;obtain ⟨rfl,rfl⟩:=e;exact ⟨⟨1,h.one⟩,by decide⟩
 have h3:=count_not (fun p : Int × Int=>decide (p.1<=1099511627776)) (g.V T).rows;unfold count at h3;rw [h2] at h3;unfold Rt;simp only [List.length_singleton] at h3;omega
def Idle (P : PSt) : Prop:=∀ t ∈ P.ts,t.busy = false
theorem room1_of {M : PMem} (L : List Int) (hn : L.Nodup) (h : ∀ x,Us M x ↔ x ∈ L) : M.room.1 = M.ns.length - L.length:=by
 have h1:=count_not (fun x : PNode=>x.used) M.ns;have h2 : count (fun x : PNode=>x.used) M.ns = L.length:=by
  have h3 : count (fun x : PNode=>x.used) M.ns = ((List.range M.ns.length).filter (fun (n : Nat)=>(M.node (n : Int)).used)).length:=by
   have : ∀ (l : List PNode) (k : Nat),(∀ (j : Nat) e,l[j]? = some e->(M.node ((k + j : Nat) : Int)).used = e.used)->count (fun x : PNode=>x.used) l = ((List.range' k l.length).filter (fun (n : Nat)=>(M.node (n : Int)).used)).length:=by
    intro l
    induction l with
    | nil=>intro k _; rfl
    | cons a l ih =>
     intro k hk;have i1:=ih (k + 1) (fun j e he=>by have:=hk (j + 1) e (by simpa using he); rw [show k + 1 + j = k + (j + 1) by omega]; exact this);have i2:=hk 0 a rfl;unfold count at *;simp only [Nat.add_zero] at i2;simp only [List.length_cons,List.range'_succ,List.filter_cons,i2];split <;> simp [i1]
   rw [List.range_eq_range'];refine this M.ns 0 (fun j e he=>?_);rw [Nat.zero_add,(node_get he).1]
  rw [h3];have h4 : ((List.range M.ns.length).filter (fun (n : Nat)=>(M.node (n : Int)).used)).length = (((List.range M.ns.length).filter (fun (n : Nat)=>(M.node (n : Int)).used)).map (fun (n : Nat)=>(n : Int))).length:=by simp
  rw [h4];refine nodup_eqA ?_ hn ?_
  ·refine List.Pairwise.map _ ?_ (List.Pairwise.filter _ List.nodup_range);intro a b hab e;exact hab (by omega)
  ·intro x;rw [List.mem_map,<- h x];constructor
   ·rintro ⟨n,hn,rfl⟩;exact (List.mem_filter.1 hn).2
   ·intro hu
    have:=hasN_iff.1 (hasN_used hu)
    refine ⟨x.toNat,List.mem_filter.2 ⟨by simp; omega,?_⟩,by omega⟩;have e : ((x.toNat : Nat) : Int) = x:=by omega
    rw [e]; exact hu
 have e1 : M.room.1 = (count (fun x : PNode=>!x.used) M.ns : Nat):=rfl;omega
theorem room2_of {M : PMem} (hp : ∀ x s,Pd M x s = []) (L : List (Int × Bool)) (hn : L.Nodup) (h : ∀ x s,SL M x s≠[] ↔ (x,s) ∈ L) (h1 : ∀ x s,(SL M x s).length<=1) : M.room.2 = M.es.length - L.length:=by
 have h2:=count_not (fun x : PEntry=>x.used) M.es;have nop : ∀ e ∈ M.es,e.used = true->isSt e.src e.side e = true:=by
  intro e he hu;have : e.pending = false:=by
   cases hq : e.pending
   ·rfl
   ·exfalso
    have:=hp e.src e.side
    unfold Pd at this;simp at this;have h3:=this e he;simp [isPd,hq] at h3
  simp [isSt,hu,this]
 have key : ∀ x s,(M.es.filter (fun e=>e.used)).filter (fun e=>decide ((e.src,e.side) = (x,s))) = M.es.filter (isSt x s):=by
  intro x s;rw [List.filter_filter];apply List.filter_congr;intro e he;rw [Bool.eq_iff_iff];simp only [Bool.and_eq_true,decide_eq_true_eq,Prod.mk.injEq];constructor
  ·rintro ⟨⟨e1,e2⟩,e3⟩
   have:=nop e he e3
   rw [e1,e2] at this; exact this
  ·intro hs;simp only [isSt,Bool.and_eq_true,beq_iff_eq] at hs;exact ⟨⟨hs.2.2.1,hs.2.2.2⟩,hs.1⟩
 have h3 : count (fun x : PEntry=>x.used) M.es = L.length:=by
  have e1 : count (fun x : PEntry=>x.used) M.es = ((M.es.filter (fun e=>e.used)).map (fun e=>(e.src,e.side))).length:=by simp [count]
  rw [e1];refine nodup_eqA (map_nodup _ _ ?_) hn ?_
  ·rintro ⟨x,s⟩;rw [key]
   have:=h1 x s
   unfold SL at this;simpa using this
  ·rintro ⟨x,s⟩;rw [<- h x s];constructor
   ·intro hm;obtain ⟨e,he,ee⟩:=List.mem_map.1 hm;have : e ∈ M.es.filter (isSt x s):=by rw [<- key]; exact List.mem_filter.2 ⟨he,by simpa using ee⟩
    intro e0;have hm2 : e.stamp ∈ SL M x s:=List.mem_map.2 ⟨e,this,rfl⟩;rw [e0] at hm2; cases hm2
   ·intro hne;obtain ⟨st,hst⟩:=List.exists_mem_of_ne_nil _ hne;obtain ⟨e,he,_⟩:=List.mem_map.1 hst;rw [<- key] at he;obtain ⟨q1,q2⟩:=List.mem_filter.1 he;exact List.mem_map.2 ⟨e,q1,by simpa using q2⟩
 have e1 : M.room.2 = (count (fun x : PEntry=>!x.used) M.es : Nat):=rfl;omega
end
end T
end
section
namespace T
theorem nodup_one {l : List Int} (h : l.Nodup) (he : ∀ a ∈ l,∀ b ∈ l,a = b) : l.length<=1:=by
 match l,h with
 | [],_=>simp
 | [_],_=>simp
 | a :: b :: r,h =>
  obtain ⟨h1,_⟩:=List.nodup_cons.1 h;exact absurd (he a (by simp) b (by simp)) (fun e=>h1 (by simp [e]))
section
variable {g g' : Gh} {T : Int} {i j : Nat} {t t' u : PThread} {P P' : PSt} {key : Int}
end
end T
end
section
namespace T
theorem pend_elen (M : PMem) (n : Int) (s : Bool) (to : Int) : (M.pend n s to).es.length = M.es.length:=by unfold PMem.pend; split <;> simp [PMem.setE]
theorem addLink_elen (M : PMem) (n to : Int) : (M.addLink n to).es.length = M.es.length:=by
 unfold PMem.addLink;split
 ·split
  ·rw [pend_elen,modN_ents]
  ·rw [pend_elen,modN_ents]
  ·rfl
 ·rfl
theorem unpend_elen (M : PMem) (n : Int) (s : Bool) : (M.unpend n s).es.length = M.es.length:=by unfold PMem.unpend; split <;> simp [PMem.setE]
theorem stamp_elen (M : PMem) (n : Int) (s : Bool) (st : Int) : (M.stamp n s st).es.length = M.es.length:=by unfold PMem.stamp; split <;> simp [PMem.setE]
theorem free_elen (M : PMem) (n : Int) : (M.free n).es.length = M.es.length:=by unfold PMem.free; split <;> simp
theorem frees_elen : ∀ (l : List Int) (M : PMem),(M.frees l).es.length = M.es.length
 | [],_=>rfl
 | n :: l,M=>by show ((M.free n).frees l).es.length = _; rw [frees_elen l,free_elen]
theorem stampsNew_elen (st : Int) : ∀ (l : List Int) (M : PMem),(M.stampsNew st l).es.length = M.es.length
 | [],_=>rfl
 | n :: l,M=>by
  show ((M.stampNew n st).stampsNew st l).es.length = _;rw [stampsNew_elen st l];unfold PMem.stampNew;rw [stamp_elen,stamp_elen]
section
variable {g g' : Gh} {i j : Nat} {t t' u : PThread} {P P' : PSt}
theorem Inv.elen (h : Inv g P) (ht : P.ts[i]? = some t) (hb : t.busy = true) : (P.step i t).1.mem.es.length = P.mem.es.length/\(P.step i t).1.limit = P.limit/\(P.step i t).1.sweep = P.sweep:=by
 obtain ⟨P',n,hs,ho⟩:=h.out ht hb;rw [hs];cases ho with
 | lock=>exact ⟨by show (P.mem.modN _ _).es.length = _; rw [modN_ents],rfl,rfl⟩
 | prepI hn hk hr1 hr2 a n M1 ep =>
  refine ⟨?_,rfl,rfl⟩;show M1.es.length = _;have : M1 = (P.prepareInsert t.work).1:=by rw [ep]
  rw [this];unfold PSt.prepareInsert;simp only;split
  ·show ((((P.mem.make _ _).1.addLink _ _).pend _ _ _)).es.length = _;rw [pend_elen,addLink_elen,make_es]
  ·show ((((P.mem.make _ _).1.join _ _).1.pend _ _ _)).es.length = _;rw [pend_elen];unfold PMem.join;simp only;rw [addLink_elen,addLink_elen,make_es,make_es]
 | prepR hn hk hr M1 em=>exact ⟨by show M1.es.length = _; rw [em,pend_elen],rfl,rfl⟩
 | late hn hk hl M1 em=>exact ⟨by show M1.es.length = _; rw [em,frees_elen,unpend_elen],rfl,rfl⟩
 | takeI hn hk hl a n q M1 em=>exact ⟨by show M1.es.length = _; rw [em,stampsNew_elen],rfl,rfl⟩
 | kill hn hk M1 em es=>exact ⟨by show M1.es.length = _; rw [es],rfl,rfl⟩
 | link hn hk M1 em es=>exact ⟨by show M1.es.length = _; rw [es],rfl,rfl⟩
 | stamp hn hk d0 hp M1 em=>exact ⟨by show M1.es.length = _; rw [em,stamp_elen],rfl,rfl⟩
 | unlock hn hk M1 em es=>exact ⟨by show M1.es.length = _; rw [es],rfl,rfl⟩
 | _=>exact ⟨rfl,rfl,rfl⟩
def Solo (P : PSt) (i : Nat) : Prop:=∀ (j : Nat) u,P.ts[j]? = some u->j≠i->u.busy = false
theorem iter_succ (ht : P.ts[i]? = some t) : ∀ j,P.iter i (j + 1) = (P.step i t).1.iter i j:=by
 have hth : P.th i = t:=by unfold PSt.th; rw [ht]; rfl
 intro j
 induction j with
 | zero=>show (P.step i (P.th i)).1 = _; rw [hth]; rfl
 | succ j ih =>
  show ((P.iter i (j + 1)).step i ((P.iter i (j + 1)).th i)).1 = (((P.step i t).1.iter i j).step i (((P.step i t).1.iter i j).th i)).1;rw [ih]
theorem how_zero (ht : P.ts[i]? = some t) : P.how i 0 = (P.step i t).2:=by
 have hth : P.th i = t:=by unfold PSt.th; rw [ht]; rfl
 show (P.step i (P.th i)).2 = _;rw [hth]
theorem how_succ (ht : P.ts[i]? = some t) (j : Nat) : P.how i (j + 1) = (P.step i t).1.how i j:=by
 unfold PSt.how;rw [iter_succ ht]
theorem Inv.outs (h : Inv g P) (ht : P.ts[i]? = some t) (hb : t.busy = true) : ((P.step i t).2 = 1/\∃ t',(P.step i t).1.ts = P.ts.set i t'/\t'.busy = true/\t.work.next≠13)\/(P.step i t).2 = 2\/((P.step i t).2 = 3/\t.work.next = 13/\(P.step i t).1 = { P with ts:=P.ts.set i t.leave }):=by
 obtain ⟨P',n,hs,ho⟩:=h.out ht hb;rw [hs];cases ho with
 | leave hn=>exact .inr (.inr ⟨rfl,hn,rfl⟩)
 | rwait=>exact .inr (.inl rfl)
 | lwait=>exact .inr (.inl rfl)
 | _=>exact .inl ⟨rfl,_,rfl,hb,by omega⟩
theorem solo_end {L : Nat} (Z : PSt->Prop) (hZ : ∀ (Q : PSt) (t : PThread),Z Q->Q.ts[i]? = some t->t.busy = true->(Q.step i t).2 = 1->Z (Q.step i t).1) :
  ∀ (n : Nat) (P : PSt) (g : Gh) (t : PThread),All g P->Solo P i->P.ts[i]? = some t->t.busy = true->P.mem.ns.length = L->phi L g P.mem P.clock P.ts 0 t<=n->Z P ->
   ∃ m,m + 1<=n/\(∀ j,j < m->P.how i j = 1)/\P.how i m = 3/\Z (P.iter i m)/\∃ g' t',All g' (P.iter i m)/\Solo (P.iter i m) i/\(P.iter i m).ts[i]? = some t'/\t'.busy = true/\t'.work.next = 13:=by
 intro n
 induction n with
 | zero =>
  intro P g t hA hS ht hb hl hp _;exfalso;have hmv : (P.step i t).2≠2:=by
   obtain ⟨j,u,h1,h2,h3,_⟩:=hA.i.live ht hb;by_cases e : j = i
   ·subst e; rw [ht] at h1; injection h1 with h1; subst h1; exact h3
   ·rw [hS j u h1 e] at h2; cases h2
  obtain ⟨t',_,e2⟩:=hA.i.near (n:=0) (n':=0) hA.v hA.r hl ht hb hmv (Nat.le_refl _);omega
 | succ n ih =>
  intro P g t hA hS ht hb hl hp hz;have hi:=(List.getElem?_eq_some_iff.1 ht).1;have hmv : (P.step i t).2≠2:=by
   obtain ⟨j,u,h1,h2,h3,_⟩:=hA.i.live ht hb;by_cases e : j = i
   ·subst e; rw [ht] at h1; injection h1 with h1; subst h1; exact h3
   ·rw [hS j u h1 e] at h2; cases h2
  rcases hA.i.outs ht hb with ⟨o1,t1,o2,o3,_⟩ | o | ⟨o1,o2,_⟩
  ·obtain ⟨t',e1,e2⟩:=hA.i.near (n:=0) (n':=0) hA.v hA.r hl ht hb hmv (Nat.le_refl _);have et : t1 = t':=by
    have : (P.ts.set i t1)[i]? = (P.ts.set i t')[i]?:=by rw [<- o2,e1]
    simp [hi] at this; exact this
   subst et;have hts1 : (P.step i t).1.ts[i]? = some t1:=by rw [o2]; simp [hi]
   obtain ⟨m,m1,m2,m3,m4,m5⟩:=ih (P.step i t).1 (nextG g P i t) t1 (hA.step ht hb) (by
    intro j u hj hne;rw [o2,List.getElem?_set_ne (Ne.symm hne)] at hj;exact hS j u hj hne) hts1 o3 (by rw [step_len]; exact hl) (by omega) (hZ P t hz ht hb o1)
   refine ⟨m + 1,by omega,?_,by rw [how_succ ht]; exact m3,by rw [iter_succ ht]; exact m4,by rw [iter_succ ht]; exact m5⟩;intro j hj;cases j with
   | zero=>rw [how_zero ht]; exact o1
   | succ j=>rw [how_succ ht]; exact m2 j (by omega)
  ·exact absurd o hmv
  ·exact ⟨0,by omega,by omega,by rw [how_zero ht]; exact o1,hz,g,t,hA,hS,ht,hb,o2⟩
end
end T
end
section
namespace T
section
variable {g g' : Gh} {i j : Nat} {t t' u : PThread} {P P' Q : PSt} {L n e c kd ky va : Int} {ps : List (Int × Int)} {k : PWork}
end
end T
end
section
namespace T
structure QT (N E L : Int) (P : PSt) (ps : List (Int × Int)) (n e c : Int) : Prop where
 ex : ∃ g,All g P/\Rt g c = ps
 uq : UQ P.mem
 idle : Idle P
 sw : P.sweep = PSweep.zero
 len : P.mem.ns.length = N.toNat + 2/\P.mem.es.length = E.toNat
 rm : P.mem.room.1 = n/\P.mem.room.2 = e
 ck : P.clock = c/\P.limit = L/\c<=L
section
variable {g g' : Gh} {i j : Nat} {t t' u : PThread} {P P' Q : PSt} {T N E L n e c kd ky va : Int} {ps sp : List (Int × Int)} {k : PWork}
end
end T
end
section
namespace T
section
variable {g g' : Gh} {i j : Nat} {t t' u : PThread} {P P' Q : PSt} {T N E L n e c kd ky va : Int} {ps sp : List (Int × Int)} {k : PWork}
theorem QT.fresh (hN : 0<=N) (hE : 1<=E) (hL : 0<=L) : QT N E L (freshP 1 T N E L) [] N (E - 1) 0:=by
 obtain ⟨h1,h2,h3,h4⟩:=inv_fresh (T:=T) (N:=N) (L:=L) hE;have hel : (freshP 1 T N E L).mem.es.length = E.toNat:=by
  show (freshMem N.toNat E.toNat).es.length = _;unfold freshMem PMem.stampNew;rw [stamp_elen,stamp_elen,addLink_elen]
  simp
 have hw:=fresh_seen N.toNat E.toNat (by omega);have hm : (freshP 1 T N E L).mem = freshMem N.toNat E.toNat:=rfl;refine ⟨⟨newG,⟨h1,h2,h3⟩,?_⟩,uq_fresh hE,?_,rfl,⟨h4,hel⟩,⟨?_,?_⟩,rfl,rfl,hL⟩
 ·show Rt newG 0 = [];unfold Rt newG;simp [Tr.rows]
 ·intro t ht; rw [(List.mem_replicate.1 ht).2]; rfl
 ·have:=room1_of (M:=(freshP 1 T N E L).mem) [0,1] (by simp) (by
   intro x;rw [hm];simp only [Us];rw [hw.2.2.1];by_cases e0 : x = 0
   ·subst e0; simp [linked,anchorNode]
   ·by_cases e1 : x = 1
    ·subst e1; simp [endNode]
    ·simp [e0,e1,PNode.zero])
  rw [this,h4];show ((N.toNat + 2 : Nat) : Int) - 2 = N;omega
 ·have hsl : ∀ x s,SL (freshP 1 T N E L).mem x s≠[] ↔ (x,s) ∈ [((0 : Int),false)]:=by
   intro x s;simp only [List.mem_singleton,Prod.mk.injEq];constructor
   ·intro hne;obtain ⟨st,hst⟩:=List.exists_mem_of_ne_nil _ hne;obtain ⟨d,hd⟩:=mem_SL.1 hst;rw [hm] at hd
    have:=(hw.2.2.2.2 _ _ _ _).1 hd
    exact ⟨this.1,this.2.1⟩
   ·rintro ⟨rfl,rfl⟩ e0;have : (0 : Int) ∈ SL (freshP 1 T N E L).mem 0 false:=mem_SL.2 ⟨1,by rw [hm]; exact (hw.2.2.2.2 _ _ _ _).2 ⟨rfl,rfl,rfl,rfl⟩⟩;rw [e0] at this; cases this
  have:=room2_of (M:=(freshP 1 T N E L).mem) (fun x s=>by rw [hm]; exact hw.2.2.2.1 x s) [((0 : Int),false)] (by simp) hsl (by
   intro x s;refine nodup_one (uq_fresh hE x s) ?_;intro a ha b hb;obtain ⟨da,ha⟩:=mem_SL.1 ha;obtain ⟨db,hb⟩:=mem_SL.1 hb;rw [hm] at ha hb;have e1:=((hw.2.2.2.2 _ _ _ _).1 ha).2.2.1;have e2:=((hw.2.2.2.2 _ _ _ _).1 hb).2.2.1;rw [e1,e2])
  rw [this,hel];show ((E.toNat : Nat) : Int) - 1 = E - 1;omega
theorem tquiets (hN : 0<=N/\N<=64) (hE : 1<=E/\E<=256) (hL : 0<=L/\L<=1099511627776) : Quiets 1 T N E L (QT N E L) where
 fresh:=QT.fresh hN.1 hE.1 hL.1
 room:=fun h=>h.room hN hE hL
 idle:=fun h=>h.idle
 op:=fun _ _ _ _ h ht hp=>h.op hN ht hp
 sweep:=fun h=>h.sweeps hN.1 hE.1
end
end T
end
section
namespace T
def tk (d : DeedV) : Int:=if d.a.did = true then (if d.op.kind = 1 then 1 else if d.op.kind = 2 then -1 else 0) else 0
def lnkd (t : PThread) : Int:=if t.busy = true/\t.work.ans.did = true/\9<=t.work.next then (if t.work.kind = 1 then 1 else if t.work.kind = 2 then -1 else 0) else 0
def isum (l : List Int) : Int:=l.foldr (· + ·) 0
theorem isum_app (a b : List Int) : isum (a ++ b) = isum a + isum b:=by
 induction a with
 | nil=>simp [isum]
 | cons x a ih =>
  show x + isum (a ++ b) = x + isum a + isum b;rw [ih]; omega
theorem isum_set (f : PThread->Int) : ∀ {ts : List PThread} {i : Nat} {t : PThread} (t' : PThread),ts[i]? = some t->isum ((ts.set i t').map f) = isum (ts.map f) - f t + f t'
 | [],i,t,t',h=>by simp at h
 | a :: l,0,t,t',h=>by
  simp at h; subst h;show f t' + isum (l.map f) = f a + isum (l.map f) - f a + f t';omega
 | a :: l,i + 1,t,t',h=>by
  have ih:=isum_set f (ts:=l) (i:=i) (t:=t) t' (by simpa using h);show f a + isum ((l.set i t').map f) = f a + isum (l.map f) - f t + f t';rw [ih]; omega
def net (D : PlD) : Int:=isum (D.deeds.map tk) + isum (D.P.ts.map lnkd)
section
variable {g g' : Gh} {i j : Nat} {t : PThread} {P : PSt} {D D' : PlD} {o : OpV} {T N E L : Int}
theorem lnkd_low (t' : PThread) (hh : t'.busy = true->t'.work.next<=8\/t'.work.ans.did = false\/(t'.work.kind≠1/\t'.work.kind≠2)) : lnkd t' = 0:=by
 unfold lnkd;by_cases hc : t'.busy = true/\t'.work.ans.did = true/\9<=t'.work.next
 ·rw [if_pos hc];rcases hh hc.1 with q | q | q
  ·omega
  ·rw [q] at hc; exact absurd hc.2.1 (by decide)
  ·rw [if_neg q.1,if_neg q.2]
 ·rw [if_neg hc]
instance (P : PSt) (t : PThread) : Decidable (Took P t):=inferInstanceAs (Decidable (_/\_))
def took1 (P : PSt) (t : PThread) : Int:=if Took P t then (if t.work.kind = 1 then 1 else -1) else 0
theorem three_next (h : (P.step i t).2 = 3) : t.work.next = 13:=by
 unfold PSt.step at h;split at h
 ·cases h
 ·cases h
 ·cases h
 ·assumption
 ·split at h
  ·unfold PSt.read at h;simp only at h;split at h <;> cases h
  ·unfold PSt.update at h;split at h
   ·cases h
   ·unfold PSt.lock at h;split at h
    ·split at h <;> cases h
    ·cases h
   all_goals cases h
structure ClJ (T N E L : Int) (D : PlD) : Prop where
 ex : ∃ g,All g D.P/\((Rt g D.P.clock).length : Int) = net D
 uq : UQ D.P.mem
 len : D.P.mem.ns.length = N.toNat + 2/\D.P.mem.es.length = E.toNat
 lim : D.P.limit = L
 ok : D.ok
 cfg : D.k = 1/\D.t = T/\D.n = N/\D.e = E/\D.l = L
 opk : ∀ (i : Nat) t o,D.P.ts[i]? = some t->t.busy = true->D.ops[i]? = some o->o.kind = t.work.kind
theorem sweep_eln (P : PSt) : P.doSweep.1.mem.es.length = P.mem.es.length/\P.doSweep.1.limit = P.limit/\P.doSweep.1.clock = P.clock:=by
 have hf : ∀ (ht : Bool) (tm : Int) (l : List Nat) (M : PMem),(M.freesIf ht tm l).es.length = M.es.length:=by
  intro ht tm l
  induction l with
  | nil=>intro M; rfl
  | cons n l ih =>
   intro M;unfold PMem.freesIf;rw [ih];split
   ·unfold PMem.free; split <;> simp
   ·rfl
 unfold PSt.doSweep;simp only;split
 ·exact ⟨rfl,rfl,rfl⟩
 ·split
  ·split <;> exact ⟨rfl,rfl,rfl⟩
  ·split
   ·exact ⟨(dropK _ P.mem.es P.mem.es.length).len,rfl,rfl⟩
   ·exact ⟨hf _ _ _ _,rfl,rfl⟩
theorem cl_plays : Plays treeKin 0 T N E L (ClJ T N E L):=by
 refine ⟨fun h=>by obtain ⟨g,h1,_⟩:=h.ex; exact ⟨_,g,h1,h.len.1,Nat.le_refl _⟩,fun h=>h.ok,fun h=>h.cfg,?_,?_,?_,fun _ h=>by omega⟩
 ·intro D D' i t h hfit ht hb _ hs;obtain ⟨g,hA,hr⟩:=h.ex;have hil:=(List.getElem?_eq_some_iff.1 ht).1;obtain ⟨e1,e2,_⟩:=hA.i.elen ht hb;refine ⟨⟨nextG g D.P i t,by rw [hs.P]; exact hA.step ht hb,?_⟩,by rw [hs.P]; exact hA.i.uqStep h.uq ht hb,⟨by rw [hs.P,step_len]; exact h.len.1,by rw [hs.P,e1]; exact h.len.2⟩,by rw [hs.P,e2]; exact h.lim,ok_step h.ok ht hb hs,cfg_trans hs.cfg h.cfg,?_⟩
  ·rw [hs.P,hA.i.rowStep ht hb,hr];by_cases e3 : (D.P.step i t).2 = 3
   ·-- the end
    have hst:=step_three e3;have h13 : t.work.next = 13:=three_next e3
    have h0 : took1 D.P t = 0:=if_neg (fun q=>by have:=q.1; omega);rw [h0];obtain ⟨av,oo,ff,q1,q2,q3⟩:=hs.deeds.2 e3;unfold net;rw [hs.P,hst,q3,List.map_append,isum_app];show _ = isum (D.deeds.map tk) + isum [tk ⟨oo,t.work.ans,av,ff⟩] + isum ((D.P.ts.set i t.leave).map lnkd);rw [isum_set lnkd t.leave ht];have e1 : lnkd t.leave = 0:=rfl;have e2 : tk ⟨oo,t.work.ans,av,ff⟩ = lnkd t:=by
     have hk:=h.opk i t oo ht hb q1;unfold tk lnkd;simp only [hk];by_cases hd : t.work.ans.did = true
     ·rw [if_pos hd,if_pos (show t.busy = true/\t.work.ans.did = true/\9<=t.work.next from ⟨hb,hd,by omega⟩)]
     ·rw [if_neg hd,if_neg (show ¬ (t.busy = true/\t.work.ans.did = true/\9<=t.work.next) from fun q=>hd q.2.1)]
    have e4 : isum [tk ⟨oo,t.work.ans,av,ff⟩] = lnkd t:=by
     show tk ⟨oo,t.work.ans,av,ff⟩ + 0 = _;rw [e2]; omega
    rw [e1,e4];omega
   ·obtain ⟨t',p1,p2⟩:=hA.i.lnkStep ht hb e3;unfold net;rw [hs.P,p1,hs.deeds.1 e3,isum_set lnkd t' ht,p2]; omega
  ·intro j u oo hj hub ho;obtain ⟨t',p1,p2,p3⟩:=step_work ht hb;rw [hs.P,p1] at hj;rw [hs.ops] at ho;rw [List.getElem?_set] at hj;by_cases e : i = j
   ·subst e;simp [hil] at hj; subst hj;by_cases e3 : (D.P.step i t).2 = 3
    ·rw [p2 e3] at hub; cases hub
    ·rw [(p3 e3).2.1.1]; exact h.opk i t oo ht hb ho
   ·rw [if_neg e] at hj;exact h.opk j u oo hj hub ho
 ·intro D D' i t o h ht _ hB;obtain ⟨g,hA,hr⟩:=h.ex;have hil:=(List.getElem?_eq_some_iff.1 ht).1;by_cases hh : t.busy = true\/properB o.kind o.key o.spans = false
  ·obtain ⟨q1,_,q3,_⟩:=hB.no hh;refine ⟨⟨g,by rw [q1]; exact hA,?_⟩,by rw [q1]; exact h.uq,by rw [q1]; exact h.len,by rw [q1]; exact h.lim,ok_begin h.ok hB,cfg_trans hB.cfg h.cfg,?_⟩
   ·rw [q1,hr]; unfold net; rw [q1,hB.deeds]
   ·rw [q1,q3]; exact h.opk
  ·simp only [not_or,Bool.not_eq_true,Bool.not_eq_false] at hh;obtain ⟨q1,_,q3,_⟩:=hB.yes hh.1 hh.2;obtain ⟨w1,w2,_⟩:=newWork_ok (va:=o.value) hh.2;refine ⟨⟨g,by rw [q1]; exact hA.begin ht hh.1 hh.2,?_⟩,by rw [q1]; exact h.uq,by rw [q1]; exact h.len,by rw [q1]; exact h.lim,ok_begin h.ok hB,cfg_trans hB.cfg h.cfg,?_⟩
   ·rw [q1];show ((Rt g D.P.clock).length : Int) = _;rw [hr];unfold net;rw [q1,hB.deeds];show _ = isum (D.deeds.map tk) + isum ((D.P.ts.set i { t with busy:=true,work:=newWork o.kind o.key o.value o.spans }).map lnkd);rw [isum_set lnkd _ ht];have e1 : lnkd t = 0:=by unfold lnkd; rw [if_neg (fun q=>by rw [hh.1] at q; exact nomatch q.1)]
    have e2 : lnkd { t with busy:=true,work:=newWork o.kind o.key o.value o.spans } = 0:=lnkd_low _ (fun _=>.inl (by show (newWork o.kind o.key o.value o.spans).next<=8; omega));rw [e1,e2]; omega
   ·intro j u oo hj hub ho;rw [q1] at hj;rw [q3] at ho;have hj' : (D.P.ts.set i { t with busy:=true,work:=newWork o.kind o.key o.value o.spans })[j]? = some u:=hj;rw [List.getElem?_set] at hj' ho;by_cases e : i = j
    ·subst e;have hol : i < D.ops.length:=by
      rcases Nat.lt_or_ge i D.ops.length with q | q
      ·exact q
      ·simp [show ¬ i < D.ops.length by omega] at ho
     simp only [hil,hol,if_true,Option.some.injEq] at hj' ho;subst hj';rw [<- ho];show o.kind = (newWork o.kind o.key o.value o.spans).kind;exact w2.symm
    ·rw [if_neg e] at hj' ho;exact h.opk j u oo hj' hub ho
 ·intro D L' h;obtain ⟨g,hA,hr⟩:=h.ex;obtain ⟨s1,s2,s3⟩:=sweep_eln D.P;refine ⟨⟨sweepG g D.P,hA.sweep,?_⟩,uq_sweep h.uq,⟨by show D.P.doSweep.1.mem.ns.length = _; rw [sweep_len]; exact h.len.1,by show D.P.doSweep.1.mem.es.length = _; rw [s1]; exact h.len.2⟩,by show D.P.doSweep.1.limit = _; rw [s2]; exact h.lim,?_,h.cfg,?_⟩
  ·show ((Rt (sweepG g D.P) D.P.doSweep.1.clock).length : Int) = isum (D.deeds.map tk) + isum (D.P.doSweep.1.ts.map lnkd);rw [sweep_tsEq,s3];unfold Rt at hr ⊢;rw [sweepG_V]; exact hr
  ·show D.bs = D.P.doSweep.1.ts.map (·.busy);rw [sweep_tsEq]; exact h.ok
  ·show ∀ (i : Nat) t o,D.P.doSweep.1.ts[i]? = some t->t.busy = true->D.ops[i]? = some o->o.kind = t.work.kind;rw [sweep_tsEq]; exact h.opk
theorem isum_zero (f : PThread->Int) : ∀ (l : List PThread),(∀ t ∈ l,f t = 0)->isum (l.map f) = 0
 | [],_=>rfl
 | a :: l,h=>by
  show f a + isum (l.map f) = 0;rw [h a (by simp),isum_zero f l (fun t ht=>h t (by simp [ht]))]; rfl
theorem cl_fresh (hN : 0<=N) (hE : 1<=E) (hL : 0<=L) (h : FreshPl 1 T N E L D) : ClJ T N E L D:=by
 have hq:=QT.fresh (T:=T) hN hE hL;obtain ⟨g,hA,hr⟩:=hq.ex;have hts : ∀ t ∈ (freshP 1 T N E L).ts,t = PThread.zero:=fun t ht=>(List.mem_replicate.1 ht).2
 refine ⟨⟨g,by rw [h.P]; exact hA,?_⟩,by rw [h.P]; exact hq.uq,by rw [h.P]; exact hq.len,by rw [h.P]; rfl,h.ok,h.cfg,?_⟩
 ·unfold net;rw [h.P,h.deeds];have e1 : Rt g (freshP 1 T N E L).clock = []:=hr;rw [e1,isum_zero lnkd _ (fun t ht=>by rw [hts t ht]; rfl)]; rfl
 ·intro i t o ht hb;rw [h.P] at ht;rw [hts t (List.mem_of_getElem? ht)] at hb; cases hb
end
end T
end
section
namespace T
section
variable {g : Gh} {i j b k : Nat} {t t0 : PThread} {P : PSt} {N E L T c kd ky : Int} {ps sp : List (Int × Int)} {D D' : PlD} {o : OpV}
theorem nextG_old (g : Gh) (P : PSt) (i : Nat) (t : PThread) {T : Int} (hT : T<=P.clock) : Rt (nextG g P i t) T = Rt g T:=by
 unfold Rt;have : (nextG g P i t).V T = g.V T:=by
  unfold nextG;split
  ·split
   ·show (if T = P.clock + 1 then _ else _) = _;rw [if_neg (by omega)]
   ·show (if T = P.clock + 1 then _ else _) = _;rw [if_neg (by omega)]
  ·rfl
 rw [this]
end
end T
end
end Go.Proofs.YtfccelbmacjifabGreat
