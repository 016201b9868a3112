import Derived.Test.YtfccelbmacjifabGreatP0
import Derived.Test.YtfccelbmacjifabGreatP30
import Derived.Test.YtfccelbmacjifabGreatP26
set_option linter.unusedSimpArgs false
set_option maxRecDepth 100000
set_option maxHeartbeats 4000000
namespace Go.Proofs.YtfccelbmacjifabGreat
section
namespace T
def SL (M : PMem) (x : Int) (s : Bool) : List Int:=(M.es.filter (isSt x s)).map PEntry.stamp
def UQ (M : PMem) : Prop:=∀ x s,(SL M x s).Nodup
theorem mem_SL {M : PMem} {x st : Int} {s : Bool} : st ∈ SL M x s ↔ ∃ d,Sd M x s st d:=by
 unfold SL Sd;rw [List.mem_map];constructor
 ·rintro ⟨e,he,rfl⟩;rw [List.mem_filter] at he;exact ⟨e.dst,e,he.1,he.2,rfl,rfl⟩
 ·rintro ⟨d,e,he,hs,rfl,_⟩;exact ⟨e,List.mem_filter.2 ⟨he,hs⟩,rfl⟩
theorem sl_es {M M' : PMem} (h : M'.es = M.es) (x : Int) (s : Bool) : SL M' x s = SL M x s:=by unfold SL; rw [h]
theorem filt_ins {α β : Type} (p : α->Bool) (f : α->β) : ∀ {l : List α} {k : Nat} {x : α} (y : α),l[k]? = some x->p x = false->p y = true->List.Perm (((l.set k y).filter p).map f) (f y :: (l.filter p).map f)
 | [],k,x,y,h=>by simp at h
 | z :: r,0,x,y,h=>by
  intro hx hy;simp at h; subst h;simp [hx,hy]
 | z :: r,k + 1,x,y,h=>by
  intro hx hy;have ih:=filt_ins p f y (l:=r) (k:=k) (by simpa using h) hx hy;simp only [List.set_cons_succ,List.filter_cons];split
  ·simp only [List.map_cons];exact (ih.cons _).trans (List.Perm.swap _ _ _)
  ·exact ih
theorem sl_setE {M : PMem} {k : Nat} {e y : PEntry} (h : M.es[k]? = some e) (h1 : ∀ x s,isSt x s e = false) (h2 : ∀ x s,isSt x s y = false) (x : Int) (s : Bool) : SL { M with es:=M.es.set k y } x s = SL M x s:=filt_set _ _ h _ (h1 x s) (h2 x s)
theorem sl_pend (M : PMem) (n : Int) (b : Bool) (to : Int) (x : Int) (s : Bool) : SL (M.pend n b to) x s = SL M x s:=by
 unfold PMem.pend;split
 ·next hc =>
  rcases find_bd (fun e : PEntry=>!e.used) M.es 0 with ⟨q,_⟩ | ⟨k,e,h1,h2,h3,_⟩
  ·exfalso;have hq : M.freeEntry = -1:=q;rw [hq] at hc;simp [PMem.hasEntry,isIn] at hc
  ·have hk : M.freeEntry = (k : Int):=h3.trans (by simp);rw [hk];show SL { M with es:=M.es.set (k : Int).toNat _ } x s = _;rw [Int.toNat_natCast];refine sl_setE h1 (fun x s=>?_) (fun x s=>by simp [isSt]) x s;have : e.used = false:=by simpa using h2
   simp [isSt,this]
 ·rfl
theorem sl_addLink (M : PMem) (n to x : Int) (s : Bool) : SL (M.addLink n to) x s = SL M x s:=by
 unfold PMem.addLink;split
 ·split
  ·rw [sl_pend]; exact sl_es (modN_ents _ _ _) _ _
  ·rw [sl_pend]; exact sl_es (modN_ents _ _ _) _ _
  ·rfl
 ·rfl
theorem make_es (M : PMem) (a b : Int) : (M.make a b).1.es = M.es:=by unfold PMem.make; split <;> rfl
theorem uq_stamp {M : PMem} {n st : Int} {b : Bool} (h : UQ M) (hs : ∀ st' d,Sd M n b st' d->st'≠st) : UQ (M.stamp n b st):=by
 unfold PMem.stamp;split
 ·next hc =>
  rcases find_bd (isPd n b) M.es 0 with ⟨q,_⟩ | ⟨k,e,h1,h2,h3,_⟩
  ·exfalso;have hq : M.pending n b = -1:=q;rw [hq] at hc;simp [PMem.hasEntry,isIn] at hc
  ·have hk : M.pending n b = (k : Int):=h3.trans (by simp);rw [hk];have he : M.ent (k : Int) = e:=by simp [PMem.ent,h1]
   rw [he];intro x s;show (SL { M with es:=M.es.set (k : Int).toNat { e with pending:=false,stamp:=st } } x s).Nodup;rw [Int.toNat_natCast];cases hy : isSt x s { e with pending:=false,stamp:=st }
   ·have : SL { M with es:=M.es.set k { e with pending:=false,stamp:=st } } x s = SL M x s:=filt_set _ _ h1 _ (isSt_pd h2 x s) hy;rw [this]; exact h x s
   ·have hp:=filt_ins (isSt x s) PEntry.stamp { e with pending:=false,stamp:=st } h1 (isSt_pd h2 x s) hy;show (((M.es.set k { e with pending:=false,stamp:=st }).filter (isSt x s)).map PEntry.stamp).Nodup;rw [hp.nodup_iff];refine List.nodup_cons.2 ⟨?_,h x s⟩;intro hm;have hxs : x = n/\s = b:=by
     simp only [isPd,Bool.and_eq_true,beq_iff_eq] at h2;simp only [isSt,Bool.and_eq_true,beq_iff_eq] at hy;exact ⟨hy.2.2.1.symm.trans h2.2.1,hy.2.2.2.symm.trans h2.2.2⟩
    obtain ⟨d,hd⟩:=mem_SL.1 hm;rw [hxs.1,hxs.2] at hd;exact hs st d hd rfl
 ·exact h
section
variable {g g' : Gh} {T : Int} {i j : Nat} {t t' u : PThread} {P P' : PSt} {key : Int}
end
theorem uq_fresh {T N E L : Int} (hE : 1<=E) : UQ (freshP 1 T N E L).mem:=by
 show UQ (freshMem N.toNat E.toNat);unfold freshMem;have h0 : UQ ⟨freshNodes N.toNat,List.replicate E.toNat PEntry.zero⟩:=by
  intro x s;have : SL ⟨freshNodes N.toNat,List.replicate E.toNat PEntry.zero⟩ x s = []:=by
   unfold SL;rw [List.filter_eq_nil_iff.2]
   ·rfl
   ·intro e he; rw [(List.mem_replicate.1 he).2,isSt_z]; decide
  rw [this]; exact List.nodup_nil
 have h1 : ∀ x s st d,¬ Sd ((⟨freshNodes N.toNat,List.replicate E.toNat PEntry.zero⟩ : PMem).addLink 0 1) x s st d:=by
  intro x s st d hd
  have:=mem_SL.2 ⟨d,hd⟩
  rw [sl_addLink] at this;obtain ⟨d',e,he,hh,_⟩:=mem_SL.1 this;have he : e ∈ List.replicate E.toNat PEntry.zero:=he;rw [(List.mem_replicate.1 he).2,isSt_z] at hh; cases hh
 have h2 : UQ ((⟨freshNodes N.toNat,List.replicate E.toNat PEntry.zero⟩ : PMem).addLink 0 1):=fun x s=>by rw [sl_addLink]; exact h0 x s
 unfold PMem.stampNew;refine uq_stamp (uq_stamp h2 (fun st' d hd=>absurd hd (h1 _ _ _ _))) ?_;intro st' d hd
 -- only the first link has an entry
 obtain ⟨_,_,_,_,w5⟩:=fresh_seen N.toNat E.toNat (by omega);intro e;subst e;have hfm : freshMem N.toNat E.toNat = (((⟨freshNodes N.toNat,List.replicate E.toNat PEntry.zero⟩ : PMem).addLink 0 1).stamp 0 false 0).stamp 0 true 0:=rfl;have hm:=mem_SL.2 ⟨d,hd⟩;obtain ⟨M1,hM1⟩ : ∃ M1,M1 = ((⟨freshNodes N.toNat,List.replicate E.toNat PEntry.zero⟩ : PMem).addLink 0 1).stamp 0 false 0:=⟨_,rfl⟩;rw [<- hM1] at hd hm hfm
 -- an entry that is stamped stays
 have keep : ∃ d',Sd (freshMem N.toNat E.toNat) 0 true 0 d':=by
  rw [hfm];unfold PMem.stamp;split
  ·next hc =>
   rcases find_bd (isPd 0 true) M1.es 0 with ⟨q,_⟩ | ⟨k,e,g1,g2,g3,_⟩
   ·exfalso;have hq : M1.pending 0 true = -1:=q;rw [hq] at hc;simp [PMem.hasEntry,isIn] at hc
   ·have hk : M1.pending 0 true = (k : Int):=g3.trans (by simp);rw [hk];refine ⟨d,?_⟩;show Sd { M1 with es:=M1.es.set (k : Int).toNat _ } 0 true 0 d;rw [Int.toNat_natCast];exact (sd_set g1 (isSt_pd g2) _ _ _ _).2 (.inl hd)
  ·exact ⟨d,hd⟩
 obtain ⟨d',hd'⟩:=keep
 have:=((w5 _ _ _ _).1 hd').2.1
 cases this
end T
end
section
section
variable {P : PSt}
end
end
section
namespace T
namespace Tr
def is : Tr->List Int
 | lf _ _ _=>[]
 | nd p _ l r=>p :: (l.is ++ r.is)
variable {t : Tr} {x : Int}
theorem rows_len (t : Tr) : t.rows.length = t.is.length + 1:=by
 induction t with
 | lf=>simp [rows,is]
 | nd p q l r h1 h2=>simp [rows,is,h1,h2]; omega
theorem size_is (t : Tr) : t.size = 2 * t.is.length + 1:=by
 induction t with
 | lf=>simp [size,is]
 | nd p q l r h1 h2=>simp [size,is,h1,h2]; omega
end Tr
theorem nodup_leA {α : Type} [DecidableEq α] : ∀ {l m : List α},l.Nodup->(∀ x ∈ l,x ∈ m)->l.length<=m.length
 | [],_,_,_=>by simp
 | x :: l,m,hn,hs=>by
  obtain ⟨h1,h2⟩:=List.nodup_cons.1 hn;have hx:=hs x (by simp)
  have:=nodup_leA (l:=l) (m:=m.erase x) h2 (fun y hy=>by
   refine (List.mem_erase_of_ne ?_).2 (hs y (by simp [hy]));rintro rfl; exact h1 hy)
  rw [List.length_erase_of_mem hx] at this;have : 0 < m.length:=List.length_pos_of_mem hx
  simp; omega
theorem nodup_eqA {α : Type} [DecidableEq α] {l m : List α} (h1 : l.Nodup) (h2 : m.Nodup) (h : ∀ x,x ∈ l ↔ x ∈ m) : l.length = m.length :=
 Nat.le_antisymm (nodup_leA h1 (fun x hx=>(h x).1 hx)) (nodup_leA h2 (fun x hx=>(h x).2 hx))
theorem map_nodup {α β : Type} [DecidableEq β] (f : α->β) : ∀ (l : List α),(∀ y,(l.filter (fun e=>decide (f e = y))).length<=1)->(l.map f).Nodup
 | [],_=>List.nodup_nil
 | a :: l,h=>by
  simp only [List.map_cons,List.nodup_cons];refine ⟨?_,map_nodup f l (fun y=>?_)⟩
  ·intro hm;obtain ⟨b,hb,e⟩:=List.mem_map.1 hm
   have:=h (f a)
   simp only [List.filter_cons,decide_true,if_true,List.length_cons] at this;have h2 : 0 < (l.filter (fun e=>decide (f e = f a))).length:=List.length_pos_of_mem (List.mem_filter.2 ⟨hb,by simpa using e⟩);omega
  ·have:=h y
   simp only [List.filter_cons] at this;split at this
   ·simp only [List.length_cons] at this; omega
   ·exact this
theorem count_not {α : Type} (p : α->Bool) (l : List α) : count (fun x=>!p x) l + count p l = l.length:=by
 induction l with
 | nil=>rfl
 | cons a l ih=>unfold count at *; simp only [List.filter_cons,List.length_cons]; cases p a <;> simp <;> omega
section
variable {g g' : Gh} {T : Int} {i j : Nat} {t t' u : PThread} {P P' : PSt} {key : Int}
theorem Rt_len (h : Gt (g.V T)) : (Rt g T).length = (g.V T).is.length:=by
 have h1:=Tr.rows_len (g.V T);have hs:=Tr.rows_srt h.ok;have h2 : ((g.V T).rows).filter (fun p=>!decide (p.1<=1099511627776)) = [(1099511627777,0)]:=by
  refine srt_ext (List.Pairwise.filter _ hs) (by simp [Srt]) ?_;rintro ⟨k,v⟩;rw [List.mem_filter,Tr.mem_rows];constructor
  ·rintro ⟨⟨x,hx⟩,hk⟩;simp at hk;by_cases e : x = 1
   ·subst e;have e1:=Tr.goal_key h.ok hx;have e2:=lea_fn h.dj hx h.one;subst e2;have e3:=Tr.goal_key h.ok h.one;rw [e1] at e3;simp at e3 ⊢; exact e3
   ·have:=h.kr x k v hx e; omega
  ·intro e;simp at e;obtain ⟨rfl,rfl⟩:=e;exact ⟨⟨1,h.one⟩,by decide⟩
 have h3:=count_not (fun p : Int × Int=>decide (p.1<=1099511627776)) (g.V T).rows;unfold count at h3;rw [h2] at h3;unfold Rt;simp only [List.length_singleton] at h3;omega
def Idle (P : PSt) : Prop:=∀ t ∈ P.ts,t.busy = false
theorem room1_of {M : PMem} (L : List Int) (hn : L.Nodup) (h : ∀ x,Us M x ↔ x ∈ L) : M.room.1 = M.ns.length - L.length:=by
 have h1:=count_not (fun x : PNode=>x.used) M.ns;have h2 : count (fun x : PNode=>x.used) M.ns = L.length:=by
  have h3 : count (fun x : PNode=>x.used) M.ns = ((List.range M.ns.length).filter (fun (n : Nat)=>(M.node (n : Int)).used)).length:=by
   have : ∀ (l : List PNode) (k : Nat),(∀ (j : Nat) e,l[j]? = some e->(M.node ((k + j : Nat) : Int)).used = e.used)->count (fun x : PNode=>x.used) l = ((List.range' k l.length).filter (fun (n : Nat)=>(M.node (n : Int)).used)).length:=by
    intro l
    induction l with
    | nil=>intro k _; rfl
    | cons a l ih =>
     intro k hk;have i1:=ih (k + 1) (fun j e he=>by have:=hk (j + 1) e (by simpa using he); rw [show k + 1 + j = k + (j + 1) by omega]; exact this);have i2:=hk 0 a rfl;unfold count at *;simp only [Nat.add_zero] at i2;simp only [List.length_cons,List.range'_succ,List.filter_cons,i2];split <;> simp [i1]
   rw [List.range_eq_range'];refine this M.ns 0 (fun j e he=>?_);rw [Nat.zero_add,(node_get he).1]
  rw [h3];have h4 : ((List.range M.ns.length).filter (fun (n : Nat)=>(M.node (n : Int)).used)).length = (((List.range M.ns.length).filter (fun (n : Nat)=>(M.node (n : Int)).used)).map (fun (n : Nat)=>(n : Int))).length:=by simp
  rw [h4];refine nodup_eqA ?_ hn ?_
  ·refine List.Pairwise.map _ ?_ (List.Pairwise.filter _ List.nodup_range);intro a b hab e;exact hab (by omega)
  ·intro x;rw [List.mem_map,<- h x];constructor
   ·rintro ⟨n,hn,rfl⟩;exact (List.mem_filter.1 hn).2
   ·intro hu
    have:=hasN_iff.1 (hasN_used hu)
    refine ⟨x.toNat,List.mem_filter.2 ⟨by simp; omega,?_⟩,by omega⟩;have e : ((x.toNat : Nat) : Int) = x:=by omega
    rw [e]; exact hu
 have e1 : M.room.1 = (count (fun x : PNode=>!x.used) M.ns : Nat):=rfl;omega
theorem room2_of {M : PMem} (hp : ∀ x s,Pd M x s = []) (L : List (Int × Bool)) (hn : L.Nodup) (h : ∀ x s,SL M x s≠[] ↔ (x,s) ∈ L) (h1 : ∀ x s,(SL M x s).length<=1) : M.room.2 = M.es.length - L.length:=by
 have h2:=count_not (fun x : PEntry=>x.used) M.es;have nop : ∀ e ∈ M.es,e.used = true->isSt e.src e.side e = true:=by
  intro e he hu;have : e.pending = false:=by
   cases hq : e.pending
   ·rfl
   ·exfalso
    have:=hp e.src e.side
    unfold Pd at this;simp at this;have h3:=this e he;simp [isPd,hq] at h3
  simp [isSt,hu,this]
 have key : ∀ x s,(M.es.filter (fun e=>e.used)).filter (fun e=>decide ((e.src,e.side) = (x,s))) = M.es.filter (isSt x s):=by
  intro x s;rw [List.filter_filter];apply List.filter_congr;intro e he;rw [Bool.eq_iff_iff];simp only [Bool.and_eq_true,decide_eq_true_eq,Prod.mk.injEq];constructor
  ·rintro ⟨⟨e1,e2⟩,e3⟩
   have:=nop e he e3
   rw [e1,e2] at this; exact this
  ·intro hs;simp only [isSt,Bool.and_eq_true,beq_iff_eq] at hs;exact ⟨⟨hs.2.2.1,hs.2.2.2⟩,hs.1⟩
 have h3 : count (fun x : PEntry=>x.used) M.es = L.length:=by
  have e1 : count (fun x : PEntry=>x.used) M.es = ((M.es.filter (fun e=>e.used)).map (fun e=>(e.src,e.side))).length:=by simp [count]
  rw [e1];refine nodup_eqA (map_nodup _ _ ?_) hn ?_
  ·rintro ⟨x,s⟩;rw [key]
   have:=h1 x s
   unfold SL at this;simpa using this
  ·rintro ⟨x,s⟩;rw [<- h x s];constructor
   ·intro hm;obtain ⟨e,he,ee⟩:=List.mem_map.1 hm;have : e ∈ M.es.filter (isSt x s):=by rw [<- key]; exact List.mem_filter.2 ⟨he,by simpa using ee⟩
    intro e0;have hm2 : e.stamp ∈ SL M x s:=List.mem_map.2 ⟨e,this,rfl⟩;rw [e0] at hm2; cases hm2
   ·intro hne;obtain ⟨st,hst⟩:=List.exists_mem_of_ne_nil _ hne;obtain ⟨e,he,_⟩:=List.mem_map.1 hst;rw [<- key] at he;obtain ⟨q1,q2⟩:=List.mem_filter.1 he;exact List.mem_map.2 ⟨e,q1,by simpa using q2⟩
 have e1 : M.room.2 = (count (fun x : PEntry=>!x.used) M.es : Nat):=rfl;omega
end
end T
end
section
namespace T
theorem nodup_one {l : List Int} (h : l.Nodup) (he : ∀ a ∈ l,∀ b ∈ l,a = b) : l.length<=1:=by
 match l,h with
 | [],_=>simp
 | [_],_=>simp
 | a :: b :: r,h =>
  obtain ⟨h1,_⟩:=List.nodup_cons.1 h;exact absurd (he a (by simp) b (by simp)) (fun e=>h1 (by simp [e]))
section
variable {g g' : Gh} {T : Int} {i j : Nat} {t t' u : PThread} {P P' : PSt} {key : Int}
end
end T
end
section
namespace T
theorem pend_elen (M : PMem) (n : Int) (s : Bool) (to : Int) : (M.pend n s to).es.length = M.es.length:=by unfold PMem.pend; split <;> simp [PMem.setE]
theorem addLink_elen (M : PMem) (n to : Int) : (M.addLink n to).es.length = M.es.length:=by
 unfold PMem.addLink;split
 ·split
  ·rw [pend_elen,modN_ents]
  ·rw [pend_elen,modN_ents]
  ·rfl
 ·rfl
theorem unpend_elen (M : PMem) (n : Int) (s : Bool) : (M.unpend n s).es.length = M.es.length:=by unfold PMem.unpend; split <;> simp [PMem.setE]
theorem stamp_elen (M : PMem) (n : Int) (s : Bool) (st : Int) : (M.stamp n s st).es.length = M.es.length:=by unfold PMem.stamp; split <;> simp [PMem.setE]
theorem free_elen (M : PMem) (n : Int) : (M.free n).es.length = M.es.length:=by unfold PMem.free; split <;> simp
theorem frees_elen : ∀ (l : List Int) (M : PMem),(M.frees l).es.length = M.es.length
 | [],_=>rfl
 | n :: l,M=>by show ((M.free n).frees l).es.length = _; rw [frees_elen l,free_elen]
theorem stampsNew_elen (st : Int) : ∀ (l : List Int) (M : PMem),(M.stampsNew st l).es.length = M.es.length
 | [],_=>rfl
 | n :: l,M=>by
  show ((M.stampNew n st).stampsNew st l).es.length = _;rw [stampsNew_elen st l];unfold PMem.stampNew;rw [stamp_elen,stamp_elen]
section
variable {g g' : Gh} {i j : Nat} {t t' u : PThread} {P P' : PSt}
theorem Inv.elen (h : Inv g P) (ht : P.ts[i]? = some t) (hb : t.busy = true) : (P.step i t).1.mem.es.length = P.mem.es.length/\(P.step i t).1.limit = P.limit/\(P.step i t).1.sweep = P.sweep:=by
 obtain ⟨P',n,hs,ho⟩:=h.out ht hb;rw [hs];cases ho with
 | lock=>exact ⟨by show (P.mem.modN _ _).es.length = _; rw [modN_ents],rfl,rfl⟩
 | prepI hn hk hr1 hr2 a n M1 ep =>
  refine ⟨?_,rfl,rfl⟩;show M1.es.length = _;have : M1 = (P.prepareInsert t.work).1:=by rw [ep]
  rw [this];unfold PSt.prepareInsert;simp only;split
  ·show ((((P.mem.make _ _).1.addLink _ _).pend _ _ _)).es.length = _;rw [pend_elen,addLink_elen,make_es]
  ·show ((((P.mem.make _ _).1.join _ _).1.pend _ _ _)).es.length = _;rw [pend_elen];unfold PMem.join;simp only;rw [addLink_elen,addLink_elen,make_es,make_es]
 | prepR hn hk hr M1 em=>exact ⟨by show M1.es.length = _; rw [em,pend_elen],rfl,rfl⟩
 | late hn hk hl M1 em=>exact ⟨by show M1.es.length = _; rw [em,frees_elen,unpend_elen],rfl,rfl⟩
 | takeI hn hk hl a n q M1 em=>exact ⟨by show M1.es.length = _; rw [em,stampsNew_elen],rfl,rfl⟩
 | kill hn hk M1 em es=>exact ⟨by show M1.es.length = _; rw [es],rfl,rfl⟩
 | link hn hk M1 em es=>exact ⟨by show M1.es.length = _; rw [es],rfl,rfl⟩
 | stamp hn hk d0 hp M1 em=>exact ⟨by show M1.es.length = _; rw [em,stamp_elen],rfl,rfl⟩
 | unlock hn hk M1 em es=>exact ⟨by show M1.es.length = _; rw [es],rfl,rfl⟩
 | _=>exact ⟨rfl,rfl,rfl⟩
def Solo (P : PSt) (i : Nat) : Prop:=∀ (j : Nat) u,P.ts[j]? = some u->j≠i->u.busy = false
theorem iter_succ (ht : P.ts[i]? = some t) : ∀ j,P.iter i (j + 1) = (P.step i t).1.iter i j:=by
 have hth : P.th i = t:=by unfold PSt.th; rw [ht]; rfl
 intro j
 induction j with
 | zero=>show (P.step i (P.th i)).1 = _; rw [hth]; rfl
 | succ j ih =>
  show ((P.iter i (j + 1)).step i ((P.iter i (j + 1)).th i)).1 = (((P.step i t).1.iter i j).step i (((P.step i t).1.iter i j).th i)).1;rw [ih]
theorem how_zero (ht : P.ts[i]? = some t) : P.how i 0 = (P.step i t).2:=by
 have hth : P.th i = t:=by unfold PSt.th; rw [ht]; rfl
 show (P.step i (P.th i)).2 = _;rw [hth]
theorem how_succ (ht : P.ts[i]? = some t) (j : Nat) : P.how i (j + 1) = (P.step i t).1.how i j:=by
 unfold PSt.how;rw [iter_succ ht]
theorem Inv.outs (h : Inv g P) (ht : P.ts[i]? = some t) (hb : t.busy = true) : ((P.step i t).2 = 1/\∃ t',(P.step i t).1.ts = P.ts.set i t'/\t'.busy = true/\t.work.next≠13)\/(P.step i t).2 = 2\/((P.step i t).2 = 3/\t.work.next = 13/\(P.step i t).1 = { P with ts:=P.ts.set i t.leave }):=by
 obtain ⟨P',n,hs,ho⟩:=h.out ht hb;rw [hs];cases ho with
 | leave hn=>exact .inr (.inr ⟨rfl,hn,rfl⟩)
 | rwait=>exact .inr (.inl rfl)
 | lwait=>exact .inr (.inl rfl)
 | _=>exact .inl ⟨rfl,_,rfl,hb,by omega⟩
theorem solo_end {L : Nat} (Z : PSt->Prop) (hZ : ∀ (Q : PSt) (t : PThread),Z Q->Q.ts[i]? = some t->t.busy = true->(Q.step i t).2 = 1->Z (Q.step i t).1) :
  ∀ (n : Nat) (P : PSt) (g : Gh) (t : PThread),All g P->Solo P i->P.ts[i]? = some t->t.busy = true->P.mem.ns.length = L->phi L g P.mem P.clock P.ts 0 t<=n->Z P ->
   ∃ m,m + 1<=n/\(∀ j,j < m->P.how i j = 1)/\P.how i m = 3/\Z (P.iter i m)/\∃ g' t',All g' (P.iter i m)/\Solo (P.iter i m) i/\(P.iter i m).ts[i]? = some t'/\t'.busy = true/\t'.work.next = 13:=by
 intro n
 induction n with
 | zero =>
  intro P g t hA hS ht hb hl hp _;exfalso;have hmv : (P.step i t).2≠2:=by
   obtain ⟨j,u,h1,h2,h3,_⟩:=hA.i.live ht hb;by_cases e : j = i
   ·subst e; rw [ht] at h1; injection h1 with h1; subst h1; exact h3
   ·rw [hS j u h1 e] at h2; cases h2
  obtain ⟨t',_,e2⟩:=hA.i.near (n:=0) (n':=0) hA.v hA.r hl ht hb hmv (Nat.le_refl _);omega
 | succ n ih =>
  intro P g t hA hS ht hb hl hp hz;have hi:=(List.getElem?_eq_some_iff.1 ht).1;have hmv : (P.step i t).2≠2:=by
   obtain ⟨j,u,h1,h2,h3,_⟩:=hA.i.live ht hb;by_cases e : j = i
   ·subst e; rw [ht] at h1; injection h1 with h1; subst h1; exact h3
   ·rw [hS j u h1 e] at h2; cases h2
  rcases hA.i.outs ht hb with ⟨o1,t1,o2,o3,_⟩ | o | ⟨o1,o2,_⟩
  ·obtain ⟨t',e1,e2⟩:=hA.i.near (n:=0) (n':=0) hA.v hA.r hl ht hb hmv (Nat.le_refl _);have et : t1 = t':=by
    have : (P.ts.set i t1)[i]? = (P.ts.set i t')[i]?:=by rw [<- o2,e1]
    simp [hi] at this; exact this
   subst et;have hts1 : (P.step i t).1.ts[i]? = some t1:=by rw [o2]; simp [hi]
   obtain ⟨m,m1,m2,m3,m4,m5⟩:=ih (P.step i t).1 (nextG g P i t) t1 (hA.step ht hb) (by
    intro j u hj hne;rw [o2,List.getElem?_set_ne (Ne.symm hne)] at hj;exact hS j u hj hne) hts1 o3 (by rw [step_len]; exact hl) (by omega) (hZ P t hz ht hb o1)
   refine ⟨m + 1,by omega,?_,by rw [how_succ ht]; exact m3,by rw [iter_succ ht]; exact m4,by rw [iter_succ ht]; exact m5⟩;intro j hj;cases j with
   | zero=>rw [how_zero ht]; exact o1
   | succ j=>rw [how_succ ht]; exact m2 j (by omega)
  ·exact absurd o hmv
  ·exact ⟨0,by omega,by omega,by rw [how_zero ht]; exact o1,hz,g,t,hA,hS,ht,hb,o2⟩
end
end T
end
section
namespace T
section
variable {g g' : Gh} {i j : Nat} {t t' u : PThread} {P P' Q : PSt} {L n e c kd ky va : Int} {ps : List (Int × Int)} {k : PWork}
end
end T
end
section
namespace T
structure QT (N E L : Int) (P : PSt) (ps : List (Int × Int)) (n e c : Int) : Prop where
 ex : ∃ g,All g P/\Rt g c = ps
 uq : UQ P.mem
 idle : Idle P
 sw : P.sweep = PSweep.zero
 len : P.mem.ns.length = N.toNat + 2/\P.mem.es.length = E.toNat
 rm : P.mem.room.1 = n/\P.mem.room.2 = e
 ck : P.clock = c/\P.limit = L/\c<=L
section
variable {g g' : Gh} {i j : Nat} {t t' u : PThread} {P P' Q : PSt} {T N E L n e c kd ky va : Int} {ps sp : List (Int × Int)} {k : PWork}
end
end T
end
section
namespace T
section
variable {g g' : Gh} {i j : Nat} {t t' u : PThread} {P P' Q : PSt} {T N E L n e c kd ky va : Int} {ps sp : List (Int × Int)} {k : PWork}
theorem QT.fresh (hN : 0<=N) (hE : 1<=E) (hL : 0<=L) : QT N E L (freshP 1 T N E L) [] N (E - 1) 0:=by
 obtain ⟨h1,h2,h3,h4⟩:=inv_fresh (T:=T) (N:=N) (L:=L) hE;have hel : (freshP 1 T N E L).mem.es.length = E.toNat:=by
  show (freshMem N.toNat E.toNat).es.length = _;unfold freshMem PMem.stampNew;rw [stamp_elen,stamp_elen,addLink_elen]
  simp
 have hw:=fresh_seen N.toNat E.toNat (by omega);have hm : (freshP 1 T N E L).mem = freshMem N.toNat E.toNat:=rfl;refine ⟨⟨newG,⟨h1,h2,h3⟩,?_⟩,uq_fresh hE,?_,rfl,⟨h4,hel⟩,⟨?_,?_⟩,rfl,rfl,hL⟩
 ·show Rt newG 0 = [];unfold Rt newG;simp [Tr.rows]
 ·intro t ht; rw [(List.mem_replicate.1 ht).2]; rfl
 ·have:=room1_of (M:=(freshP 1 T N E L).mem) [0,1] (by simp) (by
   intro x;rw [hm];simp only [Us];rw [hw.2.2.1];by_cases e0 : x = 0
   ·subst e0; simp [linked,anchorNode]
   ·by_cases e1 : x = 1
    ·subst e1; simp [endNode]
    ·simp [e0,e1,PNode.zero])
  rw [this,h4];show ((N.toNat + 2 : Nat) : Int) - 2 = N;omega
 ·have hsl : ∀ x s,SL (freshP 1 T N E L).mem x s≠[] ↔ (x,s) ∈ [((0 : Int),false)]:=by
   intro x s;simp only [List.mem_singleton,Prod.mk.injEq];constructor
   ·intro hne;obtain ⟨st,hst⟩:=List.exists_mem_of_ne_nil _ hne;obtain ⟨d,hd⟩:=mem_SL.1 hst;rw [hm] at hd
    have:=(hw.2.2.2.2 _ _ _ _).1 hd
    exact ⟨this.1,this.2.1⟩
   ·rintro ⟨rfl,rfl⟩ e0;have : (0 : Int) ∈ SL (freshP 1 T N E L).mem 0 false:=mem_SL.2 ⟨1,by rw [hm]; exact (hw.2.2.2.2 _ _ _ _).2 ⟨rfl,rfl,rfl,rfl⟩⟩;rw [e0] at this; cases this
  have:=room2_of (M:=(freshP 1 T N E L).mem) (fun x s=>by rw [hm]; exact hw.2.2.2.1 x s) [((0 : Int),false)] (by simp) hsl (by
   intro x s;refine nodup_one (uq_fresh hE x s) ?_;intro a ha b hb;obtain ⟨da,ha⟩:=mem_SL.1 ha;obtain ⟨db,hb⟩:=mem_SL.1 hb;rw [hm] at ha hb;have e1:=((hw.2.2.2.2 _ _ _ _).1 ha).2.2.1;have e2:=((hw.2.2.2.2 _ _ _ _).1 hb).2.2.1;rw [e1,e2])
  rw [this,hel];show ((E.toNat : Nat) : Int) - 1 = E - 1;omega
end
end T
end
section
namespace T
def tk (d : DeedV) : Int:=if d.a.did = true then (if d.op.kind = 1 then 1 else if d.op.kind = 2 then -1 else 0) else 0
section
variable {g g' : Gh} {i j : Nat} {t : PThread} {P : PSt} {D D' : PlD} {o : OpV} {T N E L : Int}
instance (P : PSt) (t : PThread) : Decidable (Took P t):=inferInstanceAs (Decidable (_/\_))
theorem three_next (h : (P.step i t).2 = 3) : t.work.next = 13:=by
 unfold PSt.step at h;split at h
 ·cases h
 ·cases h
 ·cases h
 ·assumption
 ·split at h
  ·unfold PSt.read at h;simp only at h;split at h <;> cases h
  ·unfold PSt.update at h;split at h
   ·cases h
   ·unfold PSt.lock at h;split at h
    ·split at h <;> cases h
    ·cases h
   all_goals cases h
theorem sweep_eln (P : PSt) : P.doSweep.1.mem.es.length = P.mem.es.length/\P.doSweep.1.limit = P.limit/\P.doSweep.1.clock = P.clock:=by
 have hf : ∀ (ht : Bool) (tm : Int) (l : List Nat) (M : PMem),(M.freesIf ht tm l).es.length = M.es.length:=by
  intro ht tm l
  induction l with
  | nil=>intro M; rfl
  | cons n l ih =>
   intro M;unfold PMem.freesIf;rw [ih];split
   ·unfold PMem.free; split <;> simp
   ·rfl
 unfold PSt.doSweep;simp only;split
 ·exact ⟨rfl,rfl,rfl⟩
 ·split
  ·split <;> exact ⟨rfl,rfl,rfl⟩
  ·split
   ·exact ⟨(dropK _ P.mem.es P.mem.es.length).len,rfl,rfl⟩
   ·exact ⟨hf _ _ _ _,rfl,rfl⟩
end
end T
end
section
namespace T
section
variable {g : Gh} {i j b k : Nat} {t t0 : PThread} {P : PSt} {N E L T c kd ky : Int} {ps sp : List (Int × Int)} {D D' : PlD} {o : OpV}
theorem nextG_old (g : Gh) (P : PSt) (i : Nat) (t : PThread) {T : Int} (hT : T<=P.clock) : Rt (nextG g P i t) T = Rt g T:=by
 unfold Rt;have : (nextG g P i t).V T = g.V T:=by
  unfold nextG;split
  ·split
   ·show (if T = P.clock + 1 then _ else _) = _;rw [if_neg (by omega)]
   ·show (if T = P.clock + 1 then _ else _) = _;rw [if_neg (by omega)]
  ·rfl
 rw [this]
end
end T
end
section
namespace T
def nextR (R : Int->List (Int × Int)) (P : PSt) (t : PThread) : Int->List (Int × Int):=fun T=>if T = P.clock + 1 then shNew (R P.clock) t.work.kind t.work.key t.work.value else R T
structure To (P : PSt) (i : Nat) (t t' : PThread) : Prop where
 ts : (P.step i t).1.ts = P.ts.set i t'
 kd : t'.busy = true->t'.work.kind = t.work.kind
 n8 : t.work.next = 8->if P.limit<=P.clock then t' = { t with work:=t.work.settle { err:=8 } } else if t.work.kind = 2 then t' = { t with work:={ t.work with ans:={ did:=true,stamp:=P.clock + 1,value:=(P.mem.node t.work.ahead).value },next:=9 } } else t' = { t with work:={ t.work with ans:={ did:=true,stamp:=P.clock + 1 },next:=10 } }
 ck : (P.step i t).1.clock = if t.work.next = 8/\¬ P.limit<=P.clock/\(t.work.kind = 1\/t.work.kind = 2) then P.clock + 1 else P.clock
structure Ut (P : PSt) (i : Nat) (t t' : PThread) : Prop where
 ts : (P.step i t).1.ts = P.ts.set i t'
 bz : t.work.next≠13->t'.busy = true
 lo : t.work.next<=5->t'.work.next<=6
 n6 : t.work.next = 6->t'.work.next = 4\/t'.work.next = 7\/(t' = { t with work:=t.work.settle { stamp:=P.clock } }/\¬ P.outdated t.work = true/\(Ky P.mem t.work.ahead = t.work.key ↔ t.work.kind = 1))
 n7 : t.work.next = 7->(t' = { t with work:=t.work.settle { err:=7 } }/\(P.mem.room.1 < (P.needs t.work.kind).1\/P.mem.room.2 < (P.needs t.work.kind).2))\/t'.work.next = 8
 n9 : 9<=t.work.next->t.work.next<=12->t'.work.next = t.work.next + 1/\t'.work.ans = t.work.ans
 n13 : t.work.next = 13->t' = t.leave
section
variable {g : Gh} {P : PSt} {i : Nat} {t : PThread}
theorem Inv.both (h : Inv g P) (ht : P.ts[i]? = some t) (hb : t.busy = true) : ∃ t',To P i t t'/\((t.work.kind = 1\/t.work.kind = 2)->Ut P i t t'):=by
 have same : P.ts.set i t = P.ts:=by
  apply List.ext_getElem?;intro j;rw [List.getElem?_set];split
  ·next e=>subst e; split <;> simp_all
  ·rfl
 have hck : (P.step i t).1.clock = if t.work.next = 8/\¬ P.limit<=P.clock/\(t.work.kind = 1\/t.work.kind = 2) then P.clock + 1 else P.clock:=by
  have hc:=h.clockStep ht hb;by_cases hk : Took P t
  ·rw [if_pos hk] at hc;rw [if_pos ⟨hk.1,hk.2.2,hk.2.1⟩]; exact hc
  ·rw [if_neg hk] at hc;rw [if_neg (fun q=>hk ⟨q.1,q.2.2,q.2.1⟩)]; exact hc
 suffices hh : ∃ P' n,P.step i t = (P',n)/\∃ t',(P'.ts = P.ts.set i t'/\(t'.busy = true->t'.work.kind = t.work.kind)/\(t.work.next = 8->if P.limit<=P.clock then t' = { t with work:=t.work.settle { err:=8 } } else if t.work.kind = 2 then t' = { t with work:={ t.work with ans:={ did:=true,stamp:=P.clock + 1,value:=(P.mem.node t.work.ahead).value },next:=9 } } else t' = { t with work:={ t.work with ans:={ did:=true,stamp:=P.clock + 1 },next:=10 } })/\True)/\((t.work.kind = 1\/t.work.kind = 2)->P'.ts = P.ts.set i t'/\(t.work.next≠13->t'.busy = true)/\(t.work.next<=5->t'.work.next<=6)/\(t.work.next = 6->t'.work.next = 4\/t'.work.next = 7\/(t' = { t with work:=t.work.settle { stamp:=P.clock } }/\¬ P.outdated t.work = true/\(Ky P.mem t.work.ahead = t.work.key ↔ t.work.kind = 1)))/\(t.work.next = 7->(t' = { t with work:=t.work.settle { err:=7 } }/\(P.mem.room.1 < (P.needs t.work.kind).1\/P.mem.room.2 < (P.needs t.work.kind).2))\/t'.work.next = 8)/\(9<=t.work.next->t.work.next<=12->t'.work.next = t.work.next + 1/\t'.work.ans = t.work.ans)/\(t.work.next = 13->t' = t.leave)) by
  obtain ⟨P',n,hs,t',⟨a1,a2,a3,_⟩,b⟩:=hh;have e : (P.step i t).1.ts = P'.ts:=by rw [hs]
  exact ⟨t',⟨e.trans a1,a2,a3,hck⟩,fun hk=>⟨e.trans a1,(b hk).2.1,(b hk).2.2.1,(b hk).2.2.2.1,(b hk).2.2.2.2.1,(b hk).2.2.2.2.2.1,(b hk).2.2.2.2.2.2⟩⟩
 obtain ⟨P',m,hs,ho⟩:=h.out ht hb;refine ⟨P',m,hs,?_⟩;clear hs;cases ho with
 | come1 hn=>exact ⟨_,⟨rfl,fun _=>rfl,fun e=>by omega,trivial⟩,fun hk=>⟨rfl,fun _=>hb,fun _=>by show 2<=6; omega,fun e=>by omega,fun e=>by omega,fun e _=>by omega,fun e=>by omega⟩⟩
 | come2 hn=>exact ⟨_,⟨rfl,fun _=>rfl,fun e=>by omega,trivial⟩,fun hk=>⟨rfl,fun _=>hb,fun _=>by show 3<=6; omega,fun e=>by omega,fun e=>by omega,fun e _=>by omega,fun e=>by omega⟩⟩
 | come3 hn=>exact ⟨_,⟨rfl,fun _=>rfl,fun e=>by omega,trivial⟩,fun hk=>⟨rfl,fun _=>hb,fun _=>by show 4<=6; omega,fun e=>by omega,fun e=>by omega,fun e _=>by omega,fun e=>by omega⟩⟩
 | leave hn=>exact ⟨t.leave,⟨rfl,(fun q=>nomatch q),fun e=>by omega,trivial⟩,fun hk=>⟨rfl,fun q=>absurd hn q,fun e=>by omega,fun e=>by omega,fun e=>by omega,fun _ e=>by omega,fun _=>rfl⟩⟩
 | rwait hn hk'=>exact ⟨t,⟨same.symm,fun _=>rfl,fun e=>by omega,trivial⟩,fun hk=>⟨same.symm,fun _=>hb,fun _=>by omega,fun e=>by omega,fun e=>by omega,fun e _=>by omega,fun e=>by omega⟩⟩
 | rgo hn hk' hp k ek hsk=>exact ⟨{ t with work:=k },⟨rfl,fun _=>hsk.1,fun e=>by omega,trivial⟩,fun hk=>absurd hk (by omega)⟩
 | walkOn hn hk'=>exact ⟨_,⟨rfl,fun _=>rfl,fun e=>by omega,trivial⟩,fun hk=>⟨rfl,fun _=>hb,fun _=>by show t.work.next<=6; omega,fun e=>by omega,fun e=>by omega,fun e _=>by omega,fun e=>by omega⟩⟩
 | walkEnd hn hk'=>exact ⟨_,⟨rfl,fun _=>rfl,fun e=>by omega,trivial⟩,fun hk=>⟨rfl,fun _=>hb,fun _=>by show 5<=6; omega,fun e=>by omega,fun e=>by omega,fun e _=>by omega,fun e=>by omega⟩⟩
 | lwait hn hk'=>exact ⟨t,⟨same.symm,fun _=>rfl,fun e=>by omega,trivial⟩,fun hk=>⟨same.symm,fun _=>hb,fun _=>by omega,fun e=>by omega,fun e=>by omega,fun e _=>by omega,fun e=>by omega⟩⟩
 | lock hn hk' hh nn hnn h56=>exact ⟨_,⟨rfl,fun _=>rfl,fun e=>by omega,trivial⟩,fun hk=>⟨rfl,fun _=>hb,fun _=>by show nn<=6; omega,fun e=>by omega,fun e=>by omega,fun e _=>by omega,fun e=>by omega⟩⟩
 | home hn hk'=>exact ⟨_,⟨rfl,fun _=>rfl,fun e=>by omega,trivial⟩,fun hk=>⟨rfl,fun _=>hb,fun e=>by omega,fun _=>.inl rfl,fun e=>by omega,fun e _=>by omega,fun e=>by omega⟩⟩
 | same hn hk' ho hm=>exact ⟨_,⟨rfl,fun _=>rfl,fun e=>by omega,trivial⟩,fun hk=>⟨rfl,fun _=>hb,fun e=>by omega,fun _=>.inr (.inr ⟨rfl,ho,hm⟩),fun e=>by omega,fun e _=>by omega,fun e=>by omega⟩⟩
 | right hn hk'=>exact ⟨_,⟨rfl,fun _=>rfl,fun e=>by omega,trivial⟩,fun hk=>⟨rfl,fun _=>hb,fun e=>by omega,fun _=>.inr (.inl rfl),fun e=>by omega,fun e _=>by omega,fun e=>by omega⟩⟩
 | full hn hk' hr=>exact ⟨_,⟨rfl,fun _=>rfl,fun e=>by omega,trivial⟩,fun hk=>⟨rfl,fun _=>hb,fun e=>by omega,fun e=>by omega,fun _=>.inl ⟨rfl,hr⟩,fun e _=>by omega,fun e=>by omega⟩⟩
 | prepI hn hk'=>exact ⟨_,⟨rfl,fun _=>rfl,fun e=>by omega,trivial⟩,fun hk=>⟨rfl,fun _=>hb,fun e=>by omega,fun e=>by omega,fun _=>.inr rfl,fun e _=>by omega,fun e=>by omega⟩⟩
 | prepR hn hk'=>exact ⟨_,⟨rfl,fun _=>rfl,fun e=>by omega,trivial⟩,fun hk=>⟨rfl,fun _=>hb,fun e=>by omega,fun e=>by omega,fun _=>.inr rfl,fun e _=>by omega,fun e=>by omega⟩⟩
 | late hn hk' hl=>exact ⟨_,⟨rfl,fun _=>rfl,fun _=>by rw [if_pos hl],trivial⟩,fun hk=>⟨rfl,fun _=>hb,fun e=>by omega,fun e=>by omega,fun e=>by omega,fun e _=>by omega,fun e=>by omega⟩⟩
 | takeI hn hk' hl=>exact ⟨_,⟨rfl,fun _=>rfl,fun _=>by rw [if_neg hl,if_neg (by omega)],trivial⟩,fun hk=>⟨rfl,fun _=>hb,fun e=>by omega,fun e=>by omega,fun e=>by omega,fun e _=>by omega,fun e=>by omega⟩⟩
 | takeR hn hk' hl=>exact ⟨_,⟨rfl,fun _=>rfl,fun _=>by rw [if_neg hl,if_pos hk'],trivial⟩,fun hk=>⟨rfl,fun _=>hb,fun e=>by omega,fun e=>by omega,fun e=>by omega,fun e _=>by omega,fun e=>by omega⟩⟩
 | kill hn hk'=>exact ⟨_,⟨rfl,fun _=>rfl,fun e=>by omega,trivial⟩,fun hk=>⟨rfl,fun _=>hb,fun e=>by omega,fun e=>by omega,fun e=>by omega,fun _ _=>⟨by show 10 = t.work.next + 1; omega,rfl⟩,fun e=>by omega⟩⟩
 | link hn hk'=>exact ⟨_,⟨rfl,fun _=>rfl,fun e=>by omega,trivial⟩,fun hk=>⟨rfl,fun _=>hb,fun e=>by omega,fun e=>by omega,fun e=>by omega,fun _ _=>⟨by show 11 = t.work.next + 1; omega,rfl⟩,fun e=>by omega⟩⟩
 | stamp hn hk'=>exact ⟨_,⟨rfl,fun _=>rfl,fun e=>by omega,trivial⟩,fun hk=>⟨rfl,fun _=>hb,fun e=>by omega,fun e=>by omega,fun e=>by omega,fun _ _=>⟨by show 12 = t.work.next + 1; omega,rfl⟩,fun e=>by omega⟩⟩
 | unlock hn hk'=>exact ⟨_,⟨rfl,fun _=>rfl,fun e=>by omega,trivial⟩,fun hk=>⟨rfl,fun _=>hb,fun e=>by omega,fun e=>by omega,fun e=>by omega,fun _ _=>⟨by show 13 = t.work.next + 1; omega,rfl⟩,fun e=>by omega⟩⟩
theorem Inv.goTo (h : Inv g P) (ht : P.ts[i]? = some t) (hb : t.busy = true) : ∃ t',To P i t t':=by
 obtain ⟨t',h1,_⟩:=h.both ht hb;exact ⟨t',h1⟩
theorem Inv.upTo (h : Inv g P) (ht : P.ts[i]? = some t) (hb : t.busy = true) (hk : t.work.kind = 1\/t.work.kind = 2) : ∃ t',Ut P i t t':=by
 obtain ⟨t',_,h1⟩:=h.both ht hb;exact ⟨t',h1 hk⟩
end
def bu8 (t : PThread) : Bool:=t.busy && (decide (t.work.kind = 1\/t.work.kind = 2) && decide (t.work.next<=8))
def bi8 (t : PThread) : Bool:=t.busy && (decide (t.work.kind = 1) && decide (t.work.next<=8))
structure Nums (R : Int->List (Int × Int)) (P : PSt) (puts takes : Int) : Prop where
 ck : P.clock + count bu8 P.ts<=puts + takes
 ln : ∀ T,0<=T->T<=P.clock->((R T).length : Int) + count bi8 P.ts<=puts
section
variable {g : Gh} {R : Int->List (Int × Int)} {P : PSt} {i : Nat} {t : PThread} {puts takes : Int}
theorem filters_le {α : Type} (p q : α->Bool) : ∀ (l : List α),(∀ x,p x = true->q x = false)->(l.filter p).length + (l.filter q).length<=l.length
 | [],_=>by simp
 | x :: r,h=>by
  have ih:=filters_le p q r h;cases hp : p x
  ·cases hq : q x
   ·simp [hp,hq]; omega
   ·simp [hp,hq]; omega
  ·have hq:=h x hp;simp [hp,hq]; omega
theorem shNew_len (R : List (Int × Int)) (kd ky v : Int) : (shNew R kd ky v).length<=R.length + (if kd = 1 then 1 else 0):=by
 have hf:=filters_le (shSide ky true) (shSide ky false) R (fun x hx=>by unfold shSide at *; simp at hx ⊢; omega);unfold shNew;split
 ·split
  ·unfold shPut shLo shHi;simp only [List.length_append,List.length_singleton];omega
  ·unfold shDel shLo shHi;simp only [List.length_append];omega
 ·omega
theorem set_inj {ts : List PThread} {a b : PThread} (hi : i < ts.length) (h : ts.set i a = ts.set i b) : a = b:=by
 have : (ts.set i a)[i]? = (ts.set i b)[i]?:=by rw [h]
 simp [hi] at this;exact this
theorem Inv.eight (h : Inv g P) (ht : P.ts[i]? = some t) (hb : t.busy = true) : ∃ t',(P.step i t).1.ts = P.ts.set i t'/\(bu8 t' = true->bu8 t = true)/\(bi8 t' = true->bi8 t = true)/\((P.step i t).1.clock = P.clock\/((P.step i t).1.clock = P.clock + 1/\bu8 t = true/\bu8 t' = false/\bi8 t' = false/\(t.work.kind = 1->bi8 t = true))):=by
 have hi:=(List.getElem?_eq_some_iff.1 ht).1;obtain ⟨t',hto⟩:=h.goTo ht hb;refine ⟨t',hto.ts,?_⟩;by_cases hk : t.work.kind = 1\/t.work.kind = 2
 ·obtain ⟨t2,hu⟩:=h.upTo ht hb hk;have e2 : t2 = t':=set_inj hi (hu.ts.symm.trans hto.ts);subst e2;have hb8 : t.work.next<=8->bu8 t = true:=fun q=>by unfold bu8; simp [hb,hk,q]
  have hhi : ¬ t.work.next<=8->¬ (t2.busy = true/\t2.work.next<=8):=by
   rintro q ⟨q1,q2⟩;have hnx:=(h.th i t ht).nx hb;by_cases h13 : t.work.next = 13
   ·rw [hu.n13 h13] at q1; exact nomatch q1
   ·have:=(hu.n9 (by omega) (by omega)).1; omega
  refine ⟨fun q=>?_,fun q=>?_,?_⟩
  ·by_cases h8 : t.work.next<=8
   ·exact hb8 h8
   ·unfold bu8 at q;simp only [Bool.and_eq_true,decide_eq_true_eq] at q;exact absurd ⟨q.1,q.2.2⟩ (hhi h8)
  ·unfold bi8 at q;simp only [Bool.and_eq_true,decide_eq_true_eq] at q;by_cases h8 : t.work.next<=8
   ·have:=hto.kd q.1
    unfold bi8;simp [hb,h8,<- this,q.2.1]
   ·exact absurd ⟨q.1,q.2.2⟩ (hhi h8)
  ·rw [hto.ck];split
   ·next hc =>
    right;have hn8:=hto.n8 hc.1;rw [if_neg hc.2.1] at hn8;have h9 : ¬ t2.work.next<=8:=by
     split at hn8
     ·rw [hn8]; show ¬ 9<=8; omega
     ·rw [hn8]; show ¬ 10<=8; omega
    refine ⟨rfl,hb8 (by omega),by unfold bu8; simp [h9],by unfold bi8; simp [h9],fun q=>by unfold bi8; simp [hb,q,hc.1]⟩
   ·exact .inl rfl
 ·have hno : ∀ u : PThread,(u.busy = true->u.work.kind = t.work.kind)->bu8 u = false/\bi8 u = false:=by
   intro u hu;unfold bu8 bi8;cases hbu : u.busy
   ·exact ⟨rfl,rfl⟩
   ·rw [hu hbu];simp [hk];omega
  have h1:=hno t' hto.kd;refine ⟨fun q=>absurd (h1.1.symm.trans q) (by decide),fun q=>absurd (h1.2.symm.trans q) (by decide),.inl ?_⟩;rw [hto.ck,if_neg (fun q=>hk q.2.2)]
theorem Nums.step (hn : Nums R P puts takes) (h : Inv g P) (ht : P.ts[i]? = some t) (hb : t.busy = true) (h0 : 0<=P.clock) : ((P.step i t).1.clock = P.clock->Nums R (P.step i t).1 puts takes)/\((P.step i t).1.clock = P.clock + 1->Nums (nextR R P t) (P.step i t).1 puts takes):=by
 obtain ⟨t',e1,e2,e3,e4⟩:=h.eight ht hb;have c8:=count_flip bu8 t' ht;have ci:=count_flip bi8 t' ht;have c8' : count bu8 (P.ts.set i t')<=count bu8 P.ts:=by
  cases q : bu8 t'
  ·rw [q] at c8; simp only [Bool.false_eq_true,if_false] at c8; split at c8 <;> omega
  ·rw [q,e2 q] at c8; omega
 have ci' : count bi8 (P.ts.set i t')<=count bi8 P.ts:=by
  cases q : bi8 t'
  ·rw [q] at ci; simp only [Bool.false_eq_true,if_false] at ci; split at ci <;> omega
  ·rw [q,e3 q] at ci; omega
 refine ⟨fun hc=>⟨?_,?_⟩,fun hc=>?_⟩
 ·rw [hc,e1]; have:=hn.ck; omega
 ·intro T hT0 hT;rw [e1]
  have:=hn.ln T hT0 (by omega)
  omega
 ·rcases e4 with q | ⟨_,q1,q2,q3,q4⟩
  ·omega
  ·rw [q1,q2] at c8;simp only [Bool.false_eq_true,if_false,if_true] at c8;refine ⟨by rw [hc,e1]; have:=hn.ck; omega,?_⟩;intro T hT0 hT;rw [e1];unfold nextR;split
   ·have hl:=hn.ln P.clock h0 (Int.le_refl _);have hs:=shNew_len (R P.clock) t.work.kind t.work.key t.work.value;by_cases hk1 : t.work.kind = 1
    ·rw [q3,q4 hk1] at ci;simp only [Bool.false_eq_true,if_false,if_true] at ci;rw [if_pos hk1] at hs;omega
    ·rw [if_neg hk1] at hs;omega
   ·have:=hn.ln T hT0 (by omega)
    omega
end
end T
end
end Go.Proofs.YtfccelbmacjifabGreat
