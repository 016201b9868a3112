import Derived.Test.YtfccelbmacjifabGreatP0
import Derived.Test.YtfccelbmacjifabGreatP28
import Derived.Test.YtfccelbmacjifabGreatP26
set_option linter.unusedSimpArgs false
set_option maxRecDepth 100000
set_option maxHeartbeats 4000000
namespace Go.Proofs.YtfccelbmacjifabGreat
section
namespace T
theorem srt_ext : ∀ {R R' : List (Int × Int)},Srt R->Srt R'->(∀ p,p ∈ R ↔ p ∈ R')->R = R'
 | [],[],_,_,_=>rfl
 | [],p :: _,_,_,h=>absurd ((h p).2 (by simp)) (by simp)
 | p :: _,[],_,_,h=>absurd ((h p).1 (by simp)) (by simp)
 | p :: R,q :: R',h1,h2,h=>by
  obtain ⟨a1,a2⟩:=List.pairwise_cons.1 h1;obtain ⟨b1,b2⟩:=List.pairwise_cons.1 h2;have e : p = q:=by
   rcases List.mem_cons.1 ((h p).1 (by simp)) with e | e
   ·exact e
   ·rcases List.mem_cons.1 ((h q).2 (by simp)) with e' | e'
    ·exact e'.symm
    ·have:=b1 p e; have:=a1 q e'; omega
  subst e
  congr 1
  refine srt_ext a2 b2 (fun r=>?_);have hr:=h r;simp only [List.mem_cons] at hr;constructor
  ·intro hm;rcases hr.1 (.inr hm) with e | e
   ·have:=a1 r hm; rw [e] at this; omega
   ·exact e
  ·intro hm;rcases hr.2 (.inr hm) with e | e
   ·have:=b1 r hm; rw [e] at this; omega
   ·exact e
section
variable {g g' : Gh} {T : Int} {i j : Nat} {t t' u : PThread} {P P' : PSt} {key : Int}
theorem lea_fn {t : Tr} (hd : t.Dj) {x q w q' w' : Int} (h1 : t.Lea x q w) (h2 : t.Lea x q' w') : q = q':=Rt_mem.lea_fn hd h1 h2
theorem Inv.tookRows (h : Inv g P) (ht : P.ts[i]? = some t) (hb : t.busy = true) (hk : Took P t) :
  Rt (nextG g P i t) (P.clock + 1) = shNew (Rt g P.clock) t.work.kind t.work.key t.work.value/\shUpd (Rt g P.clock) t.work.kind t.work.key = true/\(t.work.kind = 2->(P.mem.node t.work.ahead).value = (shVal (Rt g P.clock) t.work.key).1):=by
 have hT:=h.th i t ht;have hS:=h.step ht hb;have hck:=h.clockStep ht hb;rw [if_pos hk] at hck;obtain ⟨hn,hkd,hl⟩:=id hk;have hgo:=h.found ht hb (by omega) (by omega);have hky:=hT.ky hb (by omega);have hg:=h.n.gt;have hg':=hS.n.gt;rw [hck] at hg';have hval:=Rt_val hg hky.2;rw [hgo] at hval;simp only at hval;have hc7:=hT.c7 hb (by omega) (by omega);rcases hkd with k1 | k2
 ·have hne : Ky P.mem t.work.ahead≠t.work.key:=fun e=>by have:=hc7.1 e; omega
  rw [if_neg hne] at hval;have hu : shUpd (Rt g P.clock) t.work.kind t.work.key = true:=by unfold shUpd; rw [hval,k1]; rfl
  refine ⟨?_,hu,fun e=>by omega⟩;unfold shNew;rw [hu,if_pos rfl,if_pos k1];refine srt_ext (Rt_srt hg') ((Rt_srt hg).put _ _) ?_;rintro ⟨q,w⟩;rw [mem_shPut,Rt_mem hg',Rt_mem hg];obtain ⟨a,n,qn⟩:=hT.f8 hb k1 hn;have hVn : (nextG g P i t).V (P.clock + 1) = (g.V P.clock).ins t.work.key t.work.value a n:=by
   unfold nextG;rw [if_pos hk,if_neg (by omega)];have e1 : t.work.made[0]?.getD 0 = a:=by rw [qn.md]; rfl
   have e2 : t.work.made[1]?.getD 0 = n:=by rw [qn.md]; rfl
   rw [e1,e2];show (if P.clock + 1 = P.clock + 1 then _ else _) = _;rw [if_pos rfl]
  rw [hVn];have nokey : ∀ x w,(g.V P.clock).Lea x t.work.key w->False:=by
   intro x w hx
   have:=Tr.goal_key hg.ok hx
   rw [hgo] at this;simp only [Prod.mk.injEq] at this;exact hne this.2.1
  constructor
  ·rintro ⟨x,h1,h2⟩;rcases Tr.ins_lea.1 h1 with e | ⟨e1,e2,e3⟩
   ·left;refine ⟨⟨x,e,h2⟩,?_⟩;intro e1;have e1 : q = t.work.key:=e1;subst e1; exact nokey x w e
   ·right; rw [e2,e3]
  ·rintro (⟨⟨x,h1,h2⟩,h3⟩ | e)
   ·exact ⟨x,Tr.ins_lea.2 (.inl h1),h2⟩
   ·simp only [Prod.mk.injEq] at e;exact ⟨a,Tr.ins_lea.2 (.inr ⟨rfl,e.1,e.2⟩),qn.z.2.2.1⟩
 ·have he : Ky P.mem t.work.ahead = t.work.key:=hc7.2 k2;rw [if_pos he] at hval;have hu : shUpd (Rt g P.clock) t.work.kind t.work.key = true:=by unfold shUpd; rw [hval,k2]; rfl
  refine ⟨?_,hu,fun _=>by rw [hval]⟩;unfold shNew;rw [hu,if_pos rfl,if_neg (by omega)];refine srt_ext (Rt_srt hg') ((Rt_srt hg).del _) ?_;rintro ⟨q,w⟩;rw [mem_shDel,Rt_mem hg',Rt_mem hg];have hcut:=h.cut ht hb (by omega) (by omega) k2;have hVn : (nextG g P i t).V (P.clock + 1) = (g.V P.clock).del t.work.key:=by
   unfold nextG;rw [if_pos hk,if_pos k2];show (if P.clock + 1 = P.clock + 1 then _ else _) = _;rw [if_pos rfl]
  rw [hVn];have hgl:=Tr.goal_lea (k:=t.work.key) (g.V P.clock);rw [hgo] at hgl;simp only at hgl;constructor
  ·rintro ⟨x,h1,h2⟩;obtain ⟨e1,e2⟩:=(Tr.del_lea hg.dj hg.z hcut).1 h1;refine ⟨⟨x,e1,h2⟩,?_⟩;intro e3;have e3 : q = t.work.key:=e3;subst e3
   have:=Tr.goal_key hg.ok e1
   rw [this] at e2; exact e2 rfl
  ·rintro ⟨⟨x,h1,h2⟩,h3⟩;refine ⟨x,(Tr.del_lea hg.dj hg.z hcut).2 ⟨h1,?_⟩,h2⟩;intro e;rw [hgo] at e;have e : x = t.work.ahead:=e;rw [e] at h1
   have:=lea_fn hg.dj h1 hgl
   exact h3 (this.trans he)
theorem Inv.idle6 (h : Inv g P) (ht : P.ts[i]? = some t) (hb : t.busy = true) (hn : t.work.next = 6) (ho : ¬ P.outdated t.work = true) : shVal (Rt g P.clock) t.work.key = (if Ky P.mem t.work.ahead = t.work.key then ((P.mem.node t.work.ahead).value,true) else (0,false)):=by
 have hT:=h.th i t ht;have hk:=hT.upd hb (by omega) (by omega);have hout:=h.outd ht hb (by omega) (by omega);obtain ⟨f1,f2,f3⟩:=Classical.not_not.1 (fun hh=>ho (hout.2 hh));have hS:=hT.hStand hb (by omega) (by omega);have x0:=h.inTree ht hS.1 hS.2 (by omega) f1;have s0 : t.work.stand = 0->sd P.mem t.work.stand t.work.key = false:=fun e=>by rw [e]; exact sd0 h.n.n0.2.1 _
 have ed1:=h.edge (s:=sd P.mem t.work.stand t.work.key) ht hS.1 hS.2 (by omega) (by rcases x0 with e | e; exact .inl ⟨e,s0 e⟩; exact .inr e.1);rw [f2] at ed1;have hgo:=h.n.goal ed1 (h.stOk ht hb (by omega) (by omega) ed1) rfl (hT.cs hb (by omega) (by omega)).2.2.1;have hval:=Rt_val h.n.gt (hT.ky hb (by omega)).2;rw [hgo] at hval;exact hval
end
end T
end
section
namespace T
theorem cnt_eq {α : Type} (p : α->Bool) : ∀ (l m : List α),m.length = l.length->(∀ (j : Nat) a b,l[j]? = some a->m[j]? = some b->p b = p a)->count p m = count p l
 | [],[],_,_=>rfl
 | [],b :: m,h,_=>by simp at h
 | a :: l,[],h,_=>by simp at h
 | a :: l,b :: m,h,hp=>by
  have ih:=cnt_eq p l m (by simpa using h) (fun j a b h1 h2=>hp (j + 1) a b (by simpa using h1) (by simpa using h2));have h0:=hp 0 a b rfl rfl;unfold count at *;simp only [List.filter_cons,h0];split <;> simp [ih]
theorem room_ns {M M' : PMem} (hl : M'.ns.length = M.ns.length) (hu : ∀ x,(M'.node x).used = (M.node x).used) : M'.room.1 = M.room.1:=by
 have : count (fun x : PNode=>!x.used) M'.ns = count (fun x : PNode=>!x.used) M.ns:=by
  refine cnt_eq _ _ _ hl ?_;intro j a b ha hb
  have:=hu (j : Int)
  rw [(node_get ha).1,(node_get hb).1] at this;rw [this]
 show ((count _ M'.ns : Nat) : Int) = (count _ M.ns : Nat);rw [this]
theorem room_es {M M' : PMem} (h : M'.es = M.es) : M'.room.2 = M.room.2:=by
 show ((count _ M'.es : Nat) : Int) = (count _ M.es : Nat);rw [h]
theorem room_setE {M : PMem} {k : Nat} {e y : PEntry} (h : M.es[k]? = some e) (hu : y.used = e.used) : count (fun x : PEntry=>!x.used) (M.es.set k y) = count (fun x : PEntry=>!x.used) M.es:=by
 refine cnt_eq _ _ _ (by simp) ?_;intro j a b ha hb;rw [List.getElem?_set] at hb;by_cases ej : k = j
 ·subst ej;have hk:=(List.getElem?_eq_some_iff.1 h).1;simp [hk] at hb;rw [h] at ha; injection ha with ha
  subst ha; subst hb; rw [hu]
 ·rw [if_neg ej,ha] at hb; injection hb with hb; rw [hb]
theorem room_stamp {M : PMem} {n d : Int} {s : Bool} (st : Int) (_hw : Wm M) (h : Pd M n s = [d]) : (M.stamp n s st).room = M.room:=by
 obtain ⟨k,e,h1,h2,h3,h4⟩:=pending_at h;have he : M.ent (k : Int) = e:=by simp [PMem.ent,h1]
 have heq : M.stamp n s st = { M with es:=M.es.set k { e with pending:=false,stamp:=st } }:=by
  unfold PMem.stamp;rw [h4,hasE_of h1,he]; simp [PMem.setE]
 have:=room_setE (M:=M) (y:={ e with pending:=false,stamp:=st }) h1 rfl
 rw [heq];unfold PMem.room;simp only;rw [this]
theorem room_unpend {M : PMem} {n d : Int} {s : Bool} (hw : Wm M) (h : Pd M n s = [d]) : (M.unpend n s).room.1 = M.room.1/\(M.unpend n s).room.2 = M.room.2 + 1:=by
 obtain ⟨k,e,h1,h2,_,h4⟩:=pending_at h;have heq : M.unpend n s = { M with es:=M.es.set k PEntry.zero }:=by
  unfold PMem.unpend;rw [h4,hasE_of h1]; simp [PMem.setE]
 have hu : e.used = true:=by
  simp only [isPd,Bool.and_eq_true] at h2;cases hu : e.used
  ·rw [hw.wfe e (List.mem_of_getElem? h1) hu] at h2; exact nomatch h2.1
  ·rfl
 have:=count_flip (fun x : PEntry=>!x.used) PEntry.zero h1
 simp only [hu,PEntry.zero,Bool.not_true,Bool.not_false,Bool.false_eq_true,if_true,if_false] at this;rw [heq];refine ⟨rfl,?_⟩;show ((count (fun x : PEntry=>!x.used) (M.es.set k PEntry.zero) : Nat) : Int) = (count (fun x : PEntry=>!x.used) M.es : Nat) + 1;have e2 : (PEntry.zero : PEntry) = ⟨false,false,0,false,0,0⟩:=rfl;rw [e2];omega
theorem cnt_free (n : Int) : ∀ (l : List PEntry),count (fun x : PEntry=>!x.used) (l.map fun e=>if ofNode n e then PEntry.zero else e) = count (fun x : PEntry=>!x.used) l + count (ofNode n) l
 | []=>rfl
 | a :: l=>by
  have ih:=cnt_free n l;unfold count at *;by_cases ho : ofNode n a = true
  ·have hu : a.used = true:=by simp only [ofNode,Bool.and_eq_true] at ho; exact ho.1
   simp only [List.map_cons,List.filter_cons,ho,if_true,hu,Bool.not_true,Bool.false_eq_true,if_false,List.length_cons];have : (PEntry.zero.used) = false:=rfl;simp only [this,Bool.not_false,if_true,List.length_cons];omega
  ·simp only [List.map_cons,List.filter_cons,ho,if_false,Bool.false_eq_true];by_cases hu : a.used = true
   ·simp only [hu,Bool.not_true,Bool.false_eq_true,if_false]; omega
   ·simp only [hu,Bool.not_false,if_true,List.length_cons]; omega
theorem room_free {M : PMem} {n : Int} (hu : Us M n) (h0 : n≠0/\n≠1) : (M.free n).room.1 = M.room.1 + 1/\(M.free n).room.2 = M.room.2 + count (ofNode n) M.es:=by
 have hh:=hasN_used hu;have heq : M.free n = { ns:=M.ns.set n.toNat PNode.zero,es:=M.es.map fun e=>if ofNode n e then PEntry.zero else e }:=by
  unfold PMem.free;rw [if_pos (by simp [hh,h0])]
 obtain ⟨k,e,rfl,h1,h2⟩:=node_at hh;rw [heq];have hue : e.used = true:=by simp only [Us] at hu; rw [h2] at hu; exact hu
 constructor
 ·have:=count_flip (fun x : PNode=>!x.used) PNode.zero h1
  have hz : PNode.zero.used = false:=rfl;simp only [hue,hz,Bool.not_true,Bool.not_false,Bool.false_eq_true,if_true,if_false] at this;show ((count (fun x : PNode=>!x.used) (M.ns.set (k : Int).toNat PNode.zero) : Nat) : Int) = (count (fun x : PNode=>!x.used) M.ns : Nat) + 1;simp only [Int.toNat_natCast];omega
 ·have:=cnt_free (k : Int) M.es
  show ((count (fun x : PEntry=>!x.used) (M.es.map fun e=>if ofNode k e then PEntry.zero else e) : Nat) : Int) = (count (fun x : PEntry=>!x.used) M.es : Nat) + (count (ofNode k) M.es : Nat);omega
theorem cnt_of {M : PMem} (hw : Wm M) (n : Int) : count (ofNode n) M.es = (Pd M n false).length + (Pd M n true).length + (count (isSt n false) M.es + count (isSt n true) M.es):=by
 have key : ∀ l : List PEntry,(∀ e ∈ l,e ∈ M.es)->count (ofNode n) l = (l.filter (isPd n false)).length + (l.filter (isPd n true)).length + (count (isSt n false) l + count (isSt n true) l):=by
  intro l
  induction l with
  | nil=>intro _; rfl
  | cons a l ih =>
   intro hl;have ih:=ih (fun e he=>hl e (by simp [he]));have hz:=hw.wfe a (hl a (by simp));unfold count at *;simp only [List.filter_cons];have h5 : ofNode n a = (isPd n false a || isPd n true a || isSt n false a || isSt n true a)/\(isPd n false a = true->isPd n true a = false/\isSt n false a = false/\isSt n true a = false)/\(isPd n true a = true->isSt n false a = false/\isSt n true a = false)/\(isSt n false a = true->isSt n true a = false):=by
    unfold ofNode isPd isSt;cases hu : a.used
    ·rw [hz hu]; simp [PEntry.zero]
    ·cases a.pending <;> cases a.side <;> cases (a.src == n) <;> simp
   obtain ⟨h1,h2,h3,h4⟩:=h5;rw [h1];cases q1 : isPd n false a
   ·cases q2 : isPd n true a
    ·cases q3 : isSt n false a
     ·cases q4 : isSt n true a <;> simp <;> omega
     ·rw [h4 q3]; simp; omega
    ·rw [(h3 q2).1,(h3 q2).2]; simp; omega
   ·rw [(h2 q1).1,(h2 q1).2.1,(h2 q1).2.2]; simp; omega
 rw [key M.es (fun e he=>he)];unfold Pd
 simp
section
variable {g g' : Gh} {T : Int} {i j : Nat} {t t' u : PThread} {P P' : PSt} {key : Int}
theorem Inv.lateRoom (h : Inv g P) (ht : P.ts[i]? = some t) (hb : t.busy = true) (hn : t.work.next = 8) : ((P.mem.unpend t.work.tsrc t.work.tside).frees t.work.made).room.1 = P.mem.room.1 + (if t.work.kind = 1 then 2 else 0)/\((P.mem.unpend t.work.tsrc t.work.tside).frees t.work.made).room.2 = P.mem.room.2 + (if t.work.kind = 1 then 3 else 1):=by
 have hT:=h.th i t ht;have m:=h.mine ht hb (by omega) (by omega);obtain ⟨d0,hp⟩:=h.pdOwn ht hb (by omega) (by omega);obtain ⟨w1,w2,w3,w4⟩:=unpend_e h.wm hp;have hnd:=node_ns w1;obtain ⟨r1,r2⟩:=room_unpend h.wm hp;have hts:=m.ts (by omega) (by omega);obtain ⟨M0,hM0⟩ : ∃ M0,M0 = P.mem.unpend t.work.tsrc t.work.tside:=⟨_,rfl⟩;rw [<- hM0] at w1 w2 w3 w4 hnd r1 r2 ⊢;have nost : ∀ (M : PMem) (x : Int),(∀ b s d,¬ Sd M x b s d)->∀ b,count (isSt x b) M.es = 0:=by
  intro M x hh b;unfold count;rw [List.length_eq_zero_iff,List.filter_eq_nil_iff];intro e he hs;exact hh b e.stamp e.dst ⟨e,he,hs,rfl,rfl⟩
 rcases m.kd with k1 | k2
 ·obtain ⟨a,n,q⟩:=hT.f8 hb k1 hn;rw [if_pos k1,if_pos k1,q.md];show ((M0.free a).free n).room.1 = _/\((M0.free a).free n).room.2 = _;have hta : ∀ x,Ho P.mem x = -1->x≠t.work.tsrc:=fun x hx e=>by have:=hts.2.1; rw [<- e,hx] at this; omega
  have na:=hta a q.da.2.2.2.2.2;have nn:=hta n q.dn.2.2.2.2;have ua : Us M0 a:=by simp only [Us]; rw [hnd]; exact q.ua.1
  obtain ⟨a1,a2,a3,a4,a5⟩:=free_e (n:=a) w2 (hasN_used ua) ⟨q.z.1,q.z.2.2.1⟩;obtain ⟨b1,b2⟩:=room_free ua ⟨q.z.1,q.z.2.2.1⟩;have un : Us (M0.free a) n:=by simp only [Us]; rw [a3,if_neg (fun e=>q.ne e.symm),hnd]; exact q.ua.2
  obtain ⟨c1,c2⟩:=room_free un ⟨q.z.2.1,q.z.2.2.2⟩;have ca : count (ofNode a) M0.es = 0:=by
   rw [cnt_of w2,w3,w3,if_neg (fun e=>na e.1),if_neg (fun e=>na e.1),q.pa,q.pa];rw [nost M0 a (fun b s d hh=>q.sa b s d ((w4 _ _ _ _).1 hh)),nost M0 a (fun b s d hh=>q.sa b s d ((w4 _ _ _ _).1 hh))]
   rfl
  have cn : count (ofNode n) (M0.free a).es = 2:=by
   rw [cnt_of a2,a4,a4,if_neg (fun e=>q.ne e.symm),if_neg (fun e=>q.ne e.symm),w3,w3,if_neg (fun e=>nn e.1),if_neg (fun e=>nn e.1),q.pn,q.pn];rw [nost (M0.free a) n (fun b s d hh=>q.sn b s d ((w4 _ _ _ _).1 ((a5 _ _ _ _).1 hh).2)),nost (M0.free a) n (fun b s d hh=>q.sn b s d ((w4 _ _ _ _).1 ((a5 _ _ _ _).1 hh).2))]
   rfl
  rw [ca] at b2;rw [cn] at c2;constructor <;> omega
 ·rw [if_neg (by omega),if_neg (by omega),(hT.q8 hb k2 (by omega) (by omega)).2.2];show M0.room.1 = _/\M0.room.2 = _;constructor <;> omega
theorem Inv.roomSame (h : Inv g P) (ht : P.ts[i]? = some t) (hb : t.busy = true) (h7 : t.work.next≠7) (h8 : t.work.next = 8->¬ P.limit<=P.clock) : (P.step i t).1.mem.room = P.mem.room:=by
 have hl:=step_len (P:=P) (i:=i) (t:=t);have hT:=h.th i t ht;obtain ⟨P',n,hs,ho⟩:=h.out ht hb;rw [hs] at hl ⊢;have mk : ∀ {M : PMem},M.ns.length = P.mem.ns.length->(∀ x,(M.node x).used = (P.mem.node x).used)->M.room.2 = P.mem.room.2->M.room = P.mem.room:=by
  intro M h1 h2 h3;exact Prod.ext (room_ns h1 h2) h3
 cases ho with
 | lock hn hk hh nn hnn hn56 =>
  refine mk hl ?_ (room_es (modN_ents _ _ _));intro x;show ((P.mem.modN _ _).node x).used = _;rw [node_modN (hasN_used (h.lockIs ht hb hn).1)];split
  ·next e=>rw [e]
  ·rfl
 | home=>exact mk hl (fun x=>((unlock_hold P.mem i).to x).1) (room_es rfl)
 | full hn=>exact absurd hn h7
 | prepI hn=>exact absurd hn h7
 | prepR hn=>exact absurd hn h7
 | late hn hk hll=>exact absurd hll (h8 hn)
 | takeI hn hk hll a n q M1 em nd pd sdd =>
  show M1.room = _;rw [em,q.md];show ((P.mem.stampNew a (P.clock + 1)).stampNew n (P.clock + 1)).room = _;rw [stampNew_no q.pa];unfold PMem.stampNew;obtain ⟨a1,a2,a3,a4⟩:=stamp_e (P.clock + 1) h.wm (q.pn false);rw [room_stamp (P.clock + 1) a2 (d:=kid P.mem t.work a true) (by rw [a3,if_neg (by simp)]; exact q.pn true),room_stamp (P.clock + 1) h.wm (q.pn false)]
 | kill hn hk M1 em es =>
  have m:=h.mine ht hb (by omega) (by omega);have hto : P.takenOut t.work = [t.work.ahead,t.work.stand]:=by unfold PSt.takenOut; rw [if_pos h.kind]
  refine mk hl ?_ (room_es es);intro x;show (M1.node x).used = _;rw [em,hto,(kills_two (h.usedGd (.inr m.ah)) m.us h.wm).2.2 x]
 | link hn hk M1 em es =>
  refine mk hl ?_ (room_es es);intro x;have m:=h.mine ht hb (by omega) (by omega);obtain ⟨d0,hp⟩:=h.pdOwn ht hb (by omega) (by omega);have hts:=m.ts (by omega) (by omega);show (M1.node x).used = _;rw [em];unfold PMem.lead;split
  ·rw [node_modN (hasN_used hts.1)];split
   ·next e=>rw [e]
   ·rfl
  ·rfl
 | stamp hn hk d0 hp M1 em =>
  show M1.room = _;rw [em]; exact room_stamp _ h.wm hp
 | unlock hn hk M1 em es =>
  refine mk hl ?_ (room_es es);intro x;show (M1.node x).used = _;rw [em];have hq:=unlock_hold P.mem i;split
  ·next hh =>
   have m:=h.mine ht hb (by omega) (by omega);have hto : P.takenOut t.work = [t.work.ahead,t.work.stand]:=by unfold PSt.takenOut; rw [if_pos h.kind]
   rw [hto,(retires_two (by simp only [Us]; rw [(hq.to _).1]; exact h.usedGd (.inr m.ah)) (by simp only [Us]; rw [(hq.to _).1]; exact m.us) (h.wm.unlock i)).2.2 x];split <;> exact (hq.to x).1
  ·exact (hq.to x).1
 | _=>rfl
end
end T
end
section
namespace T
def SL (M : PMem) (x : Int) (s : Bool) : List Int:=(M.es.filter (isSt x s)).map PEntry.stamp
def UQ (M : PMem) : Prop:=∀ x s,(SL M x s).Nodup
theorem mem_SL {M : PMem} {x st : Int} {s : Bool} : st ∈ SL M x s ↔ ∃ d,Sd M x s st d:=by
 unfold SL Sd;rw [List.mem_map];constructor
 ·rintro ⟨e,he,rfl⟩;rw [List.mem_filter] at he;exact ⟨e.dst,e,he.1,he.2,rfl,rfl⟩
 ·rintro ⟨d,e,he,hs,rfl,_⟩;exact ⟨e,List.mem_filter.2 ⟨he,hs⟩,rfl⟩
theorem sl_es {M M' : PMem} (h : M'.es = M.es) (x : Int) (s : Bool) : SL M' x s = SL M x s:=by unfold SL; rw [h]
theorem filt_ins {α β : Type} (p : α->Bool) (f : α->β) : ∀ {l : List α} {k : Nat} {x : α} (y : α),l[k]? = some x->p x = false->p y = true->List.Perm (((l.set k y).filter p).map f) (f y :: (l.filter p).map f)
 | [],k,x,y,h=>by simp at h
 | z :: r,0,x,y,h=>by
  intro hx hy;simp at h; subst h;simp [hx,hy]
 | z :: r,k + 1,x,y,h=>by
  intro hx hy;have ih:=filt_ins p f y (l:=r) (k:=k) (by simpa using h) hx hy;simp only [List.set_cons_succ,List.filter_cons];split
  ·simp only [List.map_cons];exact (ih.cons _).trans (List.Perm.swap _ _ _)
  ·exact ih
theorem sl_setE {M : PMem} {k : Nat} {e y : PEntry} (h : M.es[k]? = some e) (h1 : ∀ x s,isSt x s e = false) (h2 : ∀ x s,isSt x s y = false) (x : Int) (s : Bool) : SL { M with es:=M.es.set k y } x s = SL M x s:=filt_set _ _ h _ (h1 x s) (h2 x s)
theorem sl_pend (M : PMem) (n : Int) (b : Bool) (to : Int) (x : Int) (s : Bool) : SL (M.pend n b to) x s = SL M x s:=by
 unfold PMem.pend;split
 ·next hc =>
  rcases find_bd (fun e : PEntry=>!e.used) M.es 0 with ⟨q,_⟩ | ⟨k,e,h1,h2,h3,_⟩
  ·exfalso;have hq : M.freeEntry = -1:=q;rw [hq] at hc;simp [PMem.hasEntry,isIn] at hc
  ·have hk : M.freeEntry = (k : Int):=h3.trans (by simp);rw [hk];show SL { M with es:=M.es.set (k : Int).toNat _ } x s = _;rw [Int.toNat_natCast];refine sl_setE h1 (fun x s=>?_) (fun x s=>by simp [isSt]) x s;have : e.used = false:=by simpa using h2
   simp [isSt,this]
 ·rfl
theorem sl_addLink (M : PMem) (n to x : Int) (s : Bool) : SL (M.addLink n to) x s = SL M x s:=by
 unfold PMem.addLink;split
 ·split
  ·rw [sl_pend]; exact sl_es (modN_ents _ _ _) _ _
  ·rw [sl_pend]; exact sl_es (modN_ents _ _ _) _ _
  ·rfl
 ·rfl
theorem make_es (M : PMem) (a b : Int) : (M.make a b).1.es = M.es:=by unfold PMem.make; split <;> rfl
theorem sl_prepI (P : PSt) (k : PWork) (x : Int) (s : Bool) : SL (P.prepareInsert k).1 x s = SL P.mem x s:=by
 unfold PSt.prepareInsert;simp only;split
 ·show SL ((((P.mem.make _ _).1.addLink _ _).pend _ _ _)) x s = _;rw [sl_pend,sl_addLink]; exact sl_es (make_es _ _ _) _ _
 ·show SL ((((P.mem.make _ _).1.join _ _).1.pend _ _ _)) x s = _;rw [sl_pend];unfold PMem.join;simp only;rw [sl_addLink,sl_addLink,sl_es (make_es _ _ _),sl_es (make_es _ _ _)]
theorem sl_unpend (M : PMem) (n : Int) (b : Bool) (x : Int) (s : Bool) : SL (M.unpend n b) x s = SL M x s:=by
 unfold PMem.unpend;split
 ·next hc =>
  rcases find_bd (isPd n b) M.es 0 with ⟨q,_⟩ | ⟨k,e,h1,h2,h3,_⟩
  ·exfalso;have hq : M.pending n b = -1:=q;rw [hq] at hc;simp [PMem.hasEntry,isIn] at hc
  ·have hk : M.pending n b = (k : Int):=h3.trans (by simp);rw [hk];show SL { M with es:=M.es.set (k : Int).toNat _ } x s = _;rw [Int.toNat_natCast];exact sl_setE h1 (isSt_pd h2) (fun x s=>isSt_z _ _) x s
 ·rfl
theorem uq_stamp {M : PMem} {n st : Int} {b : Bool} (h : UQ M) (hs : ∀ st' d,Sd M n b st' d->st'≠st) : UQ (M.stamp n b st):=by
 unfold PMem.stamp;split
 ·next hc =>
  rcases find_bd (isPd n b) M.es 0 with ⟨q,_⟩ | ⟨k,e,h1,h2,h3,_⟩
  ·exfalso;have hq : M.pending n b = -1:=q;rw [hq] at hc;simp [PMem.hasEntry,isIn] at hc
  ·have hk : M.pending n b = (k : Int):=h3.trans (by simp);rw [hk];have he : M.ent (k : Int) = e:=by simp [PMem.ent,h1]
   rw [he];intro x s;show (SL { M with es:=M.es.set (k : Int).toNat { e with pending:=false,stamp:=st } } x s).Nodup;rw [Int.toNat_natCast];cases hy : isSt x s { e with pending:=false,stamp:=st }
   ·have : SL { M with es:=M.es.set k { e with pending:=false,stamp:=st } } x s = SL M x s:=filt_set _ _ h1 _ (isSt_pd h2 x s) hy;rw [this]; exact h x s
   ·have hp:=filt_ins (isSt x s) PEntry.stamp { e with pending:=false,stamp:=st } h1 (isSt_pd h2 x s) hy;show (((M.es.set k { e with pending:=false,stamp:=st }).filter (isSt x s)).map PEntry.stamp).Nodup;rw [hp.nodup_iff];refine List.nodup_cons.2 ⟨?_,h x s⟩;intro hm;have hxs : x = n/\s = b:=by
     simp only [isPd,Bool.and_eq_true,beq_iff_eq] at h2;simp only [isSt,Bool.and_eq_true,beq_iff_eq] at hy;exact ⟨hy.2.2.1.symm.trans h2.2.1,hy.2.2.2.symm.trans h2.2.2⟩
    obtain ⟨d,hd⟩:=mem_SL.1 hm;rw [hxs.1,hxs.2] at hd;exact hs st d hd rfl
 ·exact h
theorem sl_free (M : PMem) (n x : Int) (s : Bool) : List.Sublist (SL (M.free n) x s) (SL M x s):=by
 unfold PMem.free;split
 ·unfold SL;simp only;have : ∀ l : List PEntry,List.Sublist (((l.map fun e=>if ofNode n e then PEntry.zero else e).filter (isSt x s)).map PEntry.stamp) ((l.filter (isSt x s)).map PEntry.stamp):=by
   intro l
   induction l with
   | nil=>exact List.Sublist.refl _
   | cons a l ih =>
    simp only [List.map_cons,List.filter_cons];by_cases ho : ofNode n a = true
    ·simp only [ho,if_true,isSt_z,Bool.false_eq_true,if_false];split
     ·exact ih.cons _
     ·exact ih
    ·simp only [ho,if_false,Bool.false_eq_true];split
     ·simp only [List.map_cons]; exact ih.cons_cons _
     ·exact ih
  exact this _
 ·exact List.Sublist.refl _
theorem uq_free {M : PMem} (h : UQ M) (n : Int) : UQ (M.free n):=fun x s=>(h x s).sublist (sl_free M n x s)
theorem uq_frees : ∀ (l : List Int) {M : PMem},UQ M->UQ (M.frees l)
 | [],_,h=>h
 | n :: l,_,h=>uq_frees l (uq_free h n)
theorem uq_freesIf (ht : Bool) (tm : Int) : ∀ (l : List Nat) {M : PMem},UQ M->UQ (M.freesIf ht tm l)
 | [],_,h=>h
 | n :: l,M,h=>by
  unfold PMem.freesIf;refine uq_freesIf ht tm l ?_;split
  ·exact uq_free h _
  ·exact h
theorem sl_set0 {M : PMem} {k : Nat} (x : Int) (s : Bool) : List.Sublist (SL { M with es:=M.es.set k PEntry.zero } x s) (SL M x s):=by
 unfold SL;simp only;have : ∀ (l : List PEntry) (k : Nat),List.Sublist (((l.set k PEntry.zero).filter (isSt x s)).map PEntry.stamp) ((l.filter (isSt x s)).map PEntry.stamp):=by
  intro l
  induction l with
  | nil=>intro k; exact List.Sublist.refl _
  | cons a l ih =>
   intro k;cases k with
   | zero =>
    simp only [List.set_cons_zero,List.filter_cons,isSt_z,Bool.false_eq_true,if_false];split
    ·simp only [List.map_cons]; exact (List.Sublist.refl _).cons _
    ·exact List.Sublist.refl _
   | succ k =>
    simp only [List.set_cons_succ,List.filter_cons];split
    ·simp only [List.map_cons]; exact (ih k).cons_cons _
    ·exact ih k
 exact this _ _
theorem uq_drop {M : PMem} (h : UQ M) (e : Int) : UQ (M.drop e):=by
 have : ∀ k,UQ { M with es:=dropTo e M.es k }:=by
  intro k
  induction k with
  | zero=>exact h
  | succ k ih =>
   show UQ { M with es:=dropOne e (dropTo e M.es k) k };unfold dropOne;split
   ·split
    ·exact fun x s=>(ih x s).sublist (sl_set0 (M:={ M with es:=dropTo e M.es k }) x s)
    ·exact ih
   ·exact ih
 exact this _
section
variable {g g' : Gh} {T : Int} {i j : Nat} {t t' u : PThread} {P P' : PSt} {key : Int}
theorem Inv.uqStep (h : Inv g P) (hu : UQ P.mem) (ht : P.ts[i]? = some t) (hb : t.busy = true) : UQ (P.step i t).1.mem:=by
 have hT:=h.th i t ht;obtain ⟨P',n,hs,ho⟩:=h.out ht hb;rw [hs];have es : ∀ {M : PMem},M.es = P.mem.es->UQ M:=fun e x s=>by rw [sl_es e]; exact hu x s
 cases ho with
 | lock=>exact es (modN_ents _ _ _)
 | home=>exact es rfl
 | prepI hn hk hr1 hr2 a n M1 ep =>
  intro x s;show (SL M1 x s).Nodup
  have:=sl_prepI P t.work x s
  rw [ep] at this;rw [this]; exact hu x s
 | prepR hn hk hr M1 em=>intro x s; show (SL M1 x s).Nodup; rw [em,sl_pend]; exact hu x s
 | late hn hk hl M1 em =>
  show UQ M1;rw [em];exact uq_frees _ (fun x s=>by rw [sl_unpend]; exact hu x s)
 | takeI hn hk hl a n q M1 em =>
  show UQ M1;rw [em,q.md];show UQ ((P.mem.stampNew a (P.clock + 1)).stampNew n (P.clock + 1));rw [stampNew_no q.pa];unfold PMem.stampNew;obtain ⟨a1,a2,a3,a4⟩:=stamp_e (P.clock + 1) h.wm (q.pn false);refine uq_stamp (uq_stamp hu ?_) ?_
  ·intro st' d hd; exact absurd hd (q.sn _ _ _)
  ·intro st' d hd;rcases (a4 _ _ _ _).1 hd with e | e
   ·exact absurd e (q.sn _ _ _)
   ·exact absurd e.2.1 (by simp)
 | kill hn hk M1 em e=>exact es e
 | link hn hk M1 em e=>exact es e
 | stamp hn hk d0 hp M1 em =>
  show UQ M1;rw [em];refine uq_stamp hu ?_;intro st' d hd
  have:=(hT.s9 hb (by omega) (by omega)).2.2.2.2 _ _ hd
  omega
 | unlock hn hk M1 em e=>exact es e
 | _=>exact hu
end
theorem uq_fresh {T N E L : Int} (hE : 1<=E) : UQ (freshP 1 T N E L).mem:=by
 show UQ (freshMem N.toNat E.toNat);unfold freshMem;have h0 : UQ ⟨freshNodes N.toNat,List.replicate E.toNat PEntry.zero⟩:=by
  intro x s;have : SL ⟨freshNodes N.toNat,List.replicate E.toNat PEntry.zero⟩ x s = []:=by
   unfold SL;rw [List.filter_eq_nil_iff.2]
   ·rfl
   ·intro e he; rw [(List.mem_replicate.1 he).2,isSt_z]; decide
  rw [this]; exact List.nodup_nil
 have h1 : ∀ x s st d,¬ Sd ((⟨freshNodes N.toNat,List.replicate E.toNat PEntry.zero⟩ : PMem).addLink 0 1) x s st d:=by
  intro x s st d hd
  have:=mem_SL.2 ⟨d,hd⟩
  rw [sl_addLink] at this;obtain ⟨d',e,he,hh,_⟩:=mem_SL.1 this;have he : e ∈ List.replicate E.toNat PEntry.zero:=he;rw [(List.mem_replicate.1 he).2,isSt_z] at hh; cases hh
 have h2 : UQ ((⟨freshNodes N.toNat,List.replicate E.toNat PEntry.zero⟩ : PMem).addLink 0 1):=fun x s=>by rw [sl_addLink]; exact h0 x s
 unfold PMem.stampNew;refine uq_stamp (uq_stamp h2 (fun st' d hd=>absurd hd (h1 _ _ _ _))) ?_;intro st' d hd
 -- only the first link has an entry
 obtain ⟨_,_,_,_,w5⟩:=fresh_seen N.toNat E.toNat (by omega);intro e;subst e;have hfm : freshMem N.toNat E.toNat = (((⟨freshNodes N.toNat,List.replicate E.toNat PEntry.zero⟩ : PMem).addLink 0 1).stamp 0 false 0).stamp 0 true 0:=rfl;have hm:=mem_SL.2 ⟨d,hd⟩;obtain ⟨M1,hM1⟩ : ∃ M1,M1 = ((⟨freshNodes N.toNat,List.replicate E.toNat PEntry.zero⟩ : PMem).addLink 0 1).stamp 0 false 0:=⟨_,rfl⟩;rw [<- hM1] at hd hm hfm
 -- an entry that is stamped stays
 have keep : ∃ d',Sd (freshMem N.toNat E.toNat) 0 true 0 d':=by
  rw [hfm];unfold PMem.stamp;split
  ·next hc =>
   rcases find_bd (isPd 0 true) M1.es 0 with ⟨q,_⟩ | ⟨k,e,g1,g2,g3,_⟩
   ·exfalso;have hq : M1.pending 0 true = -1:=q;rw [hq] at hc;simp [PMem.hasEntry,isIn] at hc
   ·have hk : M1.pending 0 true = (k : Int):=g3.trans (by simp);rw [hk];refine ⟨d,?_⟩;show Sd { M1 with es:=M1.es.set (k : Int).toNat _ } 0 true 0 d;rw [Int.toNat_natCast];exact (sd_set g1 (isSt_pd g2) _ _ _ _).2 (.inl hd)
  ·exact ⟨d,hd⟩
 obtain ⟨d',hd'⟩:=keep
 have:=((w5 _ _ _ _).1 hd').2.1
 cases this
end T
end
section
section
variable {P : PSt}
def PSt.swp (P : PSt) (m : Nat) : PSt:={ P with sweep:={ made:=m,clock:=P.clock,retired:=retiredFrom P.mem.ns 0,hasTime:=false,time:=0 } }
theorem sweep_first (h : P.sweep = PSweep.zero) : P.doSweep = (P.swp 1,1):=by
 unfold PSt.doSweep PSt.swp;rw [h]
 rfl
theorem do_look (S : PSt) (h0 : S.sweep.made≠0) (h1 : S.sweep.made - 1 < S.ts.length) (h2 : (S.th (S.sweep.made - 1)).slot≠1) : S.doSweep = ({ S with sweep:={ S.sweep.lookAt (S.th (S.sweep.made - 1)) with made:=S.sweep.made + 1 } },1):=by
 unfold PSt.doSweep;simp only;rw [if_neg h0,if_pos h1,if_neg h2]
theorem do_drop (S : PSt) (h0 : S.sweep.made≠0) (h1 : S.sweep.made - 1 = S.ts.length) (ht : S.sweep.hasTime = false) : S.doSweep = ({ S with mem:=S.mem.drop S.sweep.clock,sweep:={ S.sweep with made:=S.sweep.made + 1 } },1):=by
 unfold PSt.doSweep;simp only;rw [if_neg h0,if_neg (by omega),if_pos h1,ht]
 rfl
theorem do_last (S : PSt) (h0 : S.sweep.made≠0) (h1 : S.ts.length < S.sweep.made - 1) : S.doSweep = ({ S with mem:=S.mem.freesIf S.sweep.hasTime S.sweep.time S.sweep.retired,sweep:=PSweep.zero },3):=by
 unfold PSt.doSweep;simp only;rw [if_neg h0,if_neg (by omega),if_neg (by omega)]
theorem sweep_look (hs : ∀ t ∈ P.ts,t.slot = 0) {m : Nat} (hm : 1<=m) (hl : m - 1 < P.ts.length) : (P.swp m).doSweep = (P.swp (m + 1),1):=by
 have hsl : ((P.swp m).th ((P.swp m).sweep.made - 1)).slot = 0:=by
  show (P.th (m - 1)).slot = 0;unfold PSt.th;rw [List.getElem?_eq_getElem hl];exact hs _ (List.getElem_mem hl)
 rw [do_look (P.swp m) (by show m≠0; omega) hl (by rw [hsl]; decide)];unfold PSweep.lookAt;rw [hsl]
 rfl
theorem sweep_drop : (P.swp (P.ts.length + 1)).doSweep = ({ P.swp (P.ts.length + 2) with mem:=P.mem.drop P.clock },1):=by
 rw [do_drop (P.swp (P.ts.length + 1)) (by show P.ts.length + 1≠0; omega) (by show P.ts.length + 1 - 1 = P.ts.length; omega) rfl]
 rfl
theorem sweep_last : ({ P.swp (P.ts.length + 2) with mem:=P.mem.drop P.clock } : PSt).doSweep = ({ P with mem:=(P.mem.drop P.clock).freesIf false 0 (retiredFrom P.mem.ns 0),sweep:=PSweep.zero },3):=by
 rw [do_last ({ P.swp (P.ts.length + 2) with mem:=P.mem.drop P.clock } : PSt) (by show P.ts.length + 2≠0; omega) (by show P.ts.length < P.ts.length + 2 - 1; omega)]
 rfl
theorem sweep_iter (h : P.sweep = PSweep.zero) (hs : ∀ t ∈ P.ts,t.slot = 0) : ∀ j,j<=P.ts.length->P.swIter (j + 1) = P.swp (j + 1)/\P.swHow j = 1
 | 0,_=>by
  have:=sweep_first h
  exact ⟨by show P.doSweep.1 = _; rw [this],by show P.doSweep.2 = 1; rw [this]⟩
 | j + 1,hj=>by
  obtain ⟨h1,_⟩:=sweep_iter h hs j (by omega)
  have:=sweep_look hs (m:=j + 1) (by omega) (by omega)
  refine ⟨?_,?_⟩
  ·show (P.swIter (j + 1)).doSweep.1 = _;rw [h1,this]
  ·show (P.swIter (j + 1)).doSweep.2 = 1;rw [h1,this]
theorem sweep_run (h : P.sweep = PSweep.zero) (hs : ∀ t ∈ P.ts,t.slot = 0) : (∀ j,j < P.ts.length + 2->P.swHow j = 1)/\P.swHow (P.ts.length + 2) = 3/\P.swIter (P.ts.length + 3) = { P with mem:=(P.mem.drop P.clock).freesIf false 0 (retiredFrom P.mem.ns 0),sweep:=PSweep.zero }:=by
 have h1:=(sweep_iter h hs P.ts.length (Nat.le_refl _)).1;have h2 : P.swIter (P.ts.length + 2) = { P.swp (P.ts.length + 2) with mem:=P.mem.drop P.clock }:=by
  show (P.swIter (P.ts.length + 1)).doSweep.1 = _;rw [h1,sweep_drop]
 refine ⟨?_,?_,?_⟩
 ·intro j hj;by_cases hl : j<=P.ts.length
  ·exact (sweep_iter h hs j hl).2
  ·obtain rfl : j = P.ts.length + 1:=by omega
   show (P.swIter (P.ts.length + 1)).doSweep.2 = 1;rw [h1,sweep_drop]
 ·show (P.swIter (P.ts.length + 2)).doSweep.2 = 3;rw [h2,sweep_last]
 ·show (P.swIter (P.ts.length + 2)).doSweep.1 = _;rw [h2,sweep_last]
end
end
section
namespace T
namespace Tr
def is : Tr->List Int
 | lf _ _ _=>[]
 | nd p _ l r=>p :: (l.is ++ r.is)
variable {t : Tr} {x : Int}
theorem mem_is {t : Tr} : x ∈ t.is ↔ t.Inn x:=by
 induction t with
 | lf=>simp [is,Inn]
 | nd p q l r h1 h2=>simp [is,Inn,h1,h2]
theorem is_nodup {t : Tr} (hd : t.Dj) : t.is.Nodup:=by
 induction t with
 | lf=>simp [is]
 | nd p q l r h1 h2 =>
  obtain ⟨d1,d2,d3,d4,d5⟩:=hd;simp only [is,List.nodup_cons,List.mem_append,mem_is];refine ⟨fun e=>e.elim (fun e=>d1 (inn_has e)) (fun e=>d2 (inn_has e)),List.nodup_append.2 ⟨h1 d4,h2 d5,?_⟩⟩;intro a ha b hb e;rw [mem_is] at ha hb;subst e; exact d3 a (inn_has ha) (inn_has hb)
theorem rows_len (t : Tr) : t.rows.length = t.is.length + 1:=by
 induction t with
 | lf=>simp [rows,is]
 | nd p q l r h1 h2=>simp [rows,is,h1,h2]; omega
theorem size_is (t : Tr) : t.size = 2 * t.is.length + 1:=by
 induction t with
 | lf=>simp [size,is]
 | nd p q l r h1 h2=>simp [size,is,h1,h2]; omega
end Tr
theorem nodup_leA {α : Type} [DecidableEq α] : ∀ {l m : List α},l.Nodup->(∀ x ∈ l,x ∈ m)->l.length<=m.length
 | [],_,_,_=>by simp
 | x :: l,m,hn,hs=>by
  obtain ⟨h1,h2⟩:=List.nodup_cons.1 hn;have hx:=hs x (by simp)
  have:=nodup_leA (l:=l) (m:=m.erase x) h2 (fun y hy=>by
   refine (List.mem_erase_of_ne ?_).2 (hs y (by simp [hy]));rintro rfl; exact h1 hy)
  rw [List.length_erase_of_mem hx] at this;have : 0 < m.length:=List.length_pos_of_mem hx
  simp; omega
theorem nodup_eqA {α : Type} [DecidableEq α] {l m : List α} (h1 : l.Nodup) (h2 : m.Nodup) (h : ∀ x,x ∈ l ↔ x ∈ m) : l.length = m.length :=
 Nat.le_antisymm (nodup_leA h1 (fun x hx=>(h x).1 hx)) (nodup_leA h2 (fun x hx=>(h x).2 hx))
theorem map_nodup {α β : Type} [DecidableEq β] (f : α->β) : ∀ (l : List α),(∀ y,(l.filter (fun e=>decide (f e = y))).length<=1)->(l.map f).Nodup
 | [],_=>List.nodup_nil
 | a :: l,h=>by
  simp only [List.map_cons,List.nodup_cons];refine ⟨?_,map_nodup f l (fun y=>?_)⟩
  ·intro hm;obtain ⟨b,hb,e⟩:=List.mem_map.1 hm
   have:=h (f a)
   simp only [List.filter_cons,decide_true,if_true,List.length_cons] at this;have h2 : 0 < (l.filter (fun e=>decide (f e = f a))).length:=List.length_pos_of_mem (List.mem_filter.2 ⟨hb,by simpa using e⟩);omega
  ·have:=h y
   simp only [List.filter_cons] at this;split at this
   ·simp only [List.length_cons] at this; omega
   ·exact this
theorem count_not {α : Type} (p : α->Bool) (l : List α) : count (fun x=>!p x) l + count p l = l.length:=by
 induction l with
 | nil=>rfl
 | cons a l ih=>unfold count at *; simp only [List.filter_cons,List.length_cons]; cases p a <;> simp <;> omega
section
variable {g g' : Gh} {T : Int} {i j : Nat} {t t' u : PThread} {P P' : PSt} {key : Int}
theorem Rt_len (h : Gt (g.V T)) : (Rt g T).length = (g.V T).is.length:=by
 have h1:=Tr.rows_len (g.V T);have hs:=Tr.rows_srt h.ok;have h2 : ((g.V T).rows).filter (fun p=>!decide (p.1<=1099511627776)) = [(1099511627777,0)]:=by
  refine srt_ext (List.Pairwise.filter _ hs) (by simp [Srt]) ?_;rintro ⟨k,v⟩;rw [List.mem_filter,Tr.mem_rows];constructor
  ·rintro ⟨⟨x,hx⟩,hk⟩;simp at hk;by_cases e : x = 1
   ·subst e;have e1:=Tr.goal_key h.ok hx;have e2:=lea_fn h.dj hx h.one;subst e2;have e3:=Tr.goal_key h.ok h.one;rw [e1] at e3;simp at e3 ⊢; exact e3
   ·have:=h.kr x k v hx e; omega
  ·intro e;simp at e;obtain ⟨rfl,rfl⟩:=e;exact ⟨⟨1,h.one⟩,by decide⟩
 have h3:=count_not (fun p : Int × Int=>decide (p.1<=1099511627776)) (g.V T).rows;unfold count at h3;rw [h2] at h3;unfold Rt;simp only [List.length_singleton] at h3;omega
def Idle (P : PSt) : Prop:=∀ t ∈ P.ts,t.busy = false
theorem Idle.ex (h : Idle P) {p : PThread->Prop} (hp : ∀ t,p t->t.busy = true) : ¬ Ex P.ts p:=by
 rintro ⟨i,t,ht,hh⟩
 have:=hp t hh
 rw [h t (List.mem_of_getElem? ht)] at this; cases this
theorem Inv.slot0 (h : Inv g P) (hi : Idle P) : ∀ t ∈ P.ts,t.slot = 0:=by
 intro t ht;obtain ⟨j,hj⟩:=List.mem_iff_getElem?.1 ht;rw [(h.th j t hj).sl,if_neg (fun e=>by have:=e.1; rw [hi t ht] at this; cases this)]
theorem room1_of {M : PMem} (L : List Int) (hn : L.Nodup) (h : ∀ x,Us M x ↔ x ∈ L) : M.room.1 = M.ns.length - L.length:=by
 have h1:=count_not (fun x : PNode=>x.used) M.ns;have h2 : count (fun x : PNode=>x.used) M.ns = L.length:=by
  have h3 : count (fun x : PNode=>x.used) M.ns = ((List.range M.ns.length).filter (fun (n : Nat)=>(M.node (n : Int)).used)).length:=by
   have : ∀ (l : List PNode) (k : Nat),(∀ (j : Nat) e,l[j]? = some e->(M.node ((k + j : Nat) : Int)).used = e.used)->count (fun x : PNode=>x.used) l = ((List.range' k l.length).filter (fun (n : Nat)=>(M.node (n : Int)).used)).length:=by
    intro l
    induction l with
    | nil=>intro k _; rfl
    | cons a l ih =>
     intro k hk;have i1:=ih (k + 1) (fun j e he=>by have:=hk (j + 1) e (by simpa using he); rw [show k + 1 + j = k + (j + 1) by omega]; exact this);have i2:=hk 0 a rfl;unfold count at *;simp only [Nat.add_zero] at i2;simp only [List.length_cons,List.range'_succ,List.filter_cons,i2];split <;> simp [i1]
   rw [List.range_eq_range'];refine this M.ns 0 (fun j e he=>?_);rw [Nat.zero_add,(node_get he).1]
  rw [h3];have h4 : ((List.range M.ns.length).filter (fun (n : Nat)=>(M.node (n : Int)).used)).length = (((List.range M.ns.length).filter (fun (n : Nat)=>(M.node (n : Int)).used)).map (fun (n : Nat)=>(n : Int))).length:=by simp
  rw [h4];refine nodup_eqA ?_ hn ?_
  ·refine List.Pairwise.map _ ?_ (List.Pairwise.filter _ List.nodup_range);intro a b hab e;exact hab (by omega)
  ·intro x;rw [List.mem_map,<- h x];constructor
   ·rintro ⟨n,hn,rfl⟩;exact (List.mem_filter.1 hn).2
   ·intro hu
    have:=hasN_iff.1 (hasN_used hu)
    refine ⟨x.toNat,List.mem_filter.2 ⟨by simp; omega,?_⟩,by omega⟩;have e : ((x.toNat : Nat) : Int) = x:=by omega
    rw [e]; exact hu
 have e1 : M.room.1 = (count (fun x : PNode=>!x.used) M.ns : Nat):=rfl;omega
theorem room2_of {M : PMem} (hp : ∀ x s,Pd M x s = []) (L : List (Int × Bool)) (hn : L.Nodup) (h : ∀ x s,SL M x s≠[] ↔ (x,s) ∈ L) (h1 : ∀ x s,(SL M x s).length<=1) : M.room.2 = M.es.length - L.length:=by
 have h2:=count_not (fun x : PEntry=>x.used) M.es;have nop : ∀ e ∈ M.es,e.used = true->isSt e.src e.side e = true:=by
  intro e he hu;have : e.pending = false:=by
   cases hq : e.pending
   ·rfl
   ·exfalso
    have:=hp e.src e.side
    unfold Pd at this;simp at this;have h3:=this e he;simp [isPd,hq] at h3
  simp [isSt,hu,this]
 have key : ∀ x s,(M.es.filter (fun e=>e.used)).filter (fun e=>decide ((e.src,e.side) = (x,s))) = M.es.filter (isSt x s):=by
  intro x s;rw [List.filter_filter];apply List.filter_congr;intro e he;rw [Bool.eq_iff_iff];simp only [Bool.and_eq_true,decide_eq_true_eq,Prod.mk.injEq];constructor
  ·rintro ⟨⟨e1,e2⟩,e3⟩
   have:=nop e he e3
   rw [e1,e2] at this; exact this
  ·intro hs;simp only [isSt,Bool.and_eq_true,beq_iff_eq] at hs;exact ⟨⟨hs.2.2.1,hs.2.2.2⟩,hs.1⟩
 have h3 : count (fun x : PEntry=>x.used) M.es = L.length:=by
  have e1 : count (fun x : PEntry=>x.used) M.es = ((M.es.filter (fun e=>e.used)).map (fun e=>(e.src,e.side))).length:=by simp [count]
  rw [e1];refine nodup_eqA (map_nodup _ _ ?_) hn ?_
  ·rintro ⟨x,s⟩;rw [key]
   have:=h1 x s
   unfold SL at this;simpa using this
  ·rintro ⟨x,s⟩;rw [<- h x s];constructor
   ·intro hm;obtain ⟨e,he,ee⟩:=List.mem_map.1 hm;have : e ∈ M.es.filter (isSt x s):=by rw [<- key]; exact List.mem_filter.2 ⟨he,by simpa using ee⟩
    intro e0;have hm2 : e.stamp ∈ SL M x s:=List.mem_map.2 ⟨e,this,rfl⟩;rw [e0] at hm2; cases hm2
   ·intro hne;obtain ⟨st,hst⟩:=List.exists_mem_of_ne_nil _ hne;obtain ⟨e,he,_⟩:=List.mem_map.1 hst;rw [<- key] at he;obtain ⟨q1,q2⟩:=List.mem_filter.1 he;exact List.mem_map.2 ⟨e,q1,by simpa using q2⟩
 have e1 : M.room.2 = (count (fun x : PEntry=>!x.used) M.es : Nat):=rfl;omega
end
end T
end
end Go.Proofs.YtfccelbmacjifabGreat
