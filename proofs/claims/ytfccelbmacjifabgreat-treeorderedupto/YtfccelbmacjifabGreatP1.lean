import Derived.Test.YtfccelbmacjifabGreatP0
set_option linter.unusedSimpArgs false
set_option maxRecDepth 100000
set_option maxHeartbeats 4000000
namespace Go.Proofs.YtfccelbmacjifabGreat
section
def Pd (M : PMem) (x : Int) : List Int:=(M.es.filter (isPd x false)).map PEntry.dst
def Sd (M : PMem) (x s d : Int) : Prop:=∃ e ∈ M.es,isSt x false e = true/\e.stamp = s/\e.dst = d
structure Wm (M : PMem) : Prop where
 len : 2<=M.ns.length
 wfe : ∀ e ∈ M.es,e.used = false->e = PEntry.zero
 sd : ∀ e ∈ M.es,e.side = false
 un : ∀ x,(M.node x).used = false->M.node x = PNode.zero
theorem hasN_iff {M : PMem} {x : Int} : M.hasNode x = true ↔ 0<=x/\x < M.ns.length:=by
 unfold PMem.hasNode; rw [isIn_iff]; omega
theorem hasN_used {M : PMem} {x : Int} (h : (M.node x).used = true) : M.hasNode x = true:=by
 cases hh : M.hasNode x
 ·unfold PMem.node at h; rw [hh] at h; exact nomatch h
 ·rfl
theorem node_get {M : PMem} {k : Nat} {e : PNode} (h : M.ns[k]? = some e) : M.node (k : Int) = e/\M.hasNode (k : Int) = true:=by
 have h1 : M.hasNode (k : Int) = true:=by
  have:=(List.getElem?_eq_some_iff.1 h).1
  unfold PMem.hasNode; rw [isIn_iff]; omega
 exact ⟨by unfold PMem.node; rw [h1]; simp [h],h1⟩
theorem node_at {M : PMem} {x : Int} (h : M.hasNode x = true) : ∃ (k : Nat) (e : PNode),x = k/\M.ns[k]? = some e/\M.node x = e:=by
 have hx:=h;unfold PMem.hasNode at hx;rw [isIn_iff] at hx;have hk : x.toNat < M.ns.length:=by omega
 refine ⟨x.toNat,M.ns[x.toNat],by omega,List.getElem?_eq_getElem hk,?_⟩;unfold PMem.node;rw [h]; simp [List.getElem?_eq_getElem hk]
theorem hasN_len {M M' : PMem} (h : M'.ns.length = M.ns.length) (x : Int) : M'.hasNode x = M.hasNode x:=by unfold PMem.hasNode; rw [h]
theorem modN_len (M : PMem) (n : Int) (f : PNode->PNode) : (M.modN n f).ns.length = M.ns.length:=by unfold PMem.modN; split <;> simp
theorem modN_ents (M : PMem) (n : Int) (f : PNode->PNode) : (M.modN n f).es = M.es:=by unfold PMem.modN; split <;> rfl
theorem node_modN {M : PMem} {n : Int} (h : M.hasNode n = true) (f : PNode->PNode) (x : Int) : (M.modN n f).node x = if x = n then f (M.node n) else M.node x:=by
 unfold PMem.modN PMem.node;rw [if_pos h];have hl : ∀ y,PMem.hasNode { M with ns:=M.ns.modify n.toNat f } y = M.hasNode y:=fun y=>hasN_len (by simp) y
 rw [hl];have hn:=h;unfold PMem.hasNode at hn;rw [isIn_iff] at hn;by_cases hx : x = n
 ·subst hx;rw [if_pos h,if_pos h,if_pos rfl,List.getElem?_modify];have : x.toNat < M.ns.length:=by omega
  simp [List.getElem?_eq_getElem this]
 ·rw [if_neg hx];by_cases hh : M.hasNode x = true
  ·rw [if_pos hh,if_pos hh];unfold PMem.hasNode at hh;rw [isIn_iff] at hh;have hne : ¬ n.toNat = x.toNat:=by omega
   rw [List.getElem?_modify]; simp [hne]
  ·rw [if_neg hh,if_neg hh]
theorem pd_es {M M' : PMem} (h : M'.es = M.es) (x : Int) : Pd M' x = Pd M x:=by unfold Pd; rw [h]
theorem sd_es {M M' : PMem} (h : M'.es = M.es) (x s d : Int) : Sd M' x s d ↔ Sd M x s d:=by unfold Sd; rw [h]
theorem Wm.nodes {M M' : PMem} (h : Wm M) (hl : M'.ns.length = M.ns.length) (he : M'.es = M.es) (hu : ∀ x,(M'.node x).used = false->M'.node x = PNode.zero) : Wm M' :=
 ⟨by rw [hl]; exact h.len,by rw [he]; exact h.wfe,by rw [he]; exact h.sd,hu⟩
theorem Wm.modN {M : PMem} (h : Wm M) {n : Int} (hn : (M.node n).used = true) (f : PNode->PNode) (hf : (f (M.node n)).used = true) : Wm (M.modN n f):=by
 refine h.nodes (modN_len _ _ _) (modN_ents _ _ _) ?_;intro x hx;rw [node_modN (hasN_used hn)] at hx ⊢;split at hx
 ·rw [hf] at hx; cases hx
 ·next hne=>rw [if_neg hne]; exact h.un x hx
theorem unlock_node (M : PMem) (t x : Int) : (M.unlock t).node x = unlocked t (M.node x):=by
 have hl : (M.unlock t).hasNode x = M.hasNode x:=hasN_len (by simp [PMem.unlock]) x;by_cases hh : M.hasNode x = true
 ·obtain ⟨k,e,rfl,h1,h2⟩:=node_at hh;rw [h2];exact (node_get (M:=M.unlock t) (by simp [PMem.unlock,h1])).1
 ·unfold PMem.node;rw [hl,if_neg hh,if_neg hh]; rfl
theorem Wm.unlock {M : PMem} (h : Wm M) (t : Int) : Wm (M.unlock t):=by
 refine h.nodes (by simp [PMem.unlock]) rfl ?_;intro x hx;rw [unlock_node] at hx ⊢;have hu : (unlocked t (M.node x)).used = (M.node x).used:=by unfold unlocked; split <;> rfl
 rw [hu] at hx;rw [h.un x hx]; rfl
theorem lock_eq {M : PMem} {n t : Int} (hn : (M.node n).used = true) : M.lock n t = if (M.node n).holder = -1\/(M.node n).holder = t then (M.modN n fun x=>{ x with holder:=t },true) else (M,false):=by
 unfold PMem.lock;rw [if_pos (hasN_used hn)];by_cases h : (M.node n).holder = -1\/(M.node n).holder = t
 ·rw [if_pos h,if_neg];intro hh;simp at hh;rcases h with h | h
  ·exact hh.1 h
  ·exact hh.2 h
 ·rw [if_neg h,if_pos];simp only [not_or] at h;simp [h.1,h.2]
theorem filt_set {α β : Type} (p : α->Bool) (f : α->β) : ∀ {l : List α} {k : Nat} {x : α},l[k]? = some x->∀ y,p x = false->p y = false->((l.set k y).filter p).map f = (l.filter p).map f
 | [],k,x,h=>by simp at h
 | z :: r,0,x,h=>by
  intro y hx hy;simp at h; subst h;simp [hx,hy]
 | z :: r,k + 1,x,h=>by
  intro y hx hy;simp only [List.getElem?_cons_succ] at h
  have:=filt_set p f h y hx hy
  simp only [List.set_cons_succ,List.filter_cons];split <;> simp [this]
theorem filt_new {α β : Type} (p : α->Bool) (f : α->β) : ∀ {l : List α} {k : Nat} {x : α},l[k]? = some x->∀ y,(l.filter p).map f = []->p y = true->((l.set k y).filter p).map f = [f y]
 | [],k,x,h=>by simp at h
 | z :: r,0,x,h=>by
  intro y hx hy;simp only [List.filter_cons] at hx;split at hx
  ·simp at hx
  ·simp [hy]; simpa using hx
 | z :: r,k + 1,x,h=>by
  intro y hx hy;simp only [List.getElem?_cons_succ] at h;simp only [List.filter_cons] at hx;split at hx
  ·simp at hx
  ·next hz =>
   simp only [List.set_cons_succ,List.filter_cons];rw [if_neg hz];exact filt_new p f h y hx hy
theorem filt_del {α β : Type} (p : α->Bool) (f : α->β) : ∀ {l : List α} {k : Nat} {x : α} {b : β},l[k]? = some x->∀ y,(l.filter p).map f = [b]->p x = true->p y = false->((l.set k y).filter p).map f = []/\b = f x
 | [],k,x,b,h=>by simp at h
 | z :: r,0,x,b,h=>by
  intro y hx hp hy;simp at h; subst h;simp only [List.filter_cons,hp,if_true,List.map_cons] at hx;injection hx with e1 e2
  simp [hy];exact ⟨by simpa using e2,e1.symm⟩
 | z :: r,k + 1,x,b,h=>by
  intro y hx hp hy;simp only [List.getElem?_cons_succ] at h;simp only [List.filter_cons] at hx;split at hx
  ·simp only [List.map_cons] at hx;injection hx with e1 e2
   have hm : x ∈ r.filter p:=List.mem_filter.2 ⟨List.mem_of_getElem? h,hp⟩;have : r.filter p = []:=by simpa using e2
   rw [this] at hm; cases hm
  ·next hz =>
   simp only [List.set_cons_succ,List.filter_cons];rw [if_neg hz];exact filt_del p f h y hx hp hy
theorem isPd_z (n : Int) (s : Bool) : isPd n s PEntry.zero = false:=by simp [isPd,PEntry.zero]
theorem isSt_z (n : Int) (s : Bool) : isSt n s PEntry.zero = false:=by simp [isSt,PEntry.zero]
theorem set_get {α : Type} {l : List α} {k : Nat} {x y e : α} (h : l[k]? = some x) : e ∈ l.set k y ↔ e = y\/∃ j,j≠k/\l[j]? = some e:=by
 have hk:=(List.getElem?_eq_some_iff.1 h).1;rw [List.mem_iff_getElem?];constructor
 ·rintro ⟨j,hj⟩;rw [List.getElem?_set] at hj;by_cases e1 : k = j
  ·subst e1; simp [hk] at hj; exact .inl hj.symm
  ·rw [if_neg e1] at hj; exact .inr ⟨j,fun h=>e1 h.symm,hj⟩
 ·rintro (rfl | ⟨j,h1,h2⟩)
  ·exact ⟨k,by simp [hk]⟩
  ·exact ⟨j,by rw [List.getElem?_set,if_neg (fun h=>h1 h.symm)]; exact h2⟩
theorem sd_set {M : PMem} {k : Nat} {e0 y : PEntry} (h : M.es[k]? = some e0) (h0 : ∀ x,isSt x false e0 = false) (x s d : Int) : Sd { M with es:=M.es.set k y } x s d ↔ Sd M x s d\/(isSt x false y = true/\y.stamp = s/\y.dst = d):=by
 unfold Sd;constructor
 ·rintro ⟨e,he,h1,h2⟩;rcases (set_get h).1 he with rfl | ⟨j,_,hj⟩
  ·exact .inr ⟨h1,h2⟩
  ·exact .inl ⟨e,List.mem_of_getElem? hj,h1,h2⟩
 ·rintro (⟨e,he,h1,h2⟩ | ⟨h1,h2⟩)
  ·obtain ⟨j,hj⟩:=List.mem_iff_getElem?.1 he;refine ⟨e,(set_get h).2 (.inr ⟨j,?_,hj⟩),h1,h2⟩;rintro rfl;rw [h] at hj; injection hj with hj; subst hj
   rw [h0] at h1; cases h1
  ·exact ⟨y,(set_get h).2 (.inl rfl),h1,h2⟩
theorem Wm.setE {M : PMem} (h : Wm M) {k : Nat} {y : PEntry} (hy : y.used = false->y = PEntry.zero) (hs : y.side = false) : Wm { M with es:=M.es.set k y }:=by
 refine ⟨h.len,?_,?_,h.un⟩
 ·intro e he hu;rcases List.mem_or_eq_of_mem_set he with he | rfl
  ·exact h.wfe e he hu
  ·exact hy hu
 ·intro e he;rcases List.mem_or_eq_of_mem_set he with he | rfl
  ·exact h.sd e he
  ·exact hs
theorem found {α : Type} {p : α->Bool} {l : List α} {x : α} (hx : x ∈ l) (hp : p x = true) : ∃ (k : Nat) (y : α),l[k]? = some y/\p y = true/\find p l 0 = (k : Int):=by
 rcases find_bd p l 0 with ⟨_,h⟩ | ⟨k,y,h1,h2,h3,_⟩
 ·rw [h x hx] at hp; cases hp
 ·exact ⟨k,y,h1,h2,by simpa using h3⟩
theorem hasE_of {M : PMem} {k : Nat} {e : PEntry} (h : M.es[k]? = some e) : M.hasEntry (k : Int) = true:=by
 have:=(List.getElem?_eq_some_iff.1 h).1
 exact isIn_true (by omega)
theorem pend_e {M : PMem} {n to : Int} (hw : Wm M) (hf : ∃ e ∈ M.es,e.used = false) (hl : M.hasLink n false = true) (hp : Pd M n = []) :
  ∃ k : Nat,M.es[k]? = some PEntry.zero/\M.pend n false to = { M with es:=M.es.set k ⟨true,true,n,false,to,0⟩ }/\Wm (M.pend n false to)/\(∀ x,Pd (M.pend n false to) x = if x = n then [to] else Pd M x)/\(∀ x s d,Sd (M.pend n false to) x s d ↔ Sd M x s d):=by
 obtain ⟨e,he,hu⟩:=hf;obtain ⟨k,y,h1,h2,h3⟩:=found (p:=fun x : PEntry=>!x.used) he (by simp [hu]);have hy : y = PEntry.zero:=hw.wfe y (List.mem_of_getElem? h1) (by simpa using h2);subst hy;have heq : M.pend n false to = { M with es:=M.es.set k ⟨true,true,n,false,to,0⟩ }:=by
  have hk : M.freeEntry = (k : Int):=h3;unfold PMem.pend;rw [hk,hasE_of h1,hl];simp [PMem.setE]
 refine ⟨k,h1,heq,?_,?_,?_⟩
 ·rw [heq]; exact hw.setE (by simp) rfl
 ·intro x;rw [heq];unfold Pd;split
  ·next hx=>subst hx; exact filt_new _ _ h1 _ hp (by simp [isPd])
  ·next hx =>
   have hx' : ¬ n = x:=fun h=>hx h.symm
   exact filt_set _ _ h1 _ (isPd_z _ _) (by simp [isPd,hx'])
 ·intro x s d;rw [heq,sd_set h1 (fun x=>isSt_z _ _)];simp [isSt]
theorem pending_at {M : PMem} {n d : Int} (h : Pd M n = [d]) : ∃ (k : Nat) (e : PEntry),M.es[k]? = some e/\isPd n false e = true/\e.dst = d/\M.pending n false = (k : Int):=by
 have hm : ∃ a,a ∈ M.es.filter (isPd n false):=by
  cases hf : M.es.filter (isPd n false) with
  | nil=>unfold Pd at h; rw [hf] at h; simp at h
  | cons a r=>exact ⟨a,by simp⟩
 obtain ⟨a,ha⟩:=hm;rw [List.mem_filter] at ha;obtain ⟨k,y,h1,h2,h3⟩:=found ha.1 ha.2;refine ⟨k,y,h1,h2,?_,h3⟩;exact ((filt_del (isPd n false) PEntry.dst h1 PEntry.zero h h2 (isPd_z _ _)).2).symm
theorem pending_no {M : PMem} {n : Int} (h : Pd M n = []) : M.pending n false = -1:=by
 unfold Pd at h;simp at h;apply find_miss;intro j hj y hy
 have:=h y (List.mem_of_getElem? hy)
 simpa using this
theorem hasPd_iff {M : PMem} {n : Int} : M.hasPending n false = true ↔ Pd M n≠[]:=by
 unfold PMem.hasPending;constructor
 ·intro h hp;rw [pending_no hp] at h;simp at h
 ·intro h;have hm : ∃ a,a ∈ M.es.filter (isPd n false):=by
   cases hf : M.es.filter (isPd n false) with
   | nil=>unfold Pd at h; rw [hf] at h; simp at h
   | cons a r=>exact ⟨a,by simp⟩
  obtain ⟨a,ha⟩:=hm;rw [List.mem_filter] at ha;obtain ⟨k,y,h1,h2,h3⟩:=found ha.1 ha.2;unfold PMem.pending;rw [h3]
  simp
theorem isSt_pd {e : PEntry} {n : Int} (h : isPd n false e = true) (x : Int) : isSt x false e = false:=by
 simp only [isPd,Bool.and_eq_true] at h;simp [isSt,h.1]
theorem isPd_ne {e : PEntry} {n x : Int} (h : isPd n false e = true) (hx : x≠n) : isPd x false e = false:=by
 simp only [isPd,Bool.and_eq_true,beq_iff_eq] at h;have : ¬ n = x:=fun h=>hx h.symm
 simp [isPd,h.2.1,this]
theorem unpend_e {M : PMem} {n d : Int} (hw : Wm M) (h : Pd M n = [d]) : (M.unpend n false).ns = M.ns/\Wm (M.unpend n false)/\(∀ x,Pd (M.unpend n false) x = if x = n then [] else Pd M x)/\(∀ x s d,Sd (M.unpend n false) x s d ↔ Sd M x s d):=by
 obtain ⟨k,e,h1,h2,_,h4⟩:=pending_at h;have heq : M.unpend n false = { M with es:=M.es.set k PEntry.zero }:=by
  unfold PMem.unpend;rw [h4,hasE_of h1]; simp [PMem.setE]
 rw [heq];refine ⟨rfl,hw.setE (fun _=>rfl) rfl,?_,?_⟩
 ·intro x;unfold Pd;split
  ·next hx=>subst hx; exact (filt_del _ _ h1 _ h h2 (isPd_z _ _)).1
  ·next hx=>exact filt_set _ _ h1 _ (isPd_ne h2 hx) (isPd_z _ _)
 ·intro x s d;rw [sd_set h1 (isSt_pd h2)];simp [isSt_z]
theorem stamp_e {M : PMem} {n d : Int} (st : Int) (hw : Wm M) (h : Pd M n = [d]) : (M.stamp n false st).ns = M.ns/\Wm (M.stamp n false st)/\(∀ x,Pd (M.stamp n false st) x = if x = n then [] else Pd M x)/\(∀ x s e,Sd (M.stamp n false st) x s e ↔ Sd M x s e\/(x = n/\s = st/\e = d)):=by
 obtain ⟨k,e,h1,h2,h3,h4⟩:=pending_at h;have he : M.ent (k : Int) = e:=by simp [PMem.ent,h1]
 have heq : M.stamp n false st = { M with es:=M.es.set k { e with pending:=false,stamp:=st } }:=by
  unfold PMem.stamp;rw [h4,hasE_of h1,he]; simp [PMem.setE]
 rw [heq];have h2':=h2;simp only [isPd,Bool.and_eq_true,beq_iff_eq] at h2';have hu : e.used = true:=by
  cases hu : e.used
  ·rw [hw.wfe e (List.mem_of_getElem? h1) hu] at h2'; exact nomatch h2'.1
  ·rfl
 refine ⟨rfl,hw.setE (fun hh=>by simp [hu] at hh) h2'.2.2,?_,?_⟩
 ·intro x;unfold Pd;split
  ·next hx=>subst hx; exact (filt_del _ _ h1 _ h h2 (by simp [isPd])).1
  ·next hx=>exact filt_set _ _ h1 _ (isPd_ne h2 hx) (by simp [isPd])
 ·intro x s d';rw [sd_set h1 (isSt_pd h2)];refine or_congr Iff.rfl ?_;simp only [isSt,hu,h2'.2.2,h2'.2.1,h3,Bool.true_and,Bool.not_false,beq_self_eq_true,Bool.and_true,beq_iff_eq];constructor
  ·rintro ⟨a,b,c⟩; exact ⟨a.symm,b.symm,c.symm⟩
  ·rintro ⟨a,b,c⟩; exact ⟨a.symm,b.symm,c.symm⟩
theorem stamp_no {M : PMem} {n : Int} (hw : Wm M) (st : Int) : M.stamp n true st = M:=by
 have : M.pending n true = -1:=by
  apply find_miss;intro j hj y hy
  have:=hw.sd y (List.mem_of_getElem? hy)
  simp [isPd,this]
 unfold PMem.stamp;rw [this,show M.hasEntry (-1) = false from isIn_false (by omega)]
 simp
theorem lead_e {M : PMem} {n d : Int} (h : Pd M n = [d]) (hl : M.hasLink n false = true) : M.lead n false = M.modN n fun x=>{ x with leads:=upd x.leads false d }:=by
 obtain ⟨k,e,h1,h2,h3,h4⟩:=pending_at h;have he : M.ent (k : Int) = e:=by simp [PMem.ent,h1]
 unfold PMem.lead;rw [h4,hasE_of h1,hl,he,h3]; simp
end
section
theorem count_set_e {α : Type} (p : α->Bool) : ∀ {l : List α} {k : Nat} {x y : α},l[k]? = some x->p x = true->p y = false->count p l = count p (l.set k y) + 1
 | [],k,x,y,h=>by simp at h
 | z :: r,0,x,y,h=>by
  intro hx hy;simp at h; subst h;simp [count,hx,hy]
 | z :: r,k + 1,x,y,h=>by
  intro hx hy;simp only [List.getElem?_cons_succ] at h
  have:=count_set_e p h hx hy
  simp only [count,List.set_cons_succ,List.filter_cons] at this ⊢;split <;> simp [this]
theorem count_some {α : Type} {p : α->Bool} {l : List α} (h : 0 < count p l) : ∃ x ∈ l,p x = true:=by
 unfold count at h;obtain ⟨x,hx⟩:=List.exists_mem_of_length_pos h;rw [List.mem_filter] at hx;exact ⟨x,hx.1,hx.2⟩
theorem make_e {M : PMem} (hw : Wm M) (key value : Int) (hf : 0 < M.room.1) : ∃ n : Int,(M.node n).used = false/\M.hasNode n = true/\(M.make key value).2 = n/\(M.make key value).1.es = M.es/\(M.make key value).1.ns.length = M.ns.length/\Wm (M.make key value).1/\∀ x,(M.make key value).1.node x = if x = n then PNode.made key value else M.node x:=by
 obtain ⟨e,he,hu⟩:=count_some (l:=M.ns) (p:=fun x=>!x.used) (by unfold PMem.room at hf; simpa using hf);obtain ⟨k,y,h1,h2,h3⟩:=found (p:=fun x : PNode=>!x.used) he hu;have h4 : M.freeNode = (k : Int):=h3;obtain ⟨h5,h6⟩:=node_get h1;have heq : M.make key value = ({ M with ns:=M.ns.set k (PNode.made key value) },(k : Int)):=by
  unfold PMem.make;rw [h4,if_pos h6]; rfl
 rw [heq];have hn : ∀ x,PMem.node { M with ns:=M.ns.set k (PNode.made key value) } x = if x = (k : Int) then PNode.made key value else M.node x:=by
  intro x
  have:=node_modN h6 (fun _=>PNode.made key value) x
  unfold PMem.modN at this;rw [if_pos h6] at this;rw [<- this]
  congr 2
  apply List.ext_getElem?;intro j;rw [List.getElem?_set,List.getElem?_modify];by_cases hj : k = j
  ·subst hj
   have:=(List.getElem?_eq_some_iff.1 h1).1
   simp [this]
  ·have : ¬ (k : Int).toNat = j:=by simpa using hj
   simp [hj,this]
 refine ⟨k,by rw [h5]; simpa using h2,h6,rfl,rfl,by simp,?_,hn⟩;refine hw.nodes (by simp) rfl ?_;intro x hx;rw [hn] at hx ⊢;split at hx
 ·exact nomatch hx
 ·next hne=>rw [if_neg hne]; exact hw.un x hx
theorem hasLink_iff {M : PMem} {n : Int} : M.hasLink n false = true ↔ M.hasNode n = true/\0 < (M.node n).links:=by
 unfold PMem.hasLink;simp [b2i]
theorem addLink_e {M : PMem} {n to : Int} (hw : Wm M) (hu : (M.node n).used = true) (hl : (M.node n).links = 0) (hp : Pd M n = []) (hf : 0 < M.room.2) :
  (M.addLink n to).ns.length = M.ns.length/\Wm (M.addLink n to)/\(∀ x,(M.addLink n to).node x = if x = n then linked false to (M.node n) else M.node x)/\(∀ x,Pd (M.addLink n to) x = if x = n then [to] else Pd M x)/\(∀ x s d,Sd (M.addLink n to) x s d ↔ Sd M x s d)/\M.room.2 = (M.addLink n to).room.2 + 1:=by
 obtain ⟨e,he,hue⟩:=count_some (l:=M.es) (p:=fun x=>!x.used) (by unfold PMem.room at hf; simpa using hf);have hh:=hasN_used hu;obtain ⟨k0,y0,g1,g2,g3⟩:=found (p:=fun x : PEntry=>!x.used) he hue;have hfe : (M.freeEntry != -1) = true:=by
  rw [show M.freeEntry = (k0 : Int) from g3]
  simp
 have hw1 : Wm (M.modN n (linked false to)):=hw.modN hu _ (by simpa [linked] using hu);have hes:=modN_ents M n (linked false to);have hlk : (M.modN n (linked false to)).hasLink n false = true:=by
  rw [hasLink_iff,hasN_len (modN_len _ _ _),node_modN hh,if_pos rfl];exact ⟨hh,by simp [linked,hl]⟩
 obtain ⟨k,h1,h2,h3,h4,h5⟩:=pend_e (to:=to) hw1 ⟨e,by rw [hes]; exact he,by simpa using hue⟩ hlk (by rw [pd_es hes]; exact hp);have heq : M.addLink n to = (M.modN n (linked false to)).pend n false to:=by
  unfold PMem.addLink;rw [hh,hfe,hl]
  rfl
 rw [heq];refine ⟨?_,h3,?_,?_,?_,?_⟩
 ·rw [h2]; exact modN_len _ _ _
 ·intro x;rw [h2];exact node_modN hh _ x
 ·intro x; rw [h4,pd_es hes]
 ·intro x s d; rw [h5,sd_es hes]
 ·rw [h2];unfold PMem.room;simp only;rw [hes] at h1 ⊢
  have:=count_set_e (p:=fun x : PEntry=>!x.used) (y:=⟨true,true,n,false,to,0⟩) h1 rfl rfl
  omega
theorem free_e {M : PMem} {n : Int} (hw : Wm M) (hh : M.hasNode n = true) (h0 : n≠0/\n≠1) : (M.free n).ns.length = M.ns.length/\Wm (M.free n)/\(∀ x,(M.free n).node x = if x = n then PNode.zero else M.node x)/\(∀ x,Pd (M.free n) x = if x = n then [] else Pd M x)/\(∀ x s d,Sd (M.free n) x s d ↔ x≠n/\Sd M x s d):=by
 have heq : M.free n = { ns:=M.ns.set n.toNat PNode.zero,es:=M.es.map fun e=>if ofNode n e then PEntry.zero else e }:=by
  unfold PMem.free;rw [if_pos (by simp [hh,h0])]
 obtain ⟨k,y,rfl,h1,h2⟩:=node_at hh;have hn : ∀ x,(M.free k).node x = if x = (k : Int) then PNode.zero else M.node x:=by
  intro x
  have:=node_modN hh (fun _=>PNode.zero) x
  unfold PMem.modN at this;rw [if_pos hh] at this;rw [<- this,heq];unfold PMem.node PMem.hasNode;simp only [List.length_set,List.length_modify]
  congr 3
  apply List.ext_getElem?;intro j;rw [List.getElem?_set,List.getElem?_modify];by_cases hj : (k : Int).toNat = j
  ·subst hj
   have:=(List.getElem?_eq_some_iff.1 h1).1
   simp [this]
  ·simp only [hj,if_false];cases M.ns[j]? <;> simp
 have hq : ∀ e ∈ M.es,∀ x,isPd x false (if ofNode k e then PEntry.zero else e) = (isPd x false e && decide (x≠(k : Int))):=by
  intro e he x;by_cases ho : ofNode k e = true
  ·rw [if_pos ho,isPd_z];simp only [ofNode,Bool.and_eq_true,beq_iff_eq] at ho;by_cases hx : x = (k : Int)
   ·simp [hx]
   ·have : ¬ (k : Int) = x:=fun h=>hx h.symm
    simp [isPd,ho.2,this]
  ·rw [if_neg ho];by_cases hx : x = (k : Int)
   ·subst hx;cases hp : isPd k false e
    ·rfl
    ·exfalso;apply ho;simp only [isPd,Bool.and_eq_true,beq_iff_eq] at hp;cases hu : e.used
     ·rw [hw.wfe e he hu] at hp; exact nomatch hp.1
     ·simp [ofNode,hu,hp.2.1]
   ·simp [hx]
 refine ⟨by rw [heq]; simp,⟨?_,?_,?_,?_⟩,hn,?_,?_⟩
 ·rw [heq]; simpa using hw.len
 ·rw [heq];intro e he hu;simp only [List.mem_map] at he;obtain ⟨e',he',rfl⟩:=he;split at hu
  ·next hc=>rw [if_pos hc]
  ·next hc=>rw [if_neg hc]; exact hw.wfe e' he' hu
 ·rw [heq];intro e he;simp only [List.mem_map] at he;obtain ⟨e',he',rfl⟩:=he;split
  ·rfl
  ·exact hw.sd e' he'
 ·intro x hx;rw [hn] at hx ⊢;split at hx
  ·next hc=>rw [if_pos hc]
  ·next hc=>rw [if_neg hc]; exact hw.un x hx
 ·intro x;rw [heq];unfold Pd;simp only;have key : ∀ l : List PEntry,(∀ e ∈ l,e ∈ M.es)->((l.map fun e=>if ofNode k e then PEntry.zero else e).filter (isPd x false)).map PEntry.dst = if x = (k : Int) then [] else (l.filter (isPd x false)).map PEntry.dst:=by
   intro l
   induction l with
   | nil=>intro _; split <;> rfl
   | cons a r ih =>
    intro hl;have ih:=ih (fun e he=>hl e (by simp [he]));have ha:=hq a (hl a (by simp)) x;simp only [List.map_cons,List.filter_cons,ha];by_cases hx : x = (k : Int)
    ·rw [if_pos hx] at ih ⊢;simp [hx];simpa [hx] using ih
    ·rw [if_neg hx] at ih ⊢;simp only [hx,not_false_eq_true,decide_true,Bool.and_true,ne_eq];by_cases hp : isPd x false a = true
     ·have ho : ofNode k a = false:=by
       cases ho : ofNode k a
       ·rfl
       ·simp only [ofNode,Bool.and_eq_true,beq_iff_eq] at ho;simp only [isPd,Bool.and_eq_true,beq_iff_eq] at hp;exact absurd (hp.2.1.symm.trans ho.2) hx
      rw [if_pos hp,if_pos hp,List.map_cons,List.map_cons,ih,ho]; rfl
     ·rw [if_neg hp,if_neg hp,ih]
  exact key M.es (fun e he=>he)
 ·intro x s d;rw [heq];unfold Sd;simp only [List.mem_map];constructor
  ·rintro ⟨e,⟨e',he',rfl⟩,h3,h4⟩;by_cases ho : ofNode k e' = true
   ·rw [if_pos ho,isSt_z] at h3; cases h3
   ·rw [if_neg ho] at h3 h4;refine ⟨?_,e',he',h3,h4⟩;rintro rfl;apply ho;simp only [isSt,Bool.and_eq_true,beq_iff_eq] at h3;simp [ofNode,h3.1,h3.2.2.1]
  ·rintro ⟨hx,e,he,h3,h4⟩;have ho : ¬ ofNode k e = true:=by
    intro ho;simp only [ofNode,Bool.and_eq_true,beq_iff_eq] at ho;simp only [isSt,Bool.and_eq_true,beq_iff_eq] at h3;exact hx (h3.2.2.1.symm.trans ho.2)
   exact ⟨e,⟨e,he,by rw [if_neg ho]⟩,h3,h4⟩
theorem led_fold_e (n time : Int) : ∀ (l : List PEntry) (p : Int × Int),(∀ e ∈ l,isSt n false e = true->0<=e.stamp) ->
  (l.foldl (ledStep n false time) p = p/\∀ e ∈ l,isSt n false e = true->e.stamp<=time->e.stamp<=p.1) \/
  (∃ e ∈ l,isSt n false e = true/\e.stamp<=time/\p.1 < e.stamp/\l.foldl (ledStep n false time) p = (e.stamp,e.dst)/\∀ e' ∈ l,isSt n false e' = true->e'.stamp<=time->e'.stamp<=e.stamp)
 | [],p,_=>.inl ⟨rfl,by simp⟩
 | a :: r,p,h=>by
  have ih:=led_fold_e n time r (ledStep n false time p a) (fun e he=>h e (by simp [he]));rw [List.foldl_cons];by_cases hc : (isSt n false a && (decide (a.stamp<=time) && decide (p.1 < a.stamp))) = true
  ·have hq : ledStep n false time p a = (a.stamp,a.dst):=by unfold ledStep; rw [if_pos hc]
   rw [hq] at ih ⊢;simp only [Bool.and_eq_true,decide_eq_true_eq] at hc;rcases ih with ⟨i1,i2⟩ | ⟨e,e1,e2,e3,e4,e5,e6⟩
   ·right;refine ⟨a,by simp,hc.1,hc.2.1,hc.2.2,i1,?_⟩;intro e' he' h1 h2;rcases List.mem_cons.1 he' with rfl | he'
    ·exact Int.le_refl _
    ·exact i2 e' he' h1 h2
   ·right;simp only at e4;refine ⟨e,by simp [e1],e2,e3,by omega,e5,?_⟩;intro e' he' h1 h2;rcases List.mem_cons.1 he' with rfl | he'
    ·omega
    ·exact e6 e' he' h1 h2
  ·have hq : ledStep n false time p a = p:=by unfold ledStep; rw [if_neg hc]
   rw [hq] at ih ⊢;have ha : isSt n false a = true->a.stamp<=time->a.stamp<=p.1:=by
    intro h1 h2;simp only [Bool.and_eq_true,decide_eq_true_eq,not_and] at hc
    have:=hc h1 h2
    omega
   rcases ih with ⟨i1,i2⟩ | ⟨e,e1,e2,e3,e4,e5,e6⟩
   ·left;refine ⟨i1,?_⟩;intro e he h1 h2;rcases List.mem_cons.1 he with rfl | he
    ·exact ha h1 h2
    ·exact i2 e he h1 h2
   ·right;refine ⟨e,by simp [e1],e2,e3,e4,e5,?_⟩;intro e' he' h1 h2;rcases List.mem_cons.1 he' with rfl | he'
    ·have:=ha h1 h2; omega
    ·exact e6 e' he' h1 h2
theorem ledTo_ok {M : PMem} {n time : Int} (h : ∀ s d,Sd M n s d->0<=s) : (M.ledTo n false time = 1/\∀ s d,Sd M n s d->¬ s<=time)\/∃ s,Sd M n s (M.ledTo n false time)/\s<=time/\∀ s' d',Sd M n s' d'->s'<=time->s'<=s:=by
 have h0 : ∀ e ∈ M.es,isSt n false e = true->0<=e.stamp:=fun e he hs=>h e.stamp e.dst ⟨e,he,hs,rfl,rfl⟩
 unfold PMem.ledTo;rcases led_fold_e n time M.es (-1,1) h0 with ⟨h1,h2⟩ | ⟨e,e1,e2,e3,e4,e5,e6⟩
 ·left;rw [h1];refine ⟨rfl,?_⟩;rintro s d ⟨e,he,hs,rfl,rfl⟩ hle
  have:=h2 e he hs hle
  have:=h0 e he hs
  simp only at *;omega
 ·right;rw [e5];refine ⟨e.stamp,⟨e,e1,e2,rfl,rfl⟩,e3,?_⟩;rintro s' d' ⟨e',he',hs',rfl,rfl⟩ hle;exact e6 e' he' hs' hle
end
section
theorem maxE (p : PEntry->Bool) : ∀ (l : List PEntry),(∃ x ∈ l,p x = true)->∃ x ∈ l,p x = true/\∀ y ∈ l,p y = true->y.stamp<=x.stamp
 | [],h=>by obtain ⟨x,hx,_⟩:=h; cases hx
 | z :: r,h=>by
  by_cases hr : ∃ x ∈ r,p x = true
  ·obtain ⟨x,h1,h2,h3⟩:=maxE p r hr;by_cases hz : p z = true/\x.stamp < z.stamp
   ·refine ⟨z,by simp,hz.1,?_⟩;intro y hy hp;rcases List.mem_cons.1 hy with rfl | hy
    ·exact Int.le_refl _
    ·have:=h3 y hy hp; omega
   ·refine ⟨x,by simp [h1],h2,?_⟩;intro y hy hp;rcases List.mem_cons.1 hy with rfl | hy
    ·rcases Int.lt_or_le x.stamp y.stamp with hlt | hle
     ·exact absurd ⟨hp,hlt⟩ hz
     ·exact hle
    ·exact h3 y hy hp
  ·obtain ⟨x,hx,hp⟩:=h;rcases List.mem_cons.1 hx with rfl | hx
   ·refine ⟨x,by simp,hp,?_⟩;intro y hy hpy;rcases List.mem_cons.1 hy with rfl | hy
    ·exact Int.le_refl _
    ·exact absurd ⟨y,hy,hpy⟩ hr
   ·exact absurd ⟨x,hx,hp⟩ hr
section
variable {es : List PEntry} {time : Int}
def Over (time : Int) (es : List PEntry) (e : PEntry) : Prop:=isSt e.src e.side e = true/\∃ e' ∈ es,stampAbove e.src e.side e.stamp time e' = true
structure DropK (time : Int) (es D : List PEntry) (k : Nat) : Prop where
 len : D.length = es.length
 yes : ∀ (j : Nat) e,es[j]? = some e->j < k->Over time es e->D[j]? = some PEntry.zero
 no : ∀ (j : Nat) e,es[j]? = some e->(j < k->¬ Over time es e)->D[j]? = some e
theorem DropK.back {D : List PEntry} {k : Nat} (h : DropK time es D k) {j : Nat} {e : PEntry} (hj : D[j]? = some e) : ∃ e0,es[j]? = some e0/\(e = PEntry.zero\/(e = e0/\(j < k->¬ Over time es e))):=by
 have hl:=(List.getElem?_eq_some_iff.1 hj).1;rw [h.len] at hl;have he:=List.getElem?_eq_getElem hl;refine ⟨_,he,?_⟩;by_cases hh : j < k->¬ Over time es es[j]
 ·have:=h.no j _ he hh
  rw [this] at hj;injection hj with hj
  subst hj;exact .inr ⟨rfl,hh⟩
 ·simp only [Classical.not_imp,Classical.not_not] at hh
  have:=h.yes j _ he hh.1 hh.2
  rw [this] at hj;injection hj with hj
  exact .inl hj.symm
theorem DropK.any {D : List PEntry} {k : Nat} (h : DropK time es D k) (e : PEntry) : D.any (stampAbove e.src e.side e.stamp time) = true ↔ ∃ e' ∈ es,stampAbove e.src e.side e.stamp time e' = true:=by
 rw [List.any_eq_true];constructor
 ·rintro ⟨x,hx,hp⟩;obtain ⟨j,hj⟩:=List.mem_iff_getElem?.1 hx;obtain ⟨e0,h1,h2⟩:=h.back hj;rcases h2 with rfl | ⟨rfl,_⟩
  ·simp [stampAbove,isSt_z] at hp
  ·exact ⟨x,List.mem_of_getElem? h1,hp⟩
 ·intro hh;obtain ⟨x,hx,hp,hm⟩:=maxE _ es hh;obtain ⟨j,hj⟩:=List.mem_iff_getElem?.1 hx;refine ⟨x,List.mem_of_getElem? (h.no j x hj (fun _=>?_)),hp⟩;rintro ⟨_,y,hy,hp2⟩;simp only [stampAbove,isSt,Bool.and_eq_true,beq_iff_eq,decide_eq_true_eq] at hp hp2 hm
  have:=hm y hy ⟨⟨hp2.1.1,hp2.1.2.1,hp2.1.2.2.1.trans hp.1.2.2.1,hp2.1.2.2.2.trans hp.1.2.2.2⟩,by omega,hp2.2.2⟩
  omega
theorem DropK.step {D : List PEntry} {k : Nat} (h : DropK time es D k) : DropK time es (dropOne time D k) (k + 1):=by
 unfold dropOne;cases hk : D[k]? with
 | none =>
  simp only;have hl:=List.getElem?_eq_none_iff.1 hk;rw [h.len] at hl;refine ⟨h.len,?_,?_⟩
  ·intro j e he hj ho
   have:=(List.getElem?_eq_some_iff.1 he).1
   exact h.yes j e he (by omega) ho
  ·intro j e he hj;exact h.no j e he (fun hh=>hj (by omega))
 | some e0 =>
  simp only;have hkl:=(List.getElem?_eq_some_iff.1 hk).1;have hek : es[k]? = some e0:=by
   obtain ⟨e1,h1,_⟩:=h.back hk
   have:=h.no k e1 h1 (fun hh=>by omega)
   rw [hk] at this;rw [h1,this]
  have hov : (isSt e0.src e0.side e0 && D.any (stampAbove e0.src e0.side e0.stamp time)) = true ↔ Over time es e0:=by
   rw [Bool.and_eq_true,h.any]; rfl
  by_cases ho : Over time es e0
  ·rw [if_pos (hov.2 ho)];refine ⟨by simpa using h.len,?_,?_⟩
   ·intro j e he hj h1;by_cases hjk : k = j
    ·subst hjk; rw [List.getElem?_set_self hkl]
    ·rw [List.getElem?_set_ne hjk]; exact h.yes j e he (by omega) h1
   ·intro j e he hj;by_cases hjk : k = j
    ·subst hjk;rw [hek] at he; injection he with he; subst he
     exact absurd ho (hj (by omega))
    ·rw [List.getElem?_set_ne hjk]; exact h.no j e he (fun hh=>hj (by omega))
  ·rw [if_neg (fun hh=>ho (hov.1 hh))];refine ⟨h.len,?_,?_⟩
   ·intro j e he hj h1;by_cases hjk : k = j
    ·subst hjk;rw [hek] at he; injection he with he; subst he
     exact absurd h1 ho
    ·exact h.yes j e he (by omega) h1
   ·intro j e he hj;exact h.no j e he (fun hh=>hj (by omega))
theorem dropK (time : Int) (es : List PEntry) : ∀ k,DropK time es (dropTo time es k) k
 | 0=>⟨rfl,fun _ _ _ h=>by omega,fun _ _ h _=>h⟩
 | k + 1=>(dropK time es k).step
end
theorem filt_same {α β : Type} (p : α->Bool) (f : α->β) : ∀ (l m : List α),m.length = l.length->(∀ (j : Nat) a b,l[j]? = some a->m[j]? = some b->a = b\/(p a = false/\p b = false))->(m.filter p).map f = (l.filter p).map f
 | [],[],_,_=>rfl
 | [],b :: m,h,_=>by simp at h
 | a :: l,[],h,_=>by simp at h
 | a :: l,b :: m,h,hp=>by
  have ih:=filt_same p f l m (by simpa using h) (fun j x y hx hy=>hp (j + 1) x y (by simpa using hx) (by simpa using hy));rw [List.filter_cons,List.filter_cons];rcases hp 0 a b rfl rfl with rfl | ⟨h1,h2⟩
  ·split <;> simp [ih]
  ·rw [h1,h2]; simpa using ih
theorem drop_ok {M : PMem} (hw : Wm M) (time : Int) : (M.drop time).ns = M.ns/\Wm (M.drop time)/\(∀ x,Pd (M.drop time) x = Pd M x)/\(∀ x s d,Sd (M.drop time) x s d ↔ Sd M x s d/\∀ s' d',Sd M x s' d'->s < s'->¬ s'<=time):=by
 have hD:=dropK time M.es M.es.length;have hov : ∀ e ∈ M.es,∀ x,isSt x false e = true->(Over time M.es e ↔ ∃ s' d',Sd M x s' d'/\e.stamp < s'/\s'<=time):=by
  intro e he x hx;have hx':=hx;simp only [isSt,Bool.and_eq_true,beq_iff_eq] at hx';obtain ⟨h1,h2,h3,h4⟩:=hx';unfold Over;rw [h3,h4];constructor
  ·rintro ⟨_,e',he',hp⟩;simp only [stampAbove,Bool.and_eq_true,decide_eq_true_eq] at hp;exact ⟨e'.stamp,e'.dst,⟨e',he',hp.1,rfl,rfl⟩,hp.2.1,hp.2.2⟩
  ·rintro ⟨s',d',⟨e',he',hs,rfl,rfl⟩,hl,hr⟩;refine ⟨hx,e',he',?_⟩;simp only [stampAbove,Bool.and_eq_true,decide_eq_true_eq];exact ⟨hs,hl,hr⟩
 refine ⟨rfl,⟨hw.len,?_,?_,hw.un⟩,?_,?_⟩
 ·intro e he hu;obtain ⟨j,hj⟩:=List.mem_iff_getElem?.1 he;obtain ⟨e0,h1,h2⟩:=hD.back hj;rcases h2 with rfl | ⟨rfl,_⟩
  ·rfl
  ·exact hw.wfe e (List.mem_of_getElem? h1) hu
 ·intro e he;obtain ⟨j,hj⟩:=List.mem_iff_getElem?.1 he;obtain ⟨e0,h1,h2⟩:=hD.back hj;rcases h2 with rfl | ⟨rfl,_⟩
  ·rfl
  ·exact hw.sd e (List.mem_of_getElem? h1)
 ·intro x;unfold Pd;refine filt_same _ _ _ _ hD.len ?_;intro j a b ha hb;have hb : (dropTo time M.es M.es.length)[j]? = some b:=hb;by_cases ho : Over time M.es a
  ·have hj:=(List.getElem?_eq_some_iff.1 ha).1
   have:=hD.yes j a ha hj ho
   rw [this] at hb; injection hb with hb; subst hb
   right;refine ⟨?_,isPd_z _ _⟩
   have:=ho.1
   simp only [isSt,Bool.and_eq_true] at this;simp [isPd];intro hp;rw [hp] at this;simp at this
  ·have:=hD.no j a ha (fun _=>ho)
   rw [this] at hb; injection hb with hb
   exact .inl hb
 ·intro x s d;constructor
  ·rintro ⟨e,he,hs,rfl,rfl⟩;obtain ⟨j,hj⟩:=List.mem_iff_getElem?.1 he;obtain ⟨e0,h1,h2⟩:=hD.back hj;rcases h2 with rfl | ⟨rfl,h3⟩
   ·rw [isSt_z] at hs; cases hs
   ·have hm:=List.mem_of_getElem? h1;refine ⟨⟨e,hm,hs,rfl,rfl⟩,?_⟩;intro s' d' h4 h5 h6;exact h3 (List.getElem?_eq_some_iff.1 h1).1 ((hov e hm x hs).2 ⟨s',d',h4,h5,h6⟩)
  ·rintro ⟨⟨e,he,hs,rfl,rfl⟩,hno⟩;obtain ⟨j,hj⟩:=List.mem_iff_getElem?.1 he;refine ⟨e,List.mem_of_getElem? (hD.no j e hj (fun _ ho=>?_)),hs,rfl,rfl⟩;obtain ⟨s',d',h4,h5,h6⟩:=(hov e he x hs).1 ho;exact hno s' d' h4 h5 h6
end
section
namespace T
def Pd (M : PMem) (x : Int) (s : Bool) : List Int:=(M.es.filter (isPd x s)).map PEntry.dst
def Sd (M : PMem) (x : Int) (s : Bool) (st d : Int) : Prop:=∃ e ∈ M.es,isSt x s e = true/\e.stamp = st/\e.dst = d
structure Wm (M : PMem) : Prop where
 len : 2<=M.ns.length
 wfe : ∀ e ∈ M.es,e.used = false->e = PEntry.zero
 un : ∀ x,(M.node x).used = false->M.node x = PNode.zero
theorem pd_es {M M' : PMem} (h : M'.es = M.es) (x : Int) (s : Bool) : Pd M' x s = Pd M x s:=by unfold Pd; rw [h]
theorem sd_es {M M' : PMem} (h : M'.es = M.es) (x : Int) (s : Bool) (st d : Int) : Sd M' x s st d ↔ Sd M x s st d:=by unfold Sd; rw [h]
theorem Wm.nodes {M M' : PMem} (h : Wm M) (hl : M'.ns.length = M.ns.length) (he : M'.es = M.es) (hu : ∀ x,(M'.node x).used = false->M'.node x = PNode.zero) : Wm M' :=
 ⟨by rw [hl]; exact h.len,by rw [he]; exact h.wfe,hu⟩
theorem Wm.modN {M : PMem} (h : Wm M) {n : Int} (hn : (M.node n).used = true) (f : PNode->PNode) (hf : (f (M.node n)).used = true) : Wm (M.modN n f):=by
 refine h.nodes (modN_len _ _ _) (modN_ents _ _ _) ?_;intro x hx;rw [node_modN (hasN_used hn)] at hx ⊢;split at hx
 ·rw [hf] at hx; cases hx
 ·next hne=>rw [if_neg hne]; exact h.un x hx
theorem Wm.unlock {M : PMem} (h : Wm M) (t : Int) : Wm (M.unlock t):=by
 refine h.nodes (by simp [PMem.unlock]) rfl ?_;intro x hx;rw [unlock_node] at hx ⊢;have hu : (unlocked t (M.node x)).used = (M.node x).used:=by unfold unlocked; split <;> rfl
 rw [hu] at hx;rw [h.un x hx]; rfl
theorem sd_set {M : PMem} {k : Nat} {e0 y : PEntry} (h : M.es[k]? = some e0) (h0 : ∀ x s,isSt x s e0 = false) (x : Int) (s : Bool) (st d : Int) : Sd { M with es:=M.es.set k y } x s st d ↔ Sd M x s st d\/(isSt x s y = true/\y.stamp = st/\y.dst = d):=by
 unfold Sd;constructor
 ·rintro ⟨e,he,h1,h2⟩;rcases (set_get h).1 he with rfl | ⟨j,_,hj⟩
  ·exact .inr ⟨h1,h2⟩
  ·exact .inl ⟨e,List.mem_of_getElem? hj,h1,h2⟩
 ·rintro (⟨e,he,h1,h2⟩ | ⟨h1,h2⟩)
  ·obtain ⟨j,hj⟩:=List.mem_iff_getElem?.1 he;refine ⟨e,(set_get h).2 (.inr ⟨j,?_,hj⟩),h1,h2⟩;rintro rfl;rw [h] at hj; injection hj with hj; subst hj
   rw [h0] at h1; cases h1
  ·exact ⟨y,(set_get h).2 (.inl rfl),h1,h2⟩
theorem Wm.setE {M : PMem} (h : Wm M) {k : Nat} {y : PEntry} (hy : y.used = false->y = PEntry.zero) : Wm { M with es:=M.es.set k y }:=by
 refine ⟨h.len,?_,h.un⟩;intro e he hu;rcases List.mem_or_eq_of_mem_set he with he | rfl
 ·exact h.wfe e he hu
 ·exact hy hu
theorem pend_e {M : PMem} {n to : Int} {s : Bool} (hw : Wm M) (hf : ∃ e ∈ M.es,e.used = false) (hl : M.hasLink n s = true) (hp : Pd M n s = []) :
  ∃ k : Nat,M.es[k]? = some PEntry.zero/\M.pend n s to = { M with es:=M.es.set k ⟨true,true,n,s,to,0⟩ }/\Wm (M.pend n s to)/\(∀ x r,Pd (M.pend n s to) x r = if x = n/\r = s then [to] else Pd M x r)/\(∀ x r st d,Sd (M.pend n s to) x r st d ↔ Sd M x r st d):=by
 obtain ⟨e,he,hu⟩:=hf;obtain ⟨k,y,h1,h2,h3⟩:=found (p:=fun x : PEntry=>!x.used) he (by simp [hu]);have hy : y = PEntry.zero:=hw.wfe y (List.mem_of_getElem? h1) (by simpa using h2);subst hy;have heq : M.pend n s to = { M with es:=M.es.set k ⟨true,true,n,s,to,0⟩ }:=by
  have hk : M.freeEntry = (k : Int):=h3;unfold PMem.pend;rw [hk,hasE_of h1,hl];simp [PMem.setE]
 refine ⟨k,h1,heq,?_,?_,?_⟩
 ·rw [heq]; exact hw.setE (by simp)
 ·intro x r;rw [heq];unfold Pd;split
  ·next hx=>obtain ⟨rfl,rfl⟩:=hx; exact filt_new _ _ h1 _ hp (by simp [isPd])
  ·next hx =>
   refine filt_set _ _ h1 _ (isPd_z _ _) ?_;simp only [isPd,Bool.true_and,Bool.and_eq_false_iff,beq_eq_false_iff_ne];by_cases e : n = x
   ·right; intro e2; exact hx ⟨e.symm,e2.symm⟩
   ·exact .inl e
 ·intro x r st d;rw [heq,sd_set h1 (fun x s=>isSt_z _ _)];simp [isSt]
theorem pending_at {M : PMem} {n d : Int} {s : Bool} (h : Pd M n s = [d]) : ∃ (k : Nat) (e : PEntry),M.es[k]? = some e/\isPd n s e = true/\e.dst = d/\M.pending n s = (k : Int):=by
 have hm : ∃ a,a ∈ M.es.filter (isPd n s):=by
  cases hf : M.es.filter (isPd n s) with
  | nil=>unfold Pd at h; rw [hf] at h; simp at h
  | cons a r=>exact ⟨a,by simp⟩
 obtain ⟨a,ha⟩:=hm;rw [List.mem_filter] at ha;obtain ⟨k,y,h1,h2,h3⟩:=found ha.1 ha.2;refine ⟨k,y,h1,h2,?_,h3⟩;exact ((filt_del (isPd n s) PEntry.dst h1 PEntry.zero h h2 (isPd_z _ _)).2).symm
theorem pending_no {M : PMem} {n : Int} {s : Bool} (h : Pd M n s = []) : M.pending n s = -1:=by
 unfold Pd at h;simp at h;apply find_miss;intro j hj y hy
 have:=h y (List.mem_of_getElem? hy)
 simpa using this
theorem hasPd_iff {M : PMem} {n : Int} {s : Bool} : M.hasPending n s = true ↔ Pd M n s≠[]:=by
 unfold PMem.hasPending;constructor
 ·intro h hp;rw [pending_no hp] at h;simp at h
 ·intro h;have hm : ∃ a,a ∈ M.es.filter (isPd n s):=by
   cases hf : M.es.filter (isPd n s) with
   | nil=>unfold Pd at h; rw [hf] at h; simp at h
   | cons a r=>exact ⟨a,by simp⟩
  obtain ⟨a,ha⟩:=hm;rw [List.mem_filter] at ha;obtain ⟨k,y,h1,h2,h3⟩:=found ha.1 ha.2;unfold PMem.pending;rw [h3]
  simp
theorem isSt_pd {e : PEntry} {n : Int} {s : Bool} (h : isPd n s e = true) (x : Int) (r : Bool) : isSt x r e = false:=by
 simp only [isPd,Bool.and_eq_true] at h;simp [isSt,h.1]
theorem isPd_ne {e : PEntry} {n x : Int} {s r : Bool} (h : isPd n s e = true) (hx : ¬ (x = n/\r = s)) : isPd x r e = false:=by
 simp only [isPd,Bool.and_eq_true,beq_iff_eq] at h;simp only [isPd,h.1,Bool.true_and,Bool.and_eq_false_iff,beq_eq_false_iff_ne,h.2.1,h.2.2];by_cases e : n = x
 ·right; intro e2; exact hx ⟨e.symm,e2.symm⟩
 ·exact .inl e
theorem unpend_e {M : PMem} {n d : Int} {s : Bool} (hw : Wm M) (h : Pd M n s = [d]) : (M.unpend n s).ns = M.ns/\Wm (M.unpend n s)/\(∀ x r,Pd (M.unpend n s) x r = if x = n/\r = s then [] else Pd M x r)/\(∀ x r st d,Sd (M.unpend n s) x r st d ↔ Sd M x r st d):=by
 obtain ⟨k,e,h1,h2,_,h4⟩:=pending_at h;have heq : M.unpend n s = { M with es:=M.es.set k PEntry.zero }:=by
  unfold PMem.unpend;rw [h4,hasE_of h1]; simp [PMem.setE]
 rw [heq];refine ⟨rfl,hw.setE (fun _=>rfl),?_,?_⟩
 ·intro x r;unfold Pd;split
  ·next hx=>obtain ⟨rfl,rfl⟩:=hx; exact (filt_del _ _ h1 _ h h2 (isPd_z _ _)).1
  ·next hx=>exact filt_set _ _ h1 _ (isPd_ne h2 hx) (isPd_z _ _)
 ·intro x r st d;rw [sd_set h1 (isSt_pd h2)];simp [isSt_z]
theorem stamp_e {M : PMem} {n d : Int} {s : Bool} (st : Int) (hw : Wm M) (h : Pd M n s = [d]) : (M.stamp n s st).ns = M.ns/\Wm (M.stamp n s st)/\(∀ x r,Pd (M.stamp n s st) x r = if x = n/\r = s then [] else Pd M x r)/\(∀ x r st' e,Sd (M.stamp n s st) x r st' e ↔ Sd M x r st' e\/(x = n/\r = s/\st' = st/\e = d)):=by
 obtain ⟨k,e,h1,h2,h3,h4⟩:=pending_at h;have he : M.ent (k : Int) = e:=by simp [PMem.ent,h1]
 have heq : M.stamp n s st = { M with es:=M.es.set k { e with pending:=false,stamp:=st } }:=by
  unfold PMem.stamp;rw [h4,hasE_of h1,he]; simp [PMem.setE]
 rw [heq];have h2':=h2;simp only [isPd,Bool.and_eq_true,beq_iff_eq] at h2';have hu : e.used = true:=by
  cases hu : e.used
  ·rw [hw.wfe e (List.mem_of_getElem? h1) hu] at h2'; exact nomatch h2'.1
  ·rfl
 refine ⟨rfl,hw.setE (fun hh=>by simp [hu] at hh),?_,?_⟩
 ·intro x r;unfold Pd;split
  ·next hx=>obtain ⟨rfl,rfl⟩:=hx; exact (filt_del _ _ h1 _ h h2 (by simp [isPd])).1
  ·next hx=>exact filt_set _ _ h1 _ (isPd_ne h2 hx) (by simp [isPd])
 ·intro x r s' d';rw [sd_set h1 (isSt_pd h2)];refine or_congr Iff.rfl ?_;simp only [isSt,hu,h2'.2.2,h2'.2.1,h3,Bool.true_and,Bool.not_false,beq_self_eq_true,Bool.and_true,beq_iff_eq,Bool.and_eq_true]
  grind
theorem stamp_no {M : PMem} {n : Int} {s : Bool} (h : Pd M n s = []) (st : Int) : M.stamp n s st = M:=by
 unfold PMem.stamp;rw [pending_no h];simp [PMem.hasEntry,isIn]
end T
end
end Go.Proofs.YtfccelbmacjifabGreat
