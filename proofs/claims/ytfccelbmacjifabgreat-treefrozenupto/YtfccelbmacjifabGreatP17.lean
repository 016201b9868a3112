import Derived.Test.YtfccelbmacjifabGreatP0
import Derived.Test.YtfccelbmacjifabGreatP16
set_option linter.unusedSimpArgs false
set_option maxRecDepth 100000
set_option maxHeartbeats 4000000
namespace Go.Proofs.YtfccelbmacjifabGreat
section
theorem maxE (p : PEntry->Bool) : ∀ (l : List PEntry),(∃ x ∈ l,p x = true)->∃ x ∈ l,p x = true/\∀ y ∈ l,p y = true->y.stamp<=x.stamp
 | [],h=>by obtain ⟨x,hx,_⟩:=h; cases hx
 | z :: r,h=>by
  by_cases hr : ∃ x ∈ r,p x = true
  ·obtain ⟨x,h1,h2,h3⟩:=maxE p r hr;by_cases hz : p z = true/\x.stamp < z.stamp
   ·refine ⟨z,by simp,hz.1,?_⟩;intro y hy hp;rcases List.mem_cons.1 hy with rfl | hy
    ·exact Int.le_refl _
    ·have:=h3 y hy hp; omega
   ·refine ⟨x,by simp [h1],h2,?_⟩;intro y hy hp;rcases List.mem_cons.1 hy with rfl | hy
    ·rcases Int.lt_or_le x.stamp y.stamp with hlt | hle
     ·exact absurd ⟨hp,hlt⟩ hz
     ·exact hle
    ·exact h3 y hy hp
  ·obtain ⟨x,hx,hp⟩:=h;rcases List.mem_cons.1 hx with rfl | hx
   ·refine ⟨x,by simp,hp,?_⟩;intro y hy hpy;rcases List.mem_cons.1 hy with rfl | hy
    ·exact Int.le_refl _
    ·exact absurd ⟨y,hy,hpy⟩ hr
   ·exact absurd ⟨x,hx,hp⟩ hr
section
variable {es : List PEntry} {time : Int}
def Over (time : Int) (es : List PEntry) (e : PEntry) : Prop:=isSt e.src e.side e = true/\∃ e' ∈ es,stampAbove e.src e.side e.stamp time e' = true
structure DropK (time : Int) (es D : List PEntry) (k : Nat) : Prop where
 len : D.length = es.length
 yes : ∀ (j : Nat) e,es[j]? = some e->j < k->Over time es e->D[j]? = some PEntry.zero
 no : ∀ (j : Nat) e,es[j]? = some e->(j < k->¬ Over time es e)->D[j]? = some e
theorem DropK.back {D : List PEntry} {k : Nat} (h : DropK time es D k) {j : Nat} {e : PEntry} (hj : D[j]? = some e) : ∃ e0,es[j]? = some e0/\(e = PEntry.zero\/(e = e0/\(j < k->¬ Over time es e))):=by
 have hl:=(List.getElem?_eq_some_iff.1 hj).1;rw [h.len] at hl;have he:=List.getElem?_eq_getElem hl;refine ⟨_,he,?_⟩;by_cases hh : j < k->¬ Over time es es[j]
 ·have:=h.no j _ he hh
  rw [this] at hj;injection hj with hj
  subst hj;exact .inr ⟨rfl,hh⟩
 ·simp only [Classical.not_imp,Classical.not_not] at hh
  have:=h.yes j _ he hh.1 hh.2
  rw [this] at hj;injection hj with hj
  exact .inl hj.symm
theorem DropK.any {D : List PEntry} {k : Nat} (h : DropK time es D k) (e : PEntry) : D.any (stampAbove e.src e.side e.stamp time) = true ↔ ∃ e' ∈ es,stampAbove e.src e.side e.stamp time e' = true:=by
 rw [List.any_eq_true];constructor
 ·rintro ⟨x,hx,hp⟩;obtain ⟨j,hj⟩:=List.mem_iff_getElem?.1 hx;obtain ⟨e0,h1,h2⟩:=h.back hj;rcases h2 with rfl | ⟨rfl,_⟩
  ·simp [stampAbove,isSt_z] at hp
  ·exact ⟨x,List.mem_of_getElem? h1,hp⟩
 ·intro hh;obtain ⟨x,hx,hp,hm⟩:=maxE _ es hh;obtain ⟨j,hj⟩:=List.mem_iff_getElem?.1 hx;refine ⟨x,List.mem_of_getElem? (h.no j x hj (fun _=>?_)),hp⟩;rintro ⟨_,y,hy,hp2⟩;simp only [stampAbove,isSt,Bool.and_eq_true,beq_iff_eq,decide_eq_true_eq] at hp hp2 hm
  have:=hm y hy ⟨⟨hp2.1.1,hp2.1.2.1,hp2.1.2.2.1.trans hp.1.2.2.1,hp2.1.2.2.2.trans hp.1.2.2.2⟩,by omega,hp2.2.2⟩
  omega
theorem DropK.step {D : List PEntry} {k : Nat} (h : DropK time es D k) : DropK time es (dropOne time D k) (k + 1):=by
 unfold dropOne;cases hk : D[k]? with
 | none =>
  simp only;have hl:=List.getElem?_eq_none_iff.1 hk;rw [h.len] at hl;refine ⟨h.len,?_,?_⟩
  ·intro j e he hj ho
   have:=(List.getElem?_eq_some_iff.1 he).1
   exact h.yes j e he (by omega) ho
  ·intro j e he hj;exact h.no j e he (fun hh=>hj (by omega))
 | some e0 =>
  simp only;have hkl:=(List.getElem?_eq_some_iff.1 hk).1;have hek : es[k]? = some e0:=by
   obtain ⟨e1,h1,_⟩:=h.back hk
   have:=h.no k e1 h1 (fun hh=>by omega)
   rw [hk] at this;rw [h1,this]
  have hov : (isSt e0.src e0.side e0 && D.any (stampAbove e0.src e0.side e0.stamp time)) = true ↔ Over time es e0:=by
   rw [Bool.and_eq_true,h.any]; rfl
  by_cases ho : Over time es e0
  ·rw [if_pos (hov.2 ho)];refine ⟨by simpa using h.len,?_,?_⟩
   ·intro j e he hj h1;by_cases hjk : k = j
    ·subst hjk; rw [List.getElem?_set_self hkl]
    ·rw [List.getElem?_set_ne hjk]; exact h.yes j e he (by omega) h1
   ·intro j e he hj;by_cases hjk : k = j
    ·subst hjk;rw [hek] at he; injection he with he; subst he
     exact absurd ho (hj (by omega))
    ·rw [List.getElem?_set_ne hjk]; exact h.no j e he (fun hh=>hj (by omega))
  ·rw [if_neg (fun hh=>ho (hov.1 hh))];refine ⟨h.len,?_,?_⟩
   ·intro j e he hj h1;by_cases hjk : k = j
    ·subst hjk;rw [hek] at he; injection he with he; subst he
     exact absurd h1 ho
    ·exact h.yes j e he (by omega) h1
   ·intro j e he hj;exact h.no j e he (fun hh=>hj (by omega))
theorem dropK (time : Int) (es : List PEntry) : ∀ k,DropK time es (dropTo time es k) k
 | 0=>⟨rfl,fun _ _ _ h=>by omega,fun _ _ h _=>h⟩
 | k + 1=>(dropK time es k).step
end
theorem filt_same {α β : Type} (p : α->Bool) (f : α->β) : ∀ (l m : List α),m.length = l.length->(∀ (j : Nat) a b,l[j]? = some a->m[j]? = some b->a = b\/(p a = false/\p b = false))->(m.filter p).map f = (l.filter p).map f
 | [],[],_,_=>rfl
 | [],b :: m,h,_=>by simp at h
 | a :: l,[],h,_=>by simp at h
 | a :: l,b :: m,h,hp=>by
  have ih:=filt_same p f l m (by simpa using h) (fun j x y hx hy=>hp (j + 1) x y (by simpa using hx) (by simpa using hy));rw [List.filter_cons,List.filter_cons];rcases hp 0 a b rfl rfl with rfl | ⟨h1,h2⟩
  ·split <;> simp [ih]
  ·rw [h1,h2]; simpa using ih
theorem drop_ok {M : PMem} (hw : Wm M) (time : Int) : (M.drop time).ns = M.ns/\Wm (M.drop time)/\(∀ x,Pd (M.drop time) x = Pd M x)/\(∀ x s d,Sd (M.drop time) x s d ↔ Sd M x s d/\∀ s' d',Sd M x s' d'->s < s'->¬ s'<=time):=by
 have hD:=dropK time M.es M.es.length;have hov : ∀ e ∈ M.es,∀ x,isSt x false e = true->(Over time M.es e ↔ ∃ s' d',Sd M x s' d'/\e.stamp < s'/\s'<=time):=by
  intro e he x hx;have hx':=hx;simp only [isSt,Bool.and_eq_true,beq_iff_eq] at hx';obtain ⟨h1,h2,h3,h4⟩:=hx';unfold Over;rw [h3,h4];constructor
  ·rintro ⟨_,e',he',hp⟩;simp only [stampAbove,Bool.and_eq_true,decide_eq_true_eq] at hp;exact ⟨e'.stamp,e'.dst,⟨e',he',hp.1,rfl,rfl⟩,hp.2.1,hp.2.2⟩
  ·rintro ⟨s',d',⟨e',he',hs,rfl,rfl⟩,hl,hr⟩;refine ⟨hx,e',he',?_⟩;simp only [stampAbove,Bool.and_eq_true,decide_eq_true_eq];exact ⟨hs,hl,hr⟩
 refine ⟨rfl,⟨hw.len,?_,?_,hw.un⟩,?_,?_⟩
 ·intro e he hu;obtain ⟨j,hj⟩:=List.mem_iff_getElem?.1 he;obtain ⟨e0,h1,h2⟩:=hD.back hj;rcases h2 with rfl | ⟨rfl,_⟩
  ·rfl
  ·exact hw.wfe e (List.mem_of_getElem? h1) hu
 ·intro e he;obtain ⟨j,hj⟩:=List.mem_iff_getElem?.1 he;obtain ⟨e0,h1,h2⟩:=hD.back hj;rcases h2 with rfl | ⟨rfl,_⟩
  ·rfl
  ·exact hw.sd e (List.mem_of_getElem? h1)
 ·intro x;unfold Pd;refine filt_same _ _ _ _ hD.len ?_;intro j a b ha hb;have hb : (dropTo time M.es M.es.length)[j]? = some b:=hb;by_cases ho : Over time M.es a
  ·have hj:=(List.getElem?_eq_some_iff.1 ha).1
   have:=hD.yes j a ha hj ho
   rw [this] at hb; injection hb with hb; subst hb
   right;refine ⟨?_,isPd_z _ _⟩
   have:=ho.1
   simp only [isSt,Bool.and_eq_true] at this;simp [isPd];intro hp;rw [hp] at this;simp at this
  ·have:=hD.no j a ha (fun _=>ho)
   rw [this] at hb; injection hb with hb
   exact .inl hb
 ·intro x s d;constructor
  ·rintro ⟨e,he,hs,rfl,rfl⟩;obtain ⟨j,hj⟩:=List.mem_iff_getElem?.1 he;obtain ⟨e0,h1,h2⟩:=hD.back hj;rcases h2 with rfl | ⟨rfl,h3⟩
   ·rw [isSt_z] at hs; cases hs
   ·have hm:=List.mem_of_getElem? h1;refine ⟨⟨e,hm,hs,rfl,rfl⟩,?_⟩;intro s' d' h4 h5 h6;exact h3 (List.getElem?_eq_some_iff.1 h1).1 ((hov e hm x hs).2 ⟨s',d',h4,h5,h6⟩)
  ·rintro ⟨⟨e,he,hs,rfl,rfl⟩,hno⟩;obtain ⟨j,hj⟩:=List.mem_iff_getElem?.1 he;refine ⟨e,List.mem_of_getElem? (hD.no j e hj (fun _ ho=>?_)),hs,rfl,rfl⟩;obtain ⟨s',d',h4,h5,h6⟩:=(hov e he x hs).1 ho;exact hno s' d' h4 h5 h6
end
section
namespace T
def Pd (M : PMem) (x : Int) (s : Bool) : List Int:=(M.es.filter (isPd x s)).map PEntry.dst
def Sd (M : PMem) (x : Int) (s : Bool) (st d : Int) : Prop:=∃ e ∈ M.es,isSt x s e = true/\e.stamp = st/\e.dst = d
structure Wm (M : PMem) : Prop where
 len : 2<=M.ns.length
 wfe : ∀ e ∈ M.es,e.used = false->e = PEntry.zero
 un : ∀ x,(M.node x).used = false->M.node x = PNode.zero
theorem pd_es {M M' : PMem} (h : M'.es = M.es) (x : Int) (s : Bool) : Pd M' x s = Pd M x s:=by unfold Pd; rw [h]
theorem sd_es {M M' : PMem} (h : M'.es = M.es) (x : Int) (s : Bool) (st d : Int) : Sd M' x s st d ↔ Sd M x s st d:=by unfold Sd; rw [h]
theorem Wm.nodes {M M' : PMem} (h : Wm M) (hl : M'.ns.length = M.ns.length) (he : M'.es = M.es) (hu : ∀ x,(M'.node x).used = false->M'.node x = PNode.zero) : Wm M' :=
 ⟨by rw [hl]; exact h.len,by rw [he]; exact h.wfe,hu⟩
theorem Wm.modN {M : PMem} (h : Wm M) {n : Int} (hn : (M.node n).used = true) (f : PNode->PNode) (hf : (f (M.node n)).used = true) : Wm (M.modN n f):=by
 refine h.nodes (modN_len _ _ _) (modN_ents _ _ _) ?_;intro x hx;rw [node_modN (hasN_used hn)] at hx ⊢;split at hx
 ·rw [hf] at hx; cases hx
 ·next hne=>rw [if_neg hne]; exact h.un x hx
theorem Wm.unlock {M : PMem} (h : Wm M) (t : Int) : Wm (M.unlock t):=by
 refine h.nodes (by simp [PMem.unlock]) rfl ?_;intro x hx;rw [unlock_node] at hx ⊢;have hu : (unlocked t (M.node x)).used = (M.node x).used:=by unfold unlocked; split <;> rfl
 rw [hu] at hx;rw [h.un x hx]; rfl
theorem sd_set {M : PMem} {k : Nat} {e0 y : PEntry} (h : M.es[k]? = some e0) (h0 : ∀ x s,isSt x s e0 = false) (x : Int) (s : Bool) (st d : Int) : Sd { M with es:=M.es.set k y } x s st d ↔ Sd M x s st d\/(isSt x s y = true/\y.stamp = st/\y.dst = d):=by
 unfold Sd;constructor
 ·rintro ⟨e,he,h1,h2⟩;rcases (set_get h).1 he with rfl | ⟨j,_,hj⟩
  ·exact .inr ⟨h1,h2⟩
  ·exact .inl ⟨e,List.mem_of_getElem? hj,h1,h2⟩
 ·rintro (⟨e,he,h1,h2⟩ | ⟨h1,h2⟩)
  ·obtain ⟨j,hj⟩:=List.mem_iff_getElem?.1 he;refine ⟨e,(set_get h).2 (.inr ⟨j,?_,hj⟩),h1,h2⟩;rintro rfl;rw [h] at hj; injection hj with hj; subst hj
   rw [h0] at h1; cases h1
  ·exact ⟨y,(set_get h).2 (.inl rfl),h1,h2⟩
theorem Wm.setE {M : PMem} (h : Wm M) {k : Nat} {y : PEntry} (hy : y.used = false->y = PEntry.zero) : Wm { M with es:=M.es.set k y }:=by
 refine ⟨h.len,?_,h.un⟩;intro e he hu;rcases List.mem_or_eq_of_mem_set he with he | rfl
 ·exact h.wfe e he hu
 ·exact hy hu
theorem pend_e {M : PMem} {n to : Int} {s : Bool} (hw : Wm M) (hf : ∃ e ∈ M.es,e.used = false) (hl : M.hasLink n s = true) (hp : Pd M n s = []) :
  ∃ k : Nat,M.es[k]? = some PEntry.zero/\M.pend n s to = { M with es:=M.es.set k ⟨true,true,n,s,to,0⟩ }/\Wm (M.pend n s to)/\(∀ x r,Pd (M.pend n s to) x r = if x = n/\r = s then [to] else Pd M x r)/\(∀ x r st d,Sd (M.pend n s to) x r st d ↔ Sd M x r st d):=by
 obtain ⟨e,he,hu⟩:=hf;obtain ⟨k,y,h1,h2,h3⟩:=found (p:=fun x : PEntry=>!x.used) he (by simp [hu]);have hy : y = PEntry.zero:=hw.wfe y (List.mem_of_getElem? h1) (by simpa using h2);subst hy;have heq : M.pend n s to = { M with es:=M.es.set k ⟨true,true,n,s,to,0⟩ }:=by
  have hk : M.freeEntry = (k : Int):=h3;unfold PMem.pend;rw [hk,hasE_of h1,hl];simp [PMem.setE]
 refine ⟨k,h1,heq,?_,?_,?_⟩
 ·rw [heq]; exact hw.setE (by simp)
 ·intro x r;rw [heq];unfold Pd;split
  ·next hx=>obtain ⟨rfl,rfl⟩:=hx; exact filt_new _ _ h1 _ hp (by simp [isPd])
  ·next hx =>
   refine filt_set _ _ h1 _ (isPd_z _ _) ?_;simp only [isPd,Bool.true_and,Bool.and_eq_false_iff,beq_eq_false_iff_ne];by_cases e : n = x
   ·right; intro e2; exact hx ⟨e.symm,e2.symm⟩
   ·exact .inl e
 ·intro x r st d;rw [heq,sd_set h1 (fun x s=>isSt_z _ _)];simp [isSt]
theorem pending_at {M : PMem} {n d : Int} {s : Bool} (h : Pd M n s = [d]) : ∃ (k : Nat) (e : PEntry),M.es[k]? = some e/\isPd n s e = true/\e.dst = d/\M.pending n s = (k : Int):=by
 have hm : ∃ a,a ∈ M.es.filter (isPd n s):=by
  cases hf : M.es.filter (isPd n s) with
  | nil=>unfold Pd at h; rw [hf] at h; simp at h
  | cons a r=>exact ⟨a,by simp⟩
 obtain ⟨a,ha⟩:=hm;rw [List.mem_filter] at ha;obtain ⟨k,y,h1,h2,h3⟩:=found ha.1 ha.2;refine ⟨k,y,h1,h2,?_,h3⟩;exact ((filt_del (isPd n s) PEntry.dst h1 PEntry.zero h h2 (isPd_z _ _)).2).symm
theorem pending_no {M : PMem} {n : Int} {s : Bool} (h : Pd M n s = []) : M.pending n s = -1:=by
 unfold Pd at h;simp at h;apply find_miss;intro j hj y hy
 have:=h y (List.mem_of_getElem? hy)
 simpa using this
theorem hasPd_iff {M : PMem} {n : Int} {s : Bool} : M.hasPending n s = true ↔ Pd M n s≠[]:=by
 unfold PMem.hasPending;constructor
 ·intro h hp;rw [pending_no hp] at h;simp at h
 ·intro h;have hm : ∃ a,a ∈ M.es.filter (isPd n s):=by
   cases hf : M.es.filter (isPd n s) with
   | nil=>unfold Pd at h; rw [hf] at h; simp at h
   | cons a r=>exact ⟨a,by simp⟩
  obtain ⟨a,ha⟩:=hm;rw [List.mem_filter] at ha;obtain ⟨k,y,h1,h2,h3⟩:=found ha.1 ha.2;unfold PMem.pending;rw [h3]
  simp
theorem isSt_pd {e : PEntry} {n : Int} {s : Bool} (h : isPd n s e = true) (x : Int) (r : Bool) : isSt x r e = false:=by
 simp only [isPd,Bool.and_eq_true] at h;simp [isSt,h.1]
theorem isPd_ne {e : PEntry} {n x : Int} {s r : Bool} (h : isPd n s e = true) (hx : ¬ (x = n/\r = s)) : isPd x r e = false:=by
 simp only [isPd,Bool.and_eq_true,beq_iff_eq] at h;simp only [isPd,h.1,Bool.true_and,Bool.and_eq_false_iff,beq_eq_false_iff_ne,h.2.1,h.2.2];by_cases e : n = x
 ·right; intro e2; exact hx ⟨e.symm,e2.symm⟩
 ·exact .inl e
theorem unpend_e {M : PMem} {n d : Int} {s : Bool} (hw : Wm M) (h : Pd M n s = [d]) : (M.unpend n s).ns = M.ns/\Wm (M.unpend n s)/\(∀ x r,Pd (M.unpend n s) x r = if x = n/\r = s then [] else Pd M x r)/\(∀ x r st d,Sd (M.unpend n s) x r st d ↔ Sd M x r st d):=by
 obtain ⟨k,e,h1,h2,_,h4⟩:=pending_at h;have heq : M.unpend n s = { M with es:=M.es.set k PEntry.zero }:=by
  unfold PMem.unpend;rw [h4,hasE_of h1]; simp [PMem.setE]
 rw [heq];refine ⟨rfl,hw.setE (fun _=>rfl),?_,?_⟩
 ·intro x r;unfold Pd;split
  ·next hx=>obtain ⟨rfl,rfl⟩:=hx; exact (filt_del _ _ h1 _ h h2 (isPd_z _ _)).1
  ·next hx=>exact filt_set _ _ h1 _ (isPd_ne h2 hx) (isPd_z _ _)
 ·intro x r st d;rw [sd_set h1 (isSt_pd h2)];simp [isSt_z]
theorem stamp_e {M : PMem} {n d : Int} {s : Bool} (st : Int) (hw : Wm M) (h : Pd M n s = [d]) : (M.stamp n s st).ns = M.ns/\Wm (M.stamp n s st)/\(∀ x r,Pd (M.stamp n s st) x r = if x = n/\r = s then [] else Pd M x r)/\(∀ x r st' e,Sd (M.stamp n s st) x r st' e ↔ Sd M x r st' e\/(x = n/\r = s/\st' = st/\e = d)):=by
 obtain ⟨k,e,h1,h2,h3,h4⟩:=pending_at h;have he : M.ent (k : Int) = e:=by simp [PMem.ent,h1]
 have heq : M.stamp n s st = { M with es:=M.es.set k { e with pending:=false,stamp:=st } }:=by
  unfold PMem.stamp;rw [h4,hasE_of h1,he]; simp [PMem.setE]
 rw [heq];have h2':=h2;simp only [isPd,Bool.and_eq_true,beq_iff_eq] at h2';have hu : e.used = true:=by
  cases hu : e.used
  ·rw [hw.wfe e (List.mem_of_getElem? h1) hu] at h2'; exact nomatch h2'.1
  ·rfl
 refine ⟨rfl,hw.setE (fun hh=>by simp [hu] at hh),?_,?_⟩
 ·intro x r;unfold Pd;split
  ·next hx=>obtain ⟨rfl,rfl⟩:=hx; exact (filt_del _ _ h1 _ h h2 (by simp [isPd])).1
  ·next hx=>exact filt_set _ _ h1 _ (isPd_ne h2 hx) (by simp [isPd])
 ·intro x r s' d';rw [sd_set h1 (isSt_pd h2)];refine or_congr Iff.rfl ?_;simp only [isSt,hu,h2'.2.2,h2'.2.1,h3,Bool.true_and,Bool.not_false,beq_self_eq_true,Bool.and_true,beq_iff_eq,Bool.and_eq_true]
  grind
theorem stamp_no {M : PMem} {n : Int} {s : Bool} (h : Pd M n s = []) (st : Int) : M.stamp n s st = M:=by
 unfold PMem.stamp;rw [pending_no h];simp [PMem.hasEntry,isIn]
end T
end
section
namespace T
abbrev Us (M : PMem) (x : Int) : Prop:=(M.node x).used = true
abbrev De (M : PMem) (x : Int) : Prop:=(M.node x).dead = true
abbrev Re (M : PMem) (x : Int) : Prop:=(M.node x).retired = true
abbrev Ra (M : PMem) (x : Int) : Int:=(M.node x).retiredAt
abbrev Ky (M : PMem) (x : Int) : Int:=(M.node x).key
abbrev Ld (M : PMem) (x : Int) (s : Bool) : Int:=(M.node x).leads s
abbrev Ln (M : PMem) (x : Int) : Nat:=(M.node x).links
abbrev Ho (M : PMem) (x : Int) : Int:=(M.node x).holder
def InSw (r : PSweep) (x : Int) : Prop:=∃ n ∈ r.retired,((n : Nat) : Int) = x
theorem lead_e {M : PMem} {n d : Int} {s : Bool} (h : Pd M n s = [d]) (hl : M.hasLink n s = true) : M.lead n s = M.modN n fun x=>{ x with leads:=upd x.leads s d }:=by
 obtain ⟨k,e,h1,h2,h3,h4⟩:=pending_at h;have he : M.ent (k : Int) = e:=by simp [PMem.ent,h1]
 unfold PMem.lead;rw [h4,hasE_of h1,hl,he,h3]; simp
theorem make_e {M : PMem} (hw : Wm M) (key value : Int) (hf : 0 < M.room.1) : ∃ n : Int,(M.node n).used = false/\M.hasNode n = true/\(M.make key value).2 = n/\(M.make key value).1.es = M.es/\(M.make key value).1.ns.length = M.ns.length/\Wm (M.make key value).1/\∀ x,(M.make key value).1.node x = if x = n then PNode.made key value else M.node x:=by
 obtain ⟨e,he,hu⟩:=count_some (l:=M.ns) (p:=fun x=>!x.used) (by unfold PMem.room at hf; simpa using hf);obtain ⟨k,y,h1,h2,h3⟩:=found (p:=fun x : PNode=>!x.used) he hu;have h4 : M.freeNode = (k : Int):=h3;obtain ⟨h5,h6⟩:=node_get h1;have heq : M.make key value = ({ M with ns:=M.ns.set k (PNode.made key value) },(k : Int)):=by
  unfold PMem.make;rw [h4,if_pos h6]; rfl
 rw [heq];have hn : ∀ x,PMem.node { M with ns:=M.ns.set k (PNode.made key value) } x = if x = (k : Int) then PNode.made key value else M.node x:=by
  intro x
  have:=node_modN h6 (fun _=>PNode.made key value) x
  unfold PMem.modN at this;rw [if_pos h6] at this;rw [<- this]
  congr 2
  apply List.ext_getElem?;intro j;rw [List.getElem?_set,List.getElem?_modify];by_cases hj : k = j
  ·subst hj
   have:=(List.getElem?_eq_some_iff.1 h1).1
   simp [this]
  ·have : ¬ (k : Int).toNat = j:=by simpa using hj
   simp [hj,this]
 refine ⟨k,by rw [h5]; simpa using h2,h6,rfl,rfl,by simp,?_,hn⟩;refine hw.nodes (by simp) rfl ?_;intro x hx;rw [hn] at hx ⊢;split at hx
 ·exact nomatch hx
 ·next hne=>rw [if_neg hne]; exact hw.un x hx
theorem hasLink_iff {M : PMem} {n : Int} {s : Bool} : M.hasLink n s = true ↔ M.hasNode n = true/\b2i s < (M.node n).links:=by
 unfold PMem.hasLink
 simp
theorem addLink_e {M : PMem} {n to : Int} {s : Bool} (hw : Wm M) (hu : (M.node n).used = true) (hl : (M.node n).links = if s then 1 else 0) (hp : Pd M n s = []) (hf : 0 < M.room.2) :
  (M.addLink n to).ns.length = M.ns.length/\Wm (M.addLink n to)/\(∀ x,(M.addLink n to).node x = if x = n then linked s to (M.node n) else M.node x)/\(∀ x r,Pd (M.addLink n to) x r = if x = n/\r = s then [to] else Pd M x r)/\(∀ x r st d,Sd (M.addLink n to) x r st d ↔ Sd M x r st d)/\M.room.2 = (M.addLink n to).room.2 + 1:=by
 obtain ⟨e,he,hue⟩:=count_some (l:=M.es) (p:=fun x=>!x.used) (by unfold PMem.room at hf; simpa using hf);have hh:=hasN_used hu;obtain ⟨k0,y0,g1,g2,g3⟩:=found (p:=fun x : PEntry=>!x.used) he hue;have hfe : (M.freeEntry != -1) = true:=by
  rw [show M.freeEntry = (k0 : Int) from g3]
  simp
 have hw1 : Wm (M.modN n (linked s to)):=hw.modN hu _ (by simpa [linked] using hu);have hes:=modN_ents M n (linked s to);have hlk : (M.modN n (linked s to)).hasLink n s = true:=by
  rw [hasLink_iff,hasN_len (modN_len _ _ _),node_modN hh,if_pos rfl];exact ⟨hh,by cases s <;> simp [linked,hl,b2i]⟩
 obtain ⟨k,h1,h2,h3,h4,h5⟩:=pend_e (to:=to) hw1 ⟨e,by rw [hes]; exact he,by simpa using hue⟩ hlk (by rw [pd_es hes]; exact hp);have heq : M.addLink n to = (M.modN n (linked s to)).pend n s to:=by
  unfold PMem.addLink;rw [hh,hfe,hl];cases s <;> rfl
 rw [heq];refine ⟨?_,h3,?_,?_,?_,?_⟩
 ·rw [h2]; exact modN_len _ _ _
 ·intro x;rw [h2];exact node_modN hh _ x
 ·intro x r; rw [h4,pd_es hes]
 ·intro x r st d; rw [h5,sd_es hes]
 ·rw [h2];unfold PMem.room;simp only;rw [hes] at h1 ⊢
  have:=count_set_e (p:=fun x : PEntry=>!x.used) (y:=⟨true,true,n,s,to,0⟩) h1 rfl rfl
  omega
theorem free_e {M : PMem} {n : Int} (hw : Wm M) (hh : M.hasNode n = true) (h0 : n≠0/\n≠1) : (M.free n).ns.length = M.ns.length/\Wm (M.free n)/\(∀ x,(M.free n).node x = if x = n then PNode.zero else M.node x)/\(∀ x r,Pd (M.free n) x r = if x = n then [] else Pd M x r)/\(∀ x r s d,Sd (M.free n) x r s d ↔ x≠n/\Sd M x r s d):=by
 have heq : M.free n = { ns:=M.ns.set n.toNat PNode.zero,es:=M.es.map fun e=>if ofNode n e then PEntry.zero else e }:=by
  unfold PMem.free;rw [if_pos (by simp [hh,h0])]
 obtain ⟨k,y,rfl,h1,h2⟩:=node_at hh;have hn : ∀ x,(M.free k).node x = if x = (k : Int) then PNode.zero else M.node x:=by
  intro x
  have:=node_modN hh (fun _=>PNode.zero) x
  unfold PMem.modN at this;rw [if_pos hh] at this;rw [<- this,heq];unfold PMem.node PMem.hasNode;simp only [List.length_set,List.length_modify]
  congr 3
  apply List.ext_getElem?;intro j;rw [List.getElem?_set,List.getElem?_modify];by_cases hj : (k : Int).toNat = j
  ·subst hj
   have:=(List.getElem?_eq_some_iff.1 h1).1
   simp [this]
  ·simp only [hj,if_false];cases M.ns[j]? <;> simp
 have hq : ∀ e ∈ M.es,∀ x r,isPd x r (if ofNode k e then PEntry.zero else e) = (isPd x r e && decide (x≠(k : Int))):=by
  intro e he x r;by_cases ho : ofNode k e = true
  ·rw [if_pos ho,isPd_z];simp only [ofNode,Bool.and_eq_true,beq_iff_eq] at ho;by_cases hx : x = (k : Int)
   ·simp [hx]
   ·have : ¬ (k : Int) = x:=fun h=>hx h.symm
    simp [isPd,ho.2,this]
  ·rw [if_neg ho];by_cases hx : x = (k : Int)
   ·subst hx;cases hp : isPd k r e
    ·rfl
    ·exfalso;apply ho;simp only [isPd,Bool.and_eq_true,beq_iff_eq] at hp;cases hu : e.used
     ·rw [hw.wfe e he hu] at hp; exact nomatch hp.1
     ·simp [ofNode,hu,hp.2.1]
   ·simp [hx]
 refine ⟨by rw [heq]; simp,⟨?_,?_,?_⟩,hn,?_,?_⟩
 ·rw [heq]; simpa using hw.len
 ·rw [heq];intro e he hu;simp only [List.mem_map] at he;obtain ⟨e',he',rfl⟩:=he;split at hu
  ·next hc=>rw [if_pos hc]
  ·next hc=>rw [if_neg hc]; exact hw.wfe e' he' hu
 ·intro x hx;rw [hn] at hx ⊢;split at hx
  ·next hc=>rw [if_pos hc]
  ·next hc=>rw [if_neg hc]; exact hw.un x hx
 ·intro x r;rw [heq];unfold Pd;simp only;have key : ∀ l : List PEntry,(∀ e ∈ l,e ∈ M.es)->((l.map fun e=>if ofNode k e then PEntry.zero else e).filter (isPd x r)).map PEntry.dst = if x = (k : Int) then [] else (l.filter (isPd x r)).map PEntry.dst:=by
   intro l
   induction l with
   | nil=>intro _; split <;> rfl
   | cons a q ih =>
    intro hl;have ih:=ih (fun e he=>hl e (by simp [he]));have ha:=hq a (hl a (by simp)) x r;simp only [List.map_cons,List.filter_cons,ha];by_cases hx : x = (k : Int)
    ·rw [if_pos hx] at ih ⊢;simp [hx];simpa [hx] using ih
    ·rw [if_neg hx] at ih ⊢;simp only [hx,not_false_eq_true,decide_true,Bool.and_true,ne_eq];by_cases hp : isPd x r a = true
     ·have ho : ofNode k a = false:=by
       cases ho : ofNode k a
       ·rfl
       ·simp only [ofNode,Bool.and_eq_true,beq_iff_eq] at ho;simp only [isPd,Bool.and_eq_true,beq_iff_eq] at hp;exact absurd (hp.2.1.symm.trans ho.2) hx
      rw [if_pos hp,if_pos hp,List.map_cons,List.map_cons,ih,ho]; rfl
     ·rw [if_neg hp,if_neg hp,ih]
  exact key M.es (fun e he=>he)
 ·intro x r s d;rw [heq];unfold Sd;simp only [List.mem_map];constructor
  ·rintro ⟨e,⟨e',he',rfl⟩,h3,h4⟩;by_cases ho : ofNode k e' = true
   ·rw [if_pos ho,isSt_z] at h3; cases h3
   ·rw [if_neg ho] at h3 h4;refine ⟨?_,e',he',h3,h4⟩;rintro rfl;apply ho;simp only [isSt,Bool.and_eq_true,beq_iff_eq] at h3;simp [ofNode,h3.1,h3.2.2.1]
  ·rintro ⟨hx,e,he,h3,h4⟩;have ho : ¬ ofNode k e = true:=by
    intro ho;simp only [ofNode,Bool.and_eq_true,beq_iff_eq] at ho;simp only [isSt,Bool.and_eq_true,beq_iff_eq] at h3;exact hx (h3.2.2.1.symm.trans ho.2)
   exact ⟨e,⟨e,he,by rw [if_neg ho]⟩,h3,h4⟩
theorem led_fold_e (n : Int) (b : Bool) (time : Int) : ∀ (l : List PEntry) (p : Int × Int),(∀ e ∈ l,isSt n b e = true->0<=e.stamp) ->
  (l.foldl (ledStep n b time) p = p/\∀ e ∈ l,isSt n b e = true->e.stamp<=time->e.stamp<=p.1) \/
  (∃ e ∈ l,isSt n b e = true/\e.stamp<=time/\p.1 < e.stamp/\l.foldl (ledStep n b time) p = (e.stamp,e.dst)/\∀ e' ∈ l,isSt n b e' = true->e'.stamp<=time->e'.stamp<=e.stamp)
 | [],p,_=>.inl ⟨rfl,by simp⟩
 | a :: r,p,h=>by
  have ih:=led_fold_e n b time r (ledStep n b time p a) (fun e he=>h e (by simp [he]));rw [List.foldl_cons];by_cases hc : (isSt n b a && (decide (a.stamp<=time) && decide (p.1 < a.stamp))) = true
  ·have hq : ledStep n b time p a = (a.stamp,a.dst):=by unfold ledStep; rw [if_pos hc]
   rw [hq] at ih ⊢;simp only [Bool.and_eq_true,decide_eq_true_eq] at hc;rcases ih with ⟨i1,i2⟩ | ⟨e,e1,e2,e3,e4,e5,e6⟩
   ·right;refine ⟨a,by simp,hc.1,hc.2.1,hc.2.2,i1,?_⟩;intro e' he' h1 h2;rcases List.mem_cons.1 he' with rfl | he'
    ·exact Int.le_refl _
    ·exact i2 e' he' h1 h2
   ·right;simp only at e4;refine ⟨e,by simp [e1],e2,e3,by omega,e5,?_⟩;intro e' he' h1 h2;rcases List.mem_cons.1 he' with rfl | he'
    ·omega
    ·exact e6 e' he' h1 h2
  ·have hq : ledStep n b time p a = p:=by unfold ledStep; rw [if_neg hc]
   rw [hq] at ih ⊢;have ha : isSt n b a = true->a.stamp<=time->a.stamp<=p.1:=by
    intro h1 h2;simp only [Bool.and_eq_true,decide_eq_true_eq,not_and] at hc
    have:=hc h1 h2
    omega
   rcases ih with ⟨i1,i2⟩ | ⟨e,e1,e2,e3,e4,e5,e6⟩
   ·left;refine ⟨i1,?_⟩;intro e he h1 h2;rcases List.mem_cons.1 he with rfl | he
    ·exact ha h1 h2
    ·exact i2 e he h1 h2
   ·right;refine ⟨e,by simp [e1],e2,e3,e4,e5,?_⟩;intro e' he' h1 h2;rcases List.mem_cons.1 he' with rfl | he'
    ·have:=ha h1 h2; omega
    ·exact e6 e' he' h1 h2
theorem ledTo_ok {M : PMem} {n time : Int} {b : Bool} (h : ∀ s d,Sd M n b s d->0<=s) : (M.ledTo n b time = 1/\∀ s d,Sd M n b s d->¬ s<=time)\/∃ s,Sd M n b s (M.ledTo n b time)/\s<=time/\∀ s' d',Sd M n b s' d'->s'<=time->s'<=s:=by
 have h0 : ∀ e ∈ M.es,isSt n b e = true->0<=e.stamp:=fun e he hs=>h e.stamp e.dst ⟨e,he,hs,rfl,rfl⟩
 unfold PMem.ledTo;rcases led_fold_e n b time M.es (-1,1) h0 with ⟨h1,h2⟩ | ⟨e,e1,e2,e3,e4,e5,e6⟩
 ·left;rw [h1];refine ⟨rfl,?_⟩;rintro s d ⟨e,he,hs,rfl,rfl⟩ hle
  have:=h2 e he hs hle
  have:=h0 e he hs
  simp only at *;omega
 ·right;rw [e5];refine ⟨e.stamp,⟨e,e1,e2,rfl,rfl⟩,e3,?_⟩;rintro s' d' ⟨e',he',hs',rfl,rfl⟩ hle;exact e6 e' he' hs' hle
theorem drop_ok {M : PMem} (hw : Wm M) (time : Int) : (M.drop time).ns = M.ns/\Wm (M.drop time)/\(∀ x b,Pd (M.drop time) x b = Pd M x b)/\(∀ x b s d,Sd (M.drop time) x b s d ↔ Sd M x b s d/\∀ s' d',Sd M x b s' d'->s < s'->¬ s'<=time):=by
 have hD:=dropK time M.es M.es.length;have hov : ∀ e ∈ M.es,∀ x b,isSt x b e = true->(Over time M.es e ↔ ∃ s' d',Sd M x b s' d'/\e.stamp < s'/\s'<=time):=by
  intro e he x b hx;have hx':=hx;simp only [isSt,Bool.and_eq_true,beq_iff_eq] at hx';obtain ⟨h1,h2,h3,h4⟩:=hx';unfold Over;rw [h3,h4];constructor
  ·rintro ⟨_,e',he',hp⟩;simp only [stampAbove,Bool.and_eq_true,decide_eq_true_eq] at hp;exact ⟨e'.stamp,e'.dst,⟨e',he',hp.1,rfl,rfl⟩,hp.2.1,hp.2.2⟩
  ·rintro ⟨s',d',⟨e',he',hs,rfl,rfl⟩,hl,hr⟩;refine ⟨hx,e',he',?_⟩;simp only [stampAbove,Bool.and_eq_true,decide_eq_true_eq];exact ⟨hs,hl,hr⟩
 refine ⟨rfl,⟨hw.len,?_,hw.un⟩,?_,?_⟩
 ·intro e he hu;obtain ⟨j,hj⟩:=List.mem_iff_getElem?.1 he;obtain ⟨e0,h1,h2⟩:=hD.back hj;rcases h2 with rfl | ⟨rfl,_⟩
  ·rfl
  ·exact hw.wfe e (List.mem_of_getElem? h1) hu
 ·intro x b;unfold Pd;refine filt_same _ _ _ _ hD.len ?_;intro j a a2 ha hb;have hb : (dropTo time M.es M.es.length)[j]? = some a2:=hb;by_cases ho : Over time M.es a
  ·have hj:=(List.getElem?_eq_some_iff.1 ha).1
   have:=hD.yes j a ha hj ho
   rw [this] at hb; injection hb with hb; subst hb
   right;refine ⟨?_,isPd_z _ _⟩
   have:=ho.1
   simp only [isSt,Bool.and_eq_true] at this;simp [isPd];intro hp;rw [hp] at this;simp at this
  ·have:=hD.no j a ha (fun _=>ho)
   rw [this] at hb; injection hb with hb
   exact .inl hb
 ·intro x b s d;constructor
  ·rintro ⟨e,he,hs,rfl,rfl⟩;obtain ⟨j,hj⟩:=List.mem_iff_getElem?.1 he;obtain ⟨e0,h1,h2⟩:=hD.back hj;rcases h2 with rfl | ⟨rfl,h3⟩
   ·rw [isSt_z] at hs; cases hs
   ·have hm:=List.mem_of_getElem? h1;refine ⟨⟨e,hm,hs,rfl,rfl⟩,?_⟩;intro s' d' h4 h5 h6;exact h3 (List.getElem?_eq_some_iff.1 h1).1 ((hov e hm x b hs).2 ⟨s',d',h4,h5,h6⟩)
  ·rintro ⟨⟨e,he,hs,rfl,rfl⟩,hno⟩;obtain ⟨j,hj⟩:=List.mem_iff_getElem?.1 he;refine ⟨e,List.mem_of_getElem? (hD.no j e hj (fun _ ho=>?_)),hs,rfl,rfl⟩;obtain ⟨s',d',h4,h5,h6⟩:=(hov e he x b hs).1 ho;exact hno s' d' h4 h5 h6
def Gone (M : PMem) (ht : Bool) (tm : Int) (l : List Nat) (x : Int) : Prop:=(∃ n ∈ l,((n : Nat) : Int) = x)/\(ht = true->Ra M x < tm)
theorem freesIf_ok (ht : Bool) (tm : Int) : ∀ (l : List Nat) (M : PMem),Wm M->(∀ n ∈ l,M.hasNode (n : Int) = true/\(n : Int)≠0/\(n : Int)≠1) ->
  Wm (M.freesIf ht tm l)/\(M.freesIf ht tm l).ns.length = M.ns.length/\(∀ x,(Gone M ht tm l x->(M.freesIf ht tm l).node x = PNode.zero/\(∀ b,Pd (M.freesIf ht tm l) x b = [])/\∀ b s d,¬ Sd (M.freesIf ht tm l) x b s d)/\(¬ Gone M ht tm l x->(M.freesIf ht tm l).node x = M.node x/\(∀ b,Pd (M.freesIf ht tm l) x b = Pd M x b)/\∀ b s d,Sd (M.freesIf ht tm l) x b s d ↔ Sd M x b s d))
 | [],M,hw,_=>⟨hw,rfl,fun x=>⟨fun h=>(by obtain ⟨n,hn,_⟩:=h.1; cases hn),fun _=>⟨rfl,fun _=>rfl,fun _ _ _=>Iff.rfl⟩⟩⟩
 | n :: l,M,hw,hl=>by
  obtain ⟨h1,h2⟩:=hl n (by simp);unfold PMem.freesIf;by_cases hc : (!ht || decide ((M.node (n : Int)).retiredAt < tm)) = true
  ·rw [if_pos hc];have hc' : ht = true->Ra M n < tm:=by
    intro e; rw [e] at hc; simpa using hc
   obtain ⟨f1,f2,f3,f4,f5⟩:=free_e hw h1 h2;obtain ⟨i1,i2,i3⟩:=freesIf_ok ht tm l (M.free n) f2 (fun m hm=>by rw [hasN_len f1]; exact hl m (by simp [hm]));refine ⟨i1,by rw [i2,f1],fun x=>?_⟩;obtain ⟨a,b⟩:=i3 x;by_cases hx : x = (n : Int)
   ·have hg : Gone M ht tm (n :: l) x:=⟨⟨n,by simp,hx.symm⟩,by rw [hx]; exact hc'⟩;refine ⟨fun _=>?_,fun h=>absurd hg h⟩;by_cases hG : Gone (M.free n) ht tm l x
    ·exact a hG
    ·obtain ⟨b1,b2,b3⟩:=b hG;rw [b1,f3,if_pos hx];exact ⟨rfl,fun b=>by rw [b2,f4,if_pos hx],fun b s d hs=>((f5 x b s d).1 ((b3 b s d).1 hs)).1 hx⟩
   ·have hiff : Gone (M.free n) ht tm l x ↔ Gone M ht tm (n :: l) x:=by
     unfold Gone;have : Ra (M.free n) x = Ra M x:=by simp only [Ra]; rw [f3,if_neg hx]
     rw [this];refine and_congr ⟨?_,?_⟩ Iff.rfl
     ·rintro ⟨m,hm,e⟩; exact ⟨m,by simp [hm],e⟩
     ·rintro ⟨m,hm,e⟩;rcases List.mem_cons.1 hm with rfl | hm
      ·exact absurd e.symm hx
      ·exact ⟨m,hm,e⟩
    refine ⟨fun h=>a (hiff.2 h),fun h=>?_⟩;obtain ⟨b1,b2,b3⟩:=b (fun hh=>h (hiff.1 hh));rw [b1,f3,if_neg hx];exact ⟨rfl,fun b=>by rw [b2,f4,if_neg hx],fun b s d=>by rw [b3,f5]; exact ⟨fun h=>h.2,fun h=>⟨hx,h⟩⟩⟩
  ·rw [if_neg hc];obtain ⟨i1,i2,i3⟩:=freesIf_ok ht tm l M hw (fun m hm=>hl m (by simp [hm]));refine ⟨i1,i2,fun x=>?_⟩;have hiff : Gone M ht tm l x ↔ Gone M ht tm (n :: l) x:=by
    constructor
    ·rintro ⟨⟨m,hm,e⟩,h⟩; exact ⟨⟨m,by simp [hm],e⟩,h⟩
    ·rintro ⟨⟨m,hm,e⟩,h⟩;rcases List.mem_cons.1 hm with rfl | hm
     ·exfalso;apply hc;cases hh : ht
      ·rfl
      ·have:=h hh
       rw [<- e] at this;simpa using this
     ·exact ⟨⟨m,hm,e⟩,h⟩
   rw [<- hiff]; exact i3 x
theorem mem_retired : ∀ (l : List PNode) (k n : Nat),n ∈ retiredFrom l k ↔ ∃ j e,n = k + j/\l[j]? = some e/\e.retired = true
 | [],k,n=>by simp [retiredFrom]
 | x :: l,k,n=>by
  have ih:=mem_retired l (k + 1) n;unfold retiredFrom;constructor
  ·intro h;have h' : (n = k/\x.retired = true)\/n ∈ retiredFrom l (k + 1):=by
    split at h
    ·next hx=>rcases List.mem_cons.1 h with h | h; exact .inl ⟨h,hx⟩; exact .inr h
    ·exact .inr h
   rcases h' with ⟨h1,h2⟩ | h1
   ·exact ⟨0,x,by omega,rfl,h2⟩
   ·obtain ⟨j,e,h2,h3,h4⟩:=ih.1 h1;exact ⟨j + 1,e,by omega,by simpa using h3,h4⟩
  ·rintro ⟨j,e,h1,h2,h3⟩;cases j with
   | zero =>
    simp at h2; subst h2;rw [if_pos h3,h1]; simp
   | succ j =>
    have:=ih.2 ⟨j,e,by omega,by simpa using h2,h3⟩
    split
    ·exact List.mem_cons_of_mem _ this
    ·exact this
theorem inSw_new (M : PMem) (r : PSweep) (h : r.retired = retiredFrom M.ns 0) (x : Int) : InSw r x ↔ Re M x:=by
 unfold InSw;rw [h];constructor
 ·rintro ⟨n,hn,rfl⟩;obtain ⟨j,e,h1,h2,h3⟩:=(mem_retired _ _ _).1 hn;obtain rfl : n = j:=by omega
  show (M.node n).retired = true;rw [(node_get h2).1]; exact h3
 ·intro hr;have hn : M.hasNode x = true:=by
   cases hh : M.hasNode x
   ·simp only [Re] at hr; unfold PMem.node at hr; rw [hh] at hr; exact nomatch hr
   ·rfl
  obtain ⟨k,e,rfl,h1,h2⟩:=node_at hn;exact ⟨k,(mem_retired _ _ _).2 ⟨k,e,by omega,h1,by simp only [Re] at hr; rw [h2] at hr; exact hr⟩,rfl⟩
end T
end
section
namespace T
inductive Tr where
 | lf (p k v : Int)
 | nd (p k : Int) (l r : Tr)
namespace Tr
@[grind] def pl : Tr->Int
 | lf p _ _=>p
 | nd p _ _ _=>p
@[grind] def Has : Tr->Int->Prop
 | lf p _ _,x=>x = p
 | nd p _ l r,x=>x = p\/l.Has x\/r.Has x
@[grind] def Nod : Tr->Int->Int->Prop
 | lf _ _ _,_,_=>False
 | nd p k l r,x,q=>(x = p/\q = k)\/l.Nod x q\/r.Nod x q
@[grind] def Inn : Tr->Int->Prop
 | lf _ _ _,_=>False
 | nd p _ l r,x=>x = p\/l.Inn x\/r.Inn x
@[grind] def Lea : Tr->Int->Int->Int->Prop
 | lf p k v,x,q,w=>x = p/\q = k/\w = v
 | nd _ _ l r,x,q,w=>l.Lea x q w\/r.Lea x q w
@[grind] def Dj : Tr->Prop
 | lf _ _ _=>True
 | nd p _ l r=>¬ l.Has p/\¬ r.Has p/\(∀ x,l.Has x->¬ r.Has x)/\l.Dj/\r.Dj
@[grind] def Ok : Tr->Prop
 | lf _ _ _=>True
 | nd _ q l r=>(∀ x k v,l.Lea x k v->k < q)/\(∀ x k v,r.Lea x k v->q<=k)/\l.Ok/\r.Ok
@[grind] def Ed : Int->Bool->Tr->Int->Bool->Int->Prop
 | u,b,lf p _ _,x,s,d=>x = u/\s = b/\d = p
 | u,b,nd p _ l r,x,s,d=>(x = u/\s = b/\d = p)\/Ed p false l x s d\/Ed p true r x s d
@[grind] def Pth (k : Int) : Tr->Int->Prop
 | lf _ _ _,_=>False
 | nd p q l r,x=>x = p\/(q<=k/\r.Pth k x)\/(k < q/\l.Pth k x)
@[grind] def goal (k : Int) : Tr->Int × Int × Int
 | lf p q v=>(p,q,v)
 | nd _ q l r=>if q<=k then r.goal k else l.goal k
@[grind] def ins (k v a n : Int) : Tr->Tr
 | lf p q w=>if q < k then nd n k (lf p q w) (lf a k v) else nd n q (lf a k v) (lf p q w)
 | nd p q l r=>if q<=k then nd p q l (ins k v a n r) else nd p q (ins k v a n l) r
@[grind] def isLf : Tr->Bool
 | lf _ _ _=>true
 | nd _ _ _ _=>false
@[grind] def del (k : Int) : Tr->Tr
 | lf p q w=>lf p q w
 | nd p q l r=>if q<=k then (if r.isLf then l else nd p q l (del k r)) else (if l.isLf then r else nd p q (del k l) r)
variable {t : Tr} {u x y d d' k q w : Int} {b s s' : Bool}
theorem has_pl (t : Tr) : t.Has t.pl:=by cases t <;> simp [Has,pl]
theorem nod_has {t : Tr} : t.Nod x q->t.Has x:=by induction t with
 | lf=>simp [Nod]
 | nd p k l r h1 h2=>grind
theorem lea_has {t : Tr} : t.Lea x q w->t.Has x:=by induction t with
 | lf=>simp [Lea,Has]; grind
 | nd p k l r h1 h2=>grind
theorem has_or {t : Tr} : t.Has x->(∃ q,t.Nod x q)\/∃ q w,t.Lea x q w:=by induction t with
 | lf=>simp [Nod,Lea,Has]
 | nd p k l r h1 h2 =>
  rintro (rfl | h | h)
  ·exact .inl ⟨k,.inl ⟨rfl,rfl⟩⟩
  ·rcases h1 h with ⟨q,h⟩ | ⟨q,w,h⟩
   ·exact .inl ⟨q,.inr (.inl h)⟩
   ·exact .inr ⟨q,w,.inl h⟩
  ·rcases h2 h with ⟨q,h⟩ | ⟨q,w,h⟩
   ·exact .inl ⟨q,.inr (.inr h)⟩
   ·exact .inr ⟨q,w,.inr h⟩
theorem nod_lea {t : Tr} (hd : t.Dj) : t.Nod x q->∀ q' w,¬ t.Lea x q' w:=by induction t with
 | lf=>simp [Nod]
 | nd p k l r h1 h2 =>
  have a1:=@lea_has; have a2:=@nod_has
  grind
theorem nod_fn {t : Tr} (hd : t.Dj) {q'} : t.Nod x q->t.Nod x q'->q = q':=by induction t with
 | lf=>simp [Nod]
 | nd p k l r h1 h2 =>
  have a2:=@nod_has
  grind
theorem nod_inn {t : Tr} : t.Nod x q->t.Inn x:=by induction t with
 | lf=>simp [Nod]
 | nd p k l r h1 h2=>grind
theorem inn_nod {t : Tr} : t.Inn x->∃ q,t.Nod x q:=by induction t with
 | lf=>simp [Inn]
 | nd p k l r h1 h2 =>
  rintro (rfl | h | h)
  ·exact ⟨k,.inl ⟨rfl,rfl⟩⟩
  ·obtain ⟨q,h⟩:=h1 h; exact ⟨q,.inr (.inl h)⟩
  ·obtain ⟨q,h⟩:=h2 h; exact ⟨q,.inr (.inr h)⟩
theorem inn_has {t : Tr} : t.Inn x->t.Has x:=by induction t with
 | lf=>simp [Inn]
 | nd p k l r h1 h2=>grind
theorem inn_lea {t : Tr} (hd : t.Dj) (h : t.Inn x) (q' w) : ¬ t.Lea x q' w:=by
 obtain ⟨q,h⟩:=inn_nod h; exact nod_lea hd h q' w
theorem pth_inn {t : Tr} : t.Pth k x->t.Inn x:=by induction t with
 | lf=>simp [Pth]
 | nd p q l r h1 h2=>grind
theorem pth_nod {t : Tr} : t.Pth k x->∃ q,t.Nod x q:=by induction t with
 | lf=>simp [Pth]
 | nd p q l r h1 h2 =>
  rintro (rfl | ⟨_,h⟩ | ⟨_,h⟩)
  ·exact ⟨q,.inl ⟨rfl,rfl⟩⟩
  ·obtain ⟨q,h⟩:=h2 h; exact ⟨q,.inr (.inr h)⟩
  ·obtain ⟨q,h⟩:=h1 h; exact ⟨q,.inr (.inl h)⟩
theorem pth_has {t : Tr} (h : t.Pth k x) : t.Has x:=by obtain ⟨q,h⟩:=pth_nod h; exact nod_has h
theorem goal_lea (t : Tr) : t.Lea (t.goal k).1 (t.goal k).2.1 (t.goal k).2.2:=by induction t with
 | lf=>simp [goal,Lea]
 | nd p q l r h1 h2=>grind
theorem goal_has (t : Tr) : t.Has (t.goal k).1:=lea_has (goal_lea t)
theorem ed_has {t : Tr} : ∀ {u b},Ed u b t x s d->t.Has d/\(x = u\/t.Inn x):=by induction t with
 | lf=>intro u b; simp [Ed,Has,Inn]; grind
 | nd p k l r h1 h2=>intro u b h; grind
theorem ed_pl (u b) (t : Tr) : Ed u b t u b t.pl:=by cases t <;> simp [Ed,pl]
theorem inn_ed {t : Tr} : ∀ (u b) (s : Bool),t.Inn x->∃ d,Ed u b t x s d:=by induction t with
 | lf=>intro u b; simp [Inn]
 | nd p k l r h1 h2 =>
  intro u b s h;rcases h with rfl | h | h
  ·cases s
   ·exact ⟨l.pl,.inr (.inl (ed_pl _ _ _))⟩
   ·exact ⟨r.pl,.inr (.inr (ed_pl _ _ _))⟩
  ·obtain ⟨d,h⟩:=h1 p false s h; exact ⟨d,.inr (.inl h)⟩
  ·obtain ⟨d,h⟩:=h2 p true s h; exact ⟨d,.inr (.inr h)⟩
theorem ed_root {t : Tr} : ∀ {u b},t.Dj->¬ t.Has u->Ed u b t u s d->s = b/\d = t.pl:=by
 cases t with
 | lf=>intro u b; simp [Ed,pl]
 | nd p k l r =>
  intro u b hd hu h;have a1:=@ed_has; have a2:=@inn_has
  grind
theorem ed_fn {t : Tr} : ∀ {u b},t.Dj->¬ t.Has u->Ed u b t x s d->Ed u b t x s d'->d = d':=by induction t with
 | lf=>intro u b; simp [Ed]; grind
 | nd p k l r h1 h2 =>
  intro u b hd hu h h';have a1:=@ed_has; have a2:=@inn_has; have a3:=@ed_root
  grind
theorem ed_par {t : Tr} : ∀ {u b},t.Dj->¬ t.Has u->Ed u b t x s d->Ed u b t y s' d->x = y/\s = s':=by induction t with
 | lf=>intro u b; simp [Ed]; grind
 | nd p k l r h1 h2 =>
  intro u b hd hu h h';have a1:=@ed_has; have a2:=@inn_has; have a3:=@ed_root
  grind
theorem ed_ne {t : Tr} : ∀ {u b},t.Dj->¬ t.Has u->Ed u b t x s d->x≠d:=by induction t with
 | lf=>intro u b; simp [Ed,Has]; grind
 | nd p k l r h1 h2 =>
  intro u b hd hu h;have a1:=@ed_has; have a2:=@inn_has
  grind
end Tr
end T
end
end Go.Proofs.YtfccelbmacjifabGreat
