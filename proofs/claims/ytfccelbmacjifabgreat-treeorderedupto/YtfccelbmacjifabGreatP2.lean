import Derived.Test.YtfccelbmacjifabGreatP0
import Derived.Test.YtfccelbmacjifabGreatP1
set_option linter.unusedSimpArgs false
set_option maxRecDepth 100000
set_option maxHeartbeats 4000000
namespace Go.Proofs.YtfccelbmacjifabGreat
section
namespace T
abbrev Us (M : PMem) (x : Int) : Prop:=(M.node x).used = true
abbrev De (M : PMem) (x : Int) : Prop:=(M.node x).dead = true
abbrev Re (M : PMem) (x : Int) : Prop:=(M.node x).retired = true
abbrev Ra (M : PMem) (x : Int) : Int:=(M.node x).retiredAt
abbrev Ky (M : PMem) (x : Int) : Int:=(M.node x).key
abbrev Ld (M : PMem) (x : Int) (s : Bool) : Int:=(M.node x).leads s
abbrev Ln (M : PMem) (x : Int) : Nat:=(M.node x).links
abbrev Ho (M : PMem) (x : Int) : Int:=(M.node x).holder
def InSw (r : PSweep) (x : Int) : Prop:=∃ n ∈ r.retired,((n : Nat) : Int) = x
theorem lead_e {M : PMem} {n d : Int} {s : Bool} (h : Pd M n s = [d]) (hl : M.hasLink n s = true) : M.lead n s = M.modN n fun x=>{ x with leads:=upd x.leads s d }:=by
 obtain ⟨k,e,h1,h2,h3,h4⟩:=pending_at h;have he : M.ent (k : Int) = e:=by simp [PMem.ent,h1]
 unfold PMem.lead;rw [h4,hasE_of h1,hl,he,h3]; simp
theorem make_e {M : PMem} (hw : Wm M) (key value : Int) (hf : 0 < M.room.1) : ∃ n : Int,(M.node n).used = false/\M.hasNode n = true/\(M.make key value).2 = n/\(M.make key value).1.es = M.es/\(M.make key value).1.ns.length = M.ns.length/\Wm (M.make key value).1/\∀ x,(M.make key value).1.node x = if x = n then PNode.made key value else M.node x:=by
 obtain ⟨e,he,hu⟩:=count_some (l:=M.ns) (p:=fun x=>!x.used) (by unfold PMem.room at hf; simpa using hf);obtain ⟨k,y,h1,h2,h3⟩:=found (p:=fun x : PNode=>!x.used) he hu;have h4 : M.freeNode = (k : Int):=h3;obtain ⟨h5,h6⟩:=node_get h1;have heq : M.make key value = ({ M with ns:=M.ns.set k (PNode.made key value) },(k : Int)):=by
  unfold PMem.make;rw [h4,if_pos h6]; rfl
 rw [heq];have hn : ∀ x,PMem.node { M with ns:=M.ns.set k (PNode.made key value) } x = if x = (k : Int) then PNode.made key value else M.node x:=by
  intro x
  have:=node_modN h6 (fun _=>PNode.made key value) x
  unfold PMem.modN at this;rw [if_pos h6] at this;rw [<- this]
  congr 2
  apply List.ext_getElem?;intro j;rw [List.getElem?_set,List.getElem?_modify];by_cases hj : k = j
  ·subst hj
   have:=(List.getElem?_eq_some_iff.1 h1).1
   simp [this]
  ·have : ¬ (k : Int).toNat = j:=by simpa using hj
   simp [hj,this]
 refine ⟨k,by rw [h5]; simpa using h2,h6,rfl,rfl,by simp,?_,hn⟩;refine hw.nodes (by simp) rfl ?_;intro x hx;rw [hn] at hx ⊢;split at hx
 ·exact nomatch hx
 ·next hne=>rw [if_neg hne]; exact hw.un x hx
theorem hasLink_iff {M : PMem} {n : Int} {s : Bool} : M.hasLink n s = true ↔ M.hasNode n = true/\b2i s < (M.node n).links:=by
 unfold PMem.hasLink
 simp
theorem addLink_e {M : PMem} {n to : Int} {s : Bool} (hw : Wm M) (hu : (M.node n).used = true) (hl : (M.node n).links = if s then 1 else 0) (hp : Pd M n s = []) (hf : 0 < M.room.2) :
  (M.addLink n to).ns.length = M.ns.length/\Wm (M.addLink n to)/\(∀ x,(M.addLink n to).node x = if x = n then linked s to (M.node n) else M.node x)/\(∀ x r,Pd (M.addLink n to) x r = if x = n/\r = s then [to] else Pd M x r)/\(∀ x r st d,Sd (M.addLink n to) x r st d ↔ Sd M x r st d)/\M.room.2 = (M.addLink n to).room.2 + 1:=by
 obtain ⟨e,he,hue⟩:=count_some (l:=M.es) (p:=fun x=>!x.used) (by unfold PMem.room at hf; simpa using hf);have hh:=hasN_used hu;obtain ⟨k0,y0,g1,g2,g3⟩:=found (p:=fun x : PEntry=>!x.used) he hue;have hfe : (M.freeEntry != -1) = true:=by
  rw [show M.freeEntry = (k0 : Int) from g3]
  simp
 have hw1 : Wm (M.modN n (linked s to)):=hw.modN hu _ (by simpa [linked] using hu);have hes:=modN_ents M n (linked s to);have hlk : (M.modN n (linked s to)).hasLink n s = true:=by
  rw [hasLink_iff,hasN_len (modN_len _ _ _),node_modN hh,if_pos rfl];exact ⟨hh,by cases s <;> simp [linked,hl,b2i]⟩
 obtain ⟨k,h1,h2,h3,h4,h5⟩:=pend_e (to:=to) hw1 ⟨e,by rw [hes]; exact he,by simpa using hue⟩ hlk (by rw [pd_es hes]; exact hp);have heq : M.addLink n to = (M.modN n (linked s to)).pend n s to:=by
  unfold PMem.addLink;rw [hh,hfe,hl];cases s <;> rfl
 rw [heq];refine ⟨?_,h3,?_,?_,?_,?_⟩
 ·rw [h2]; exact modN_len _ _ _
 ·intro x;rw [h2];exact node_modN hh _ x
 ·intro x r; rw [h4,pd_es hes]
 ·intro x r st d; rw [h5,sd_es hes]
 ·rw [h2];unfold PMem.room;simp only;rw [hes] at h1 ⊢
  have:=count_set_e (p:=fun x : PEntry=>!x.used) (y:=⟨true,true,n,s,to,0⟩) h1 rfl rfl
  omega
theorem free_e {M : PMem} {n : Int} (hw : Wm M) (hh : M.hasNode n = true) (h0 : n≠0/\n≠1) : (M.free n).ns.length = M.ns.length/\Wm (M.free n)/\(∀ x,(M.free n).node x = if x = n then PNode.zero else M.node x)/\(∀ x r,Pd (M.free n) x r = if x = n then [] else Pd M x r)/\(∀ x r s d,Sd (M.free n) x r s d ↔ x≠n/\Sd M x r s d):=by
 have heq : M.free n = { ns:=M.ns.set n.toNat PNode.zero,es:=M.es.map fun e=>if ofNode n e then PEntry.zero else e }:=by
  unfold PMem.free;rw [if_pos (by simp [hh,h0])]
 obtain ⟨k,y,rfl,h1,h2⟩:=node_at hh;have hn : ∀ x,(M.free k).node x = if x = (k : Int) then PNode.zero else M.node x:=by
  intro x
  have:=node_modN hh (fun _=>PNode.zero) x
  unfold PMem.modN at this;rw [if_pos hh] at this;rw [<- this,heq];unfold PMem.node PMem.hasNode;simp only [List.length_set,List.length_modify]
  congr 3
  apply List.ext_getElem?;intro j;rw [List.getElem?_set,List.getElem?_modify];by_cases hj : (k : Int).toNat = j
  ·subst hj
   have:=(List.getElem?_eq_some_iff.1 h1).1
   simp [this]
  ·simp only [hj,if_false];cases M.ns[j]? <;> simp
 have hq : ∀ e ∈ M.es,∀ x r,isPd x r (if ofNode k e then PEntry.zero else e) = (isPd x r e && decide (x≠(k : Int))):=by
  intro e he x r;by_cases ho : ofNode k e = true
  ·rw [if_pos ho,isPd_z];simp only [ofNode,Bool.and_eq_true,beq_iff_eq] at ho;by_cases hx : x = (k : Int)
   ·simp [hx]
   ·have : ¬ (k : Int) = x:=fun h=>hx h.symm
    simp [isPd,ho.2,this]
  ·rw [if_neg ho];by_cases hx : x = (k : Int)
   ·subst hx;cases hp : isPd k r e
    ·rfl
    ·exfalso;apply ho;simp only [isPd,Bool.and_eq_true,beq_iff_eq] at hp;cases hu : e.used
     ·rw [hw.wfe e he hu] at hp; exact nomatch hp.1
     ·simp [ofNode,hu,hp.2.1]
   ·simp [hx]
 refine ⟨by rw [heq]; simp,⟨?_,?_,?_⟩,hn,?_,?_⟩
 ·rw [heq]; simpa using hw.len
 ·rw [heq];intro e he hu;simp only [List.mem_map] at he;obtain ⟨e',he',rfl⟩:=he;split at hu
  ·next hc=>rw [if_pos hc]
  ·next hc=>rw [if_neg hc]; exact hw.wfe e' he' hu
 ·intro x hx;rw [hn] at hx ⊢;split at hx
  ·next hc=>rw [if_pos hc]
  ·next hc=>rw [if_neg hc]; exact hw.un x hx
 ·intro x r;rw [heq];unfold Pd;simp only;have key : ∀ l : List PEntry,(∀ e ∈ l,e ∈ M.es)->((l.map fun e=>if ofNode k e then PEntry.zero else e).filter (isPd x r)).map PEntry.dst = if x = (k : Int) then [] else (l.filter (isPd x r)).map PEntry.dst:=by
   intro l
   induction l with
   | nil=>intro _; split <;> rfl
   | cons a q ih =>
    intro hl;have ih:=ih (fun e he=>hl e (by simp [he]));have ha:=hq a (hl a (by simp)) x r;simp only [List.map_cons,List.filter_cons,ha];by_cases hx : x = (k : Int)
    ·rw [if_pos hx] at ih ⊢;simp [hx];simpa [hx] using ih
    ·rw [if_neg hx] at ih ⊢;simp only [hx,not_false_eq_true,decide_true,Bool.and_true,ne_eq];by_cases hp : isPd x r a = true
     ·have ho : ofNode k a = false:=by
       cases ho : ofNode k a
       ·rfl
       ·simp only [ofNode,Bool.and_eq_true,beq_iff_eq] at ho;simp only [isPd,Bool.and_eq_true,beq_iff_eq] at hp;exact absurd (hp.2.1.symm.trans ho.2) hx
      rw [if_pos hp,if_pos hp,List.map_cons,List.map_cons,ih,ho]; rfl
     ·rw [if_neg hp,if_neg hp,ih]
  exact key M.es (fun e he=>he)
 ·intro x r s d;rw [heq];unfold Sd;simp only [List.mem_map];constructor
  ·rintro ⟨e,⟨e',he',rfl⟩,h3,h4⟩;by_cases ho : ofNode k e' = true
   ·rw [if_pos ho,isSt_z] at h3; cases h3
   ·rw [if_neg ho] at h3 h4;refine ⟨?_,e',he',h3,h4⟩;rintro rfl;apply ho;simp only [isSt,Bool.and_eq_true,beq_iff_eq] at h3;simp [ofNode,h3.1,h3.2.2.1]
  ·rintro ⟨hx,e,he,h3,h4⟩;have ho : ¬ ofNode k e = true:=by
    intro ho;simp only [ofNode,Bool.and_eq_true,beq_iff_eq] at ho;simp only [isSt,Bool.and_eq_true,beq_iff_eq] at h3;exact hx (h3.2.2.1.symm.trans ho.2)
   exact ⟨e,⟨e,he,by rw [if_neg ho]⟩,h3,h4⟩
theorem led_fold_e (n : Int) (b : Bool) (time : Int) : ∀ (l : List PEntry) (p : Int × Int),(∀ e ∈ l,isSt n b e = true->0<=e.stamp) ->
  (l.foldl (ledStep n b time) p = p/\∀ e ∈ l,isSt n b e = true->e.stamp<=time->e.stamp<=p.1) \/
  (∃ e ∈ l,isSt n b e = true/\e.stamp<=time/\p.1 < e.stamp/\l.foldl (ledStep n b time) p = (e.stamp,e.dst)/\∀ e' ∈ l,isSt n b e' = true->e'.stamp<=time->e'.stamp<=e.stamp)
 | [],p,_=>.inl ⟨rfl,by simp⟩
 | a :: r,p,h=>by
  have ih:=led_fold_e n b time r (ledStep n b time p a) (fun e he=>h e (by simp [he]));rw [List.foldl_cons];by_cases hc : (isSt n b a && (decide (a.stamp<=time) && decide (p.1 < a.stamp))) = true
  ·have hq : ledStep n b time p a = (a.stamp,a.dst):=by unfold ledStep; rw [if_pos hc]
   rw [hq] at ih ⊢;simp only [Bool.and_eq_true,decide_eq_true_eq] at hc;rcases ih with ⟨i1,i2⟩ | ⟨e,e1,e2,e3,e4,e5,e6⟩
   ·right;refine ⟨a,by simp,hc.1,hc.2.1,hc.2.2,i1,?_⟩;intro e' he' h1 h2;rcases List.mem_cons.1 he' with rfl | he'
    ·exact Int.le_refl _
    ·exact i2 e' he' h1 h2
   ·right;simp only at e4;refine ⟨e,by simp [e1],e2,e3,by omega,e5,?_⟩;intro e' he' h1 h2;rcases List.mem_cons.1 he' with rfl | he'
    ·omega
    ·exact e6 e' he' h1 h2
  ·have hq : ledStep n b time p a = p:=by unfold ledStep; rw [if_neg hc]
   rw [hq] at ih ⊢;have ha : isSt n b a = true->a.stamp<=time->a.stamp<=p.1:=by
    intro h1 h2;simp only [Bool.and_eq_true,decide_eq_true_eq,not_and] at hc
    have:=hc h1 h2
    omega
   rcases ih with ⟨i1,i2⟩ | ⟨e,e1,e2,e3,e4,e5,e6⟩
   ·left;refine ⟨i1,?_⟩;intro e he h1 h2;rcases List.mem_cons.1 he with rfl | he
    ·exact ha h1 h2
    ·exact i2 e he h1 h2
   ·right;refine ⟨e,by simp [e1],e2,e3,e4,e5,?_⟩;intro e' he' h1 h2;rcases List.mem_cons.1 he' with rfl | he'
    ·have:=ha h1 h2; omega
    ·exact e6 e' he' h1 h2
theorem ledTo_ok {M : PMem} {n time : Int} {b : Bool} (h : ∀ s d,Sd M n b s d->0<=s) : (M.ledTo n b time = 1/\∀ s d,Sd M n b s d->¬ s<=time)\/∃ s,Sd M n b s (M.ledTo n b time)/\s<=time/\∀ s' d',Sd M n b s' d'->s'<=time->s'<=s:=by
 have h0 : ∀ e ∈ M.es,isSt n b e = true->0<=e.stamp:=fun e he hs=>h e.stamp e.dst ⟨e,he,hs,rfl,rfl⟩
 unfold PMem.ledTo;rcases led_fold_e n b time M.es (-1,1) h0 with ⟨h1,h2⟩ | ⟨e,e1,e2,e3,e4,e5,e6⟩
 ·left;rw [h1];refine ⟨rfl,?_⟩;rintro s d ⟨e,he,hs,rfl,rfl⟩ hle
  have:=h2 e he hs hle
  have:=h0 e he hs
  simp only at *;omega
 ·right;rw [e5];refine ⟨e.stamp,⟨e,e1,e2,rfl,rfl⟩,e3,?_⟩;rintro s' d' ⟨e',he',hs',rfl,rfl⟩ hle;exact e6 e' he' hs' hle
theorem drop_ok {M : PMem} (hw : Wm M) (time : Int) : (M.drop time).ns = M.ns/\Wm (M.drop time)/\(∀ x b,Pd (M.drop time) x b = Pd M x b)/\(∀ x b s d,Sd (M.drop time) x b s d ↔ Sd M x b s d/\∀ s' d',Sd M x b s' d'->s < s'->¬ s'<=time):=by
 have hD:=dropK time M.es M.es.length;have hov : ∀ e ∈ M.es,∀ x b,isSt x b e = true->(Over time M.es e ↔ ∃ s' d',Sd M x b s' d'/\e.stamp < s'/\s'<=time):=by
  intro e he x b hx;have hx':=hx;simp only [isSt,Bool.and_eq_true,beq_iff_eq] at hx';obtain ⟨h1,h2,h3,h4⟩:=hx';unfold Over;rw [h3,h4];constructor
  ·rintro ⟨_,e',he',hp⟩;simp only [stampAbove,Bool.and_eq_true,decide_eq_true_eq] at hp;exact ⟨e'.stamp,e'.dst,⟨e',he',hp.1,rfl,rfl⟩,hp.2.1,hp.2.2⟩
  ·rintro ⟨s',d',⟨e',he',hs,rfl,rfl⟩,hl,hr⟩;refine ⟨hx,e',he',?_⟩;simp only [stampAbove,Bool.and_eq_true,decide_eq_true_eq];exact ⟨hs,hl,hr⟩
 refine ⟨rfl,⟨hw.len,?_,hw.un⟩,?_,?_⟩
 ·intro e he hu;obtain ⟨j,hj⟩:=List.mem_iff_getElem?.1 he;obtain ⟨e0,h1,h2⟩:=hD.back hj;rcases h2 with rfl | ⟨rfl,_⟩
  ·rfl
  ·exact hw.wfe e (List.mem_of_getElem? h1) hu
 ·intro x b;unfold Pd;refine filt_same _ _ _ _ hD.len ?_;intro j a a2 ha hb;have hb : (dropTo time M.es M.es.length)[j]? = some a2:=hb;by_cases ho : Over time M.es a
  ·have hj:=(List.getElem?_eq_some_iff.1 ha).1
   have:=hD.yes j a ha hj ho
   rw [this] at hb; injection hb with hb; subst hb
   right;refine ⟨?_,isPd_z _ _⟩
   have:=ho.1
   simp only [isSt,Bool.and_eq_true] at this;simp [isPd];intro hp;rw [hp] at this;simp at this
  ·have:=hD.no j a ha (fun _=>ho)
   rw [this] at hb; injection hb with hb
   exact .inl hb
 ·intro x b s d;constructor
  ·rintro ⟨e,he,hs,rfl,rfl⟩;obtain ⟨j,hj⟩:=List.mem_iff_getElem?.1 he;obtain ⟨e0,h1,h2⟩:=hD.back hj;rcases h2 with rfl | ⟨rfl,h3⟩
   ·rw [isSt_z] at hs; cases hs
   ·have hm:=List.mem_of_getElem? h1;refine ⟨⟨e,hm,hs,rfl,rfl⟩,?_⟩;intro s' d' h4 h5 h6;exact h3 (List.getElem?_eq_some_iff.1 h1).1 ((hov e hm x b hs).2 ⟨s',d',h4,h5,h6⟩)
  ·rintro ⟨⟨e,he,hs,rfl,rfl⟩,hno⟩;obtain ⟨j,hj⟩:=List.mem_iff_getElem?.1 he;refine ⟨e,List.mem_of_getElem? (hD.no j e hj (fun _ ho=>?_)),hs,rfl,rfl⟩;obtain ⟨s',d',h4,h5,h6⟩:=(hov e he x b hs).1 ho;exact hno s' d' h4 h5 h6
def Gone (M : PMem) (ht : Bool) (tm : Int) (l : List Nat) (x : Int) : Prop:=(∃ n ∈ l,((n : Nat) : Int) = x)/\(ht = true->Ra M x < tm)
theorem freesIf_ok (ht : Bool) (tm : Int) : ∀ (l : List Nat) (M : PMem),Wm M->(∀ n ∈ l,M.hasNode (n : Int) = true/\(n : Int)≠0/\(n : Int)≠1) ->
  Wm (M.freesIf ht tm l)/\(M.freesIf ht tm l).ns.length = M.ns.length/\(∀ x,(Gone M ht tm l x->(M.freesIf ht tm l).node x = PNode.zero/\(∀ b,Pd (M.freesIf ht tm l) x b = [])/\∀ b s d,¬ Sd (M.freesIf ht tm l) x b s d)/\(¬ Gone M ht tm l x->(M.freesIf ht tm l).node x = M.node x/\(∀ b,Pd (M.freesIf ht tm l) x b = Pd M x b)/\∀ b s d,Sd (M.freesIf ht tm l) x b s d ↔ Sd M x b s d))
 | [],M,hw,_=>⟨hw,rfl,fun x=>⟨fun h=>(by obtain ⟨n,hn,_⟩:=h.1; cases hn),fun _=>⟨rfl,fun _=>rfl,fun _ _ _=>Iff.rfl⟩⟩⟩
 | n :: l,M,hw,hl=>by
  obtain ⟨h1,h2⟩:=hl n (by simp);unfold PMem.freesIf;by_cases hc : (!ht || decide ((M.node (n : Int)).retiredAt < tm)) = true
  ·rw [if_pos hc];have hc' : ht = true->Ra M n < tm:=by
    intro e; rw [e] at hc; simpa using hc
   obtain ⟨f1,f2,f3,f4,f5⟩:=free_e hw h1 h2;obtain ⟨i1,i2,i3⟩:=freesIf_ok ht tm l (M.free n) f2 (fun m hm=>by rw [hasN_len f1]; exact hl m (by simp [hm]));refine ⟨i1,by rw [i2,f1],fun x=>?_⟩;obtain ⟨a,b⟩:=i3 x;by_cases hx : x = (n : Int)
   ·have hg : Gone M ht tm (n :: l) x:=⟨⟨n,by simp,hx.symm⟩,by rw [hx]; exact hc'⟩;refine ⟨fun _=>?_,fun h=>absurd hg h⟩;by_cases hG : Gone (M.free n) ht tm l x
    ·exact a hG
    ·obtain ⟨b1,b2,b3⟩:=b hG;rw [b1,f3,if_pos hx];exact ⟨rfl,fun b=>by rw [b2,f4,if_pos hx],fun b s d hs=>((f5 x b s d).1 ((b3 b s d).1 hs)).1 hx⟩
   ·have hiff : Gone (M.free n) ht tm l x ↔ Gone M ht tm (n :: l) x:=by
     unfold Gone;have : Ra (M.free n) x = Ra M x:=by simp only [Ra]; rw [f3,if_neg hx]
     rw [this];refine and_congr ⟨?_,?_⟩ Iff.rfl
     ·rintro ⟨m,hm,e⟩; exact ⟨m,by simp [hm],e⟩
     ·rintro ⟨m,hm,e⟩;rcases List.mem_cons.1 hm with rfl | hm
      ·exact absurd e.symm hx
      ·exact ⟨m,hm,e⟩
    refine ⟨fun h=>a (hiff.2 h),fun h=>?_⟩;obtain ⟨b1,b2,b3⟩:=b (fun hh=>h (hiff.1 hh));rw [b1,f3,if_neg hx];exact ⟨rfl,fun b=>by rw [b2,f4,if_neg hx],fun b s d=>by rw [b3,f5]; exact ⟨fun h=>h.2,fun h=>⟨hx,h⟩⟩⟩
  ·rw [if_neg hc];obtain ⟨i1,i2,i3⟩:=freesIf_ok ht tm l M hw (fun m hm=>hl m (by simp [hm]));refine ⟨i1,i2,fun x=>?_⟩;have hiff : Gone M ht tm l x ↔ Gone M ht tm (n :: l) x:=by
    constructor
    ·rintro ⟨⟨m,hm,e⟩,h⟩; exact ⟨⟨m,by simp [hm],e⟩,h⟩
    ·rintro ⟨⟨m,hm,e⟩,h⟩;rcases List.mem_cons.1 hm with rfl | hm
     ·exfalso;apply hc;cases hh : ht
      ·rfl
      ·have:=h hh
       rw [<- e] at this;simpa using this
     ·exact ⟨⟨m,hm,e⟩,h⟩
   rw [<- hiff]; exact i3 x
theorem mem_retired : ∀ (l : List PNode) (k n : Nat),n ∈ retiredFrom l k ↔ ∃ j e,n = k + j/\l[j]? = some e/\e.retired = true
 | [],k,n=>by simp [retiredFrom]
 | x :: l,k,n=>by
  have ih:=mem_retired l (k + 1) n;unfold retiredFrom;constructor
  ·intro h;have h' : (n = k/\x.retired = true)\/n ∈ retiredFrom l (k + 1):=by
    split at h
    ·next hx=>rcases List.mem_cons.1 h with h | h; exact .inl ⟨h,hx⟩; exact .inr h
    ·exact .inr h
   rcases h' with ⟨h1,h2⟩ | h1
   ·exact ⟨0,x,by omega,rfl,h2⟩
   ·obtain ⟨j,e,h2,h3,h4⟩:=ih.1 h1;exact ⟨j + 1,e,by omega,by simpa using h3,h4⟩
  ·rintro ⟨j,e,h1,h2,h3⟩;cases j with
   | zero =>
    simp at h2; subst h2;rw [if_pos h3,h1]; simp
   | succ j =>
    have:=ih.2 ⟨j,e,by omega,by simpa using h2,h3⟩
    split
    ·exact List.mem_cons_of_mem _ this
    ·exact this
theorem inSw_new (M : PMem) (r : PSweep) (h : r.retired = retiredFrom M.ns 0) (x : Int) : InSw r x ↔ Re M x:=by
 unfold InSw;rw [h];constructor
 ·rintro ⟨n,hn,rfl⟩;obtain ⟨j,e,h1,h2,h3⟩:=(mem_retired _ _ _).1 hn;obtain rfl : n = j:=by omega
  show (M.node n).retired = true;rw [(node_get h2).1]; exact h3
 ·intro hr;have hn : M.hasNode x = true:=by
   cases hh : M.hasNode x
   ·simp only [Re] at hr; unfold PMem.node at hr; rw [hh] at hr; exact nomatch hr
   ·rfl
  obtain ⟨k,e,rfl,h1,h2⟩:=node_at hn;exact ⟨k,(mem_retired _ _ _).2 ⟨k,e,by omega,h1,by simp only [Re] at hr; rw [h2] at hr; exact hr⟩,rfl⟩
end T
end
section
namespace T
inductive Tr where
 | lf (p k v : Int)
 | nd (p k : Int) (l r : Tr)
namespace Tr
@[grind] def pl : Tr->Int
 | lf p _ _=>p
 | nd p _ _ _=>p
@[grind] def Has : Tr->Int->Prop
 | lf p _ _,x=>x = p
 | nd p _ l r,x=>x = p\/l.Has x\/r.Has x
@[grind] def Nod : Tr->Int->Int->Prop
 | lf _ _ _,_,_=>False
 | nd p k l r,x,q=>(x = p/\q = k)\/l.Nod x q\/r.Nod x q
@[grind] def Inn : Tr->Int->Prop
 | lf _ _ _,_=>False
 | nd p _ l r,x=>x = p\/l.Inn x\/r.Inn x
@[grind] def Lea : Tr->Int->Int->Int->Prop
 | lf p k v,x,q,w=>x = p/\q = k/\w = v
 | nd _ _ l r,x,q,w=>l.Lea x q w\/r.Lea x q w
@[grind] def Dj : Tr->Prop
 | lf _ _ _=>True
 | nd p _ l r=>¬ l.Has p/\¬ r.Has p/\(∀ x,l.Has x->¬ r.Has x)/\l.Dj/\r.Dj
@[grind] def Ok : Tr->Prop
 | lf _ _ _=>True
 | nd _ q l r=>(∀ x k v,l.Lea x k v->k < q)/\(∀ x k v,r.Lea x k v->q<=k)/\l.Ok/\r.Ok
@[grind] def Ed : Int->Bool->Tr->Int->Bool->Int->Prop
 | u,b,lf p _ _,x,s,d=>x = u/\s = b/\d = p
 | u,b,nd p _ l r,x,s,d=>(x = u/\s = b/\d = p)\/Ed p false l x s d\/Ed p true r x s d
@[grind] def Pth (k : Int) : Tr->Int->Prop
 | lf _ _ _,_=>False
 | nd p q l r,x=>x = p\/(q<=k/\r.Pth k x)\/(k < q/\l.Pth k x)
@[grind] def goal (k : Int) : Tr->Int × Int × Int
 | lf p q v=>(p,q,v)
 | nd _ q l r=>if q<=k then r.goal k else l.goal k
@[grind] def ins (k v a n : Int) : Tr->Tr
 | lf p q w=>if q < k then nd n k (lf p q w) (lf a k v) else nd n q (lf a k v) (lf p q w)
 | nd p q l r=>if q<=k then nd p q l (ins k v a n r) else nd p q (ins k v a n l) r
@[grind] def isLf : Tr->Bool
 | lf _ _ _=>true
 | nd _ _ _ _=>false
@[grind] def del (k : Int) : Tr->Tr
 | lf p q w=>lf p q w
 | nd p q l r=>if q<=k then (if r.isLf then l else nd p q l (del k r)) else (if l.isLf then r else nd p q (del k l) r)
variable {t : Tr} {u x y d d' k q w : Int} {b s s' : Bool}
theorem has_pl (t : Tr) : t.Has t.pl:=by cases t <;> simp [Has,pl]
theorem nod_has {t : Tr} : t.Nod x q->t.Has x:=by induction t with
 | lf=>simp [Nod]
 | nd p k l r h1 h2=>grind
theorem lea_has {t : Tr} : t.Lea x q w->t.Has x:=by induction t with
 | lf=>simp [Lea,Has]; grind
 | nd p k l r h1 h2=>grind
theorem has_or {t : Tr} : t.Has x->(∃ q,t.Nod x q)\/∃ q w,t.Lea x q w:=by induction t with
 | lf=>simp [Nod,Lea,Has]
 | nd p k l r h1 h2 =>
  rintro (rfl | h | h)
  ·exact .inl ⟨k,.inl ⟨rfl,rfl⟩⟩
  ·rcases h1 h with ⟨q,h⟩ | ⟨q,w,h⟩
   ·exact .inl ⟨q,.inr (.inl h)⟩
   ·exact .inr ⟨q,w,.inl h⟩
  ·rcases h2 h with ⟨q,h⟩ | ⟨q,w,h⟩
   ·exact .inl ⟨q,.inr (.inr h)⟩
   ·exact .inr ⟨q,w,.inr h⟩
theorem nod_lea {t : Tr} (hd : t.Dj) : t.Nod x q->∀ q' w,¬ t.Lea x q' w:=by induction t with
 | lf=>simp [Nod]
 | nd p k l r h1 h2 =>
  have a1:=@lea_has; have a2:=@nod_has
  grind
theorem nod_fn {t : Tr} (hd : t.Dj) {q'} : t.Nod x q->t.Nod x q'->q = q':=by induction t with
 | lf=>simp [Nod]
 | nd p k l r h1 h2 =>
  have a2:=@nod_has
  grind
theorem nod_inn {t : Tr} : t.Nod x q->t.Inn x:=by induction t with
 | lf=>simp [Nod]
 | nd p k l r h1 h2=>grind
theorem inn_nod {t : Tr} : t.Inn x->∃ q,t.Nod x q:=by induction t with
 | lf=>simp [Inn]
 | nd p k l r h1 h2 =>
  rintro (rfl | h | h)
  ·exact ⟨k,.inl ⟨rfl,rfl⟩⟩
  ·obtain ⟨q,h⟩:=h1 h; exact ⟨q,.inr (.inl h)⟩
  ·obtain ⟨q,h⟩:=h2 h; exact ⟨q,.inr (.inr h)⟩
theorem inn_has {t : Tr} : t.Inn x->t.Has x:=by induction t with
 | lf=>simp [Inn]
 | nd p k l r h1 h2=>grind
theorem inn_lea {t : Tr} (hd : t.Dj) (h : t.Inn x) (q' w) : ¬ t.Lea x q' w:=by
 obtain ⟨q,h⟩:=inn_nod h; exact nod_lea hd h q' w
theorem pth_inn {t : Tr} : t.Pth k x->t.Inn x:=by induction t with
 | lf=>simp [Pth]
 | nd p q l r h1 h2=>grind
theorem pth_nod {t : Tr} : t.Pth k x->∃ q,t.Nod x q:=by induction t with
 | lf=>simp [Pth]
 | nd p q l r h1 h2 =>
  rintro (rfl | ⟨_,h⟩ | ⟨_,h⟩)
  ·exact ⟨q,.inl ⟨rfl,rfl⟩⟩
  ·obtain ⟨q,h⟩:=h2 h; exact ⟨q,.inr (.inr h)⟩
  ·obtain ⟨q,h⟩:=h1 h; exact ⟨q,.inr (.inl h)⟩
theorem pth_has {t : Tr} (h : t.Pth k x) : t.Has x:=by obtain ⟨q,h⟩:=pth_nod h; exact nod_has h
theorem goal_lea (t : Tr) : t.Lea (t.goal k).1 (t.goal k).2.1 (t.goal k).2.2:=by induction t with
 | lf=>simp [goal,Lea]
 | nd p q l r h1 h2=>grind
theorem goal_has (t : Tr) : t.Has (t.goal k).1:=lea_has (goal_lea t)
theorem ed_has {t : Tr} : ∀ {u b},Ed u b t x s d->t.Has d/\(x = u\/t.Inn x):=by induction t with
 | lf=>intro u b; simp [Ed,Has,Inn]; grind
 | nd p k l r h1 h2=>intro u b h; grind
theorem ed_pl (u b) (t : Tr) : Ed u b t u b t.pl:=by cases t <;> simp [Ed,pl]
theorem inn_ed {t : Tr} : ∀ (u b) (s : Bool),t.Inn x->∃ d,Ed u b t x s d:=by induction t with
 | lf=>intro u b; simp [Inn]
 | nd p k l r h1 h2 =>
  intro u b s h;rcases h with rfl | h | h
  ·cases s
   ·exact ⟨l.pl,.inr (.inl (ed_pl _ _ _))⟩
   ·exact ⟨r.pl,.inr (.inr (ed_pl _ _ _))⟩
  ·obtain ⟨d,h⟩:=h1 p false s h; exact ⟨d,.inr (.inl h)⟩
  ·obtain ⟨d,h⟩:=h2 p true s h; exact ⟨d,.inr (.inr h)⟩
theorem ed_root {t : Tr} : ∀ {u b},t.Dj->¬ t.Has u->Ed u b t u s d->s = b/\d = t.pl:=by
 cases t with
 | lf=>intro u b; simp [Ed,pl]
 | nd p k l r =>
  intro u b hd hu h;have a1:=@ed_has; have a2:=@inn_has
  grind
theorem ed_fn {t : Tr} : ∀ {u b},t.Dj->¬ t.Has u->Ed u b t x s d->Ed u b t x s d'->d = d':=by induction t with
 | lf=>intro u b; simp [Ed]; grind
 | nd p k l r h1 h2 =>
  intro u b hd hu h h';have a1:=@ed_has; have a2:=@inn_has; have a3:=@ed_root
  grind
theorem ed_par {t : Tr} : ∀ {u b},t.Dj->¬ t.Has u->Ed u b t x s d->Ed u b t y s' d->x = y/\s = s':=by induction t with
 | lf=>intro u b; simp [Ed]; grind
 | nd p k l r h1 h2 =>
  intro u b hd hu h h';have a1:=@ed_has; have a2:=@inn_has; have a3:=@ed_root
  grind
theorem ed_ne {t : Tr} : ∀ {u b},t.Dj->¬ t.Has u->Ed u b t x s d->x≠d:=by induction t with
 | lf=>intro u b; simp [Ed,Has]; grind
 | nd p k l r h1 h2 =>
  intro u b hd hu h;have a1:=@ed_has; have a2:=@inn_has
  grind
end Tr
end T
end
section
namespace T
namespace Tr
variable {t : Tr} {u x y z d d' k k' q w v a n m : Int} {b s s' r : Bool}
theorem pth_root (t : Tr) : t.Pth k t.pl\/(t.goal k).1 = t.pl/\t.isLf = true:=by cases t <;> simp [Pth,pl,goal,isLf]
theorem pth_step {t : Tr} : ∀ {u b},t.Dj->¬ t.Has u->t.Pth k x->t.Nod x q->Ed u b t x (decide (q<=k)) d->t.Pth k d\/(t.goal k).1 = d:=by
 induction t with
 | lf=>simp [Pth]
 | nd p q l r h1 h2 =>
  intro u b hd hu hp hn he;have a1:=@ed_has; have a2:=@inn_has; have a3:=@ed_root; have a4:=@nod_has; have a5:=@pth_has; have a6:=pth_root (k:=k) l; have a7:=pth_root (k:=k) r
  grind
theorem goal_key {t : Tr} (ho : t.Ok) : t.Lea x k w->t.goal k = (x,k,w):=by
 induction t with
 | lf=>simp [Lea,goal]; grind
 | nd p q l r h1 h2=>grind
theorem ins_has {t : Tr} : (t.ins k v a n).Has x ↔ t.Has x\/x = a\/x = n:=by
 induction t with
 | lf p q w=>simp only [ins]; split <;> grind
 | nd p q l r h1 h2=>grind
theorem ins_nod {t : Tr} : (t.ins k v a n).Nod x q ↔ t.Nod x q\/(x = n/\q = if (t.goal k).2.1 < k then k else (t.goal k).2.1):=by
 induction t with
 | lf p q w=>simp only [ins]; split <;> grind
 | nd p q l r h1 h2=>grind
theorem ins_inn {t : Tr} : (t.ins k v a n).Inn x ↔ t.Inn x\/x = n:=by
 induction t with
 | lf p q w=>simp only [ins]; split <;> grind
 | nd p q l r h1 h2=>grind
theorem ins_lea {t : Tr} : (t.ins k v a n).Lea x q w ↔ t.Lea x q w\/(x = a/\q = k/\w = v):=by
 induction t with
 | lf p q w=>simp only [ins]; split <;> grind
 | nd p q l r h1 h2=>grind
theorem ins_dj {t : Tr} (hd : t.Dj) (ha : ¬ t.Has a) (hn : ¬ t.Has n) (h : a≠n) : (t.ins k v a n).Dj:=by
 have b1:=@ins_has
 induction t with
 | lf p q w=>simp only [ins]; split <;> grind
 | nd p q l r h1 h2=>grind
theorem ins_ok {t : Tr} (ho : t.Ok) (hk : (t.goal k).2.1≠k) : (t.ins k v a n).Ok:=by
 have b1:=@ins_lea
 induction t with
 | lf p q w=>simp only [ins]; split <;> grind
 | nd p q l r h1 h2=>grind
theorem ins_ed {t : Tr} : ∀ {u b},t.Dj->(Ed u b (t.ins k v a n) x s d ↔ (Ed u b t x s d/\d≠(t.goal k).1)\/(d = n/\Ed u b t x s (t.goal k).1)\/(x = n/\d = if decide ((t.goal k).2.1 < k) = s then a else (t.goal k).1)):=by
 induction t with
 | lf p q w=>intro u b _; simp only [ins]; cases s <;> split <;> grind
 | nd p q l r h1 h2 =>
  intro u b hd;have a1:=@ed_has; have a4:=@goal_has;by_cases hq : q<=k
  ·have h2:=@h2 p true (by grind);simp only [ins,hq,if_true,Ed,goal,h2]
   grind
  ·have h1:=@h1 p false (by grind);simp only [ins,hq,if_false,Ed,goal,h1]
   grind
theorem ins_pth {t : Tr} (hn : ¬ t.Has n) (hx : x≠n) : (t.ins k v a n).Pth k' x ↔ t.Pth k' x:=by
 induction t with
 | lf p q w=>simp only [ins]; split <;> grind
 | nd p q l r h1 h2=>grind
theorem del_lf (h : t.isLf = true) : t.Has x ↔ x = (t.goal k).1:=by cases t <;> simp_all [isLf,goal,Has]
structure Cut (u : Int) (b : Bool) (t : Tr) (k x y m : Int) (s r : Bool) : Prop where
 e1 : Ed u b t x s (t.goal k).1
 e2 : Ed u b t y r x
 e3 : Ed u b t x (!s) m
theorem Cut.inv {p q : Int} {l r : Tr} {rr : Bool} (h : Cut u b (nd p q l r) k x y m s rr) (hd : (nd p q l r).Dj) (hu : ¬ (nd p q l r).Has u) :
  (q<=k/\r.isLf = true/\x = p/\s = true/\y = u/\rr = b/\m = l.pl)\/(q<=k/\r.isLf = false/\Cut p true r k x y m s rr)\/(k < q/\l.isLf = true/\x = p/\s = false/\y = u/\rr = b/\m = r.pl)\/(k < q/\l.isLf = false/\Cut p false l k x y m s rr):=by
 obtain ⟨h1,h2,h3⟩:=h;have a1:=@ed_has; have a2:=@inn_has; have a3:=@ed_root; have a4:=@goal_has;by_cases hq : q<=k
 ·have e : (nd p q l r).goal k = r.goal k:=by simp [goal,hq]
  rw [e] at h1;have h1' : Ed p true r x s (r.goal k).1:=by grind
  cases hr : r.isLf
  ·right; left;have hx : x≠p:=by
    rintro rfl
    have:=a3 (by grind) (by grind) h1'
    cases r <;> simp_all [isLf,goal,pl]
    grind
   exact ⟨hq,rfl,⟨h1',by grind,by grind⟩⟩
  ·left;cases r with
   | lf=>simp [Ed] at h1' h2 h3 ⊢; grind
   | nd=>simp [isLf] at hr
 ·have e : (nd p q l r).goal k = l.goal k:=by simp [goal,hq]
  rw [e] at h1;have h1' : Ed p false l x s (l.goal k).1:=by grind
  cases hr : l.isLf
  ·right; right; right;have hx : x≠p:=by
    rintro rfl
    have:=a3 (by grind) (by grind) h1'
    cases l <;> simp_all [isLf,goal,pl]
    grind
   exact ⟨by omega,rfl,⟨h1',by grind,by grind⟩⟩
  ·right; right; left;cases l with
   | lf=>simp [Ed] at h1' h2 h3 ⊢; grind
   | nd=>simp [isLf] at hr
theorem Cut.no {p q w : Int} {rr : Bool} (h : Cut u b (lf p q w) k x y m s rr) : u = p:=by
 obtain ⟨h1,h2,h3⟩:=h;simp [Ed] at h1 h2; grind
variable {rr : Bool}
theorem Cut.inn {t : Tr} (h : Cut u b t k x y m s rr) (hd : t.Dj) (hu : ¬ t.Has u) : t.Inn x/\t.Has m/\x≠m/\x≠y/\(t.goal k).1≠m/\x≠(t.goal k).1/\t.isLf = false:=by
 have a1:=@ed_has; have a2:=@inn_has; have a3:=@ed_root; have a4:=@goal_has; have a5:=@ed_ne; have a6:=@ed_par;obtain ⟨h1,h2,h3⟩:=h;have hx : x≠u:=by
  rintro rfl;exact hu (ed_has h2).1
 refine ⟨by grind,by grind,by grind,by grind,?_,by grind,?_⟩
 ·intro e2
  have:=(ed_par hd hu h1 (e2 ▸ h3)).2
  simp at this
 ·cases t
  ·simp [Ed] at h1; grind
  ·rfl
theorem del_has {t : Tr} : ∀ {u b},t.Dj->¬ t.Has u->Cut u b t k x y m s rr->((t.del k).Has z ↔ t.Has z/\z≠x/\z≠(t.goal k).1):=by
 have a4:=@goal_has; have a6:=@inn_has
 induction t with
 | lf p q w=>intro u b _ hu h; exact absurd h.no (by grind)
 | nd p q l r h1 h2 =>
  intro u b hd hu h;have hi:=h.inn hd hu;rcases h.inv hd hu with ⟨c1,c2,c3,c4,c5,c6,c7⟩ | ⟨c1,c2,c3⟩ | ⟨c1,c2,c3,c4,c5,c6,c7⟩ | ⟨c1,c2,c3⟩
  ·have:=del_lf (x:=z) (k:=k) (t:=r) c2
   simp only [del,c1,c2,if_true,goal,Has]; grind
  ·have:=@h2 p true (by grind) (by grind) c3
   simp only [del,c1,c2,if_true,goal,Has]; have:=c3.inn (by grind) (by grind); grind
  ·have:=del_lf (x:=z) (k:=k) (t:=l) c2
   simp only [del,show ¬ q<=k by omega,c2,if_true,if_false,goal,Has]; grind
  ·have:=@h1 p false (by grind) (by grind) c3
   simp only [del,show ¬ q<=k by omega,c2,if_true,if_false,goal,Has]; have:=c3.inn (by grind) (by grind); grind
theorem lf_nod (h : t.isLf = true) : ¬ t.Nod x q:=by cases t <;> simp_all [isLf,Nod]
theorem lf_pth (h : t.isLf = true) : ¬ t.Pth k x:=by cases t <;> simp_all [isLf,Pth]
theorem lf_lea (h : t.isLf = true) : t.Lea x q w ↔ (x,q,w) = t.goal k:=by cases t <;> simp_all [isLf,Lea,goal]
theorem lf_ed (h : t.isLf = true) : Ed u b t x s d ↔ x = u/\s = b/\d = (t.goal k).1:=by cases t <;> simp_all [isLf,Ed,goal]
theorem del_nod {t : Tr} : ∀ {u b},t.Dj->¬ t.Has u->Cut u b t k x y m s rr->((t.del k).Nod z q ↔ t.Nod z q/\z≠x):=by
 have a4:=@goal_has; have a5:=@nod_has; have a6:=@inn_has
 induction t with
 | lf p q w=>intro u b _ hu h; exact absurd h.no (by grind)
 | nd p q l r h1 h2 =>
  intro u b hd hu h;have hi:=h.inn hd hu;rcases h.inv hd hu with ⟨c1,c2,c3,c4,c5,c6,c7⟩ | ⟨c1,c2,c3⟩ | ⟨c1,c2,c3,c4,c5,c6,c7⟩ | ⟨c1,c2,c3⟩
  ·have:=fun q=>lf_nod (t:=r) (x:=z) (q:=q) c2
   simp only [del,c1,c2,if_true,goal,Nod]; grind
  ·have:=@h2 p true (by grind) (by grind) c3
   simp only [del,c1,c2,if_true,goal,Nod]; have:=c3.inn (by grind) (by grind); grind
  ·have:=fun q=>lf_nod (t:=l) (x:=z) (q:=q) c2
   simp only [del,show ¬ q<=k by omega,c2,if_true,if_false,goal,Nod]; grind
  ·have:=@h1 p false (by grind) (by grind) c3
   simp only [del,show ¬ q<=k by omega,c2,if_true,if_false,goal,Nod]; have:=c3.inn (by grind) (by grind); grind
theorem del_inn {t : Tr} (hd : t.Dj) (hu : ¬ t.Has u) (h : Cut u b t k x y m s rr) : (t.del k).Inn z ↔ t.Inn z/\z≠x:=by
 constructor
 ·intro hz;obtain ⟨q,hz⟩:=inn_nod hz
  have:=(del_nod hd hu h).1 hz
  exact ⟨nod_inn this.1,this.2⟩
 ·rintro ⟨hz,hx⟩;obtain ⟨q,hz⟩:=inn_nod hz;exact nod_inn ((del_nod hd hu h).2 ⟨hz,hx⟩)
theorem del_lea {t : Tr} : ∀ {u b},t.Dj->¬ t.Has u->Cut u b t k x y m s rr->((t.del k).Lea z q w ↔ t.Lea z q w/\z≠(t.goal k).1):=by
 have a4:=@goal_has; have a5:=@lea_has
 induction t with
 | lf p q w=>intro u b _ hu h; exact absurd h.no (by grind)
 | nd p q l r h1 h2 =>
  intro u b hd hu h;rcases h.inv hd hu with ⟨c1,c2,c3,c4,c5,c6,c7⟩ | ⟨c1,c2,c3⟩ | ⟨c1,c2,c3,c4,c5,c6,c7⟩ | ⟨c1,c2,c3⟩
  ·have:=fun q w=>lf_lea (t:=r) (x:=z) (k:=k) (q:=q) (w:=w) c2
   simp only [del,c1,c2,if_true,goal,Lea]; grind
  ·have:=@h2 p true (by grind) (by grind) c3
   simp only [del,c1,c2,if_true,goal,Lea]; grind
  ·have:=fun q w=>lf_lea (t:=l) (x:=z) (k:=k) (q:=q) (w:=w) c2
   simp only [del,show ¬ q<=k by omega,c2,if_true,if_false,goal,Lea]; grind
  ·have:=@h1 p false (by grind) (by grind) c3
   simp only [del,show ¬ q<=k by omega,c2,if_true,if_false,goal,Lea]; grind
theorem del_dj {t : Tr} : ∀ {u b},t.Dj->¬ t.Has u->Cut u b t k x y m s rr->(t.del k).Dj:=by
 induction t with
 | lf p q w=>intro u b _ hu h; exact absurd h.no (by grind)
 | nd p q l r h1 h2 =>
  intro u b hd hu h;rcases h.inv hd hu with ⟨c1,c2,c3,c4,c5,c6,c7⟩ | ⟨c1,c2,c3⟩ | ⟨c1,c2,c3,c4,c5,c6,c7⟩ | ⟨c1,c2,c3⟩
  ·simp only [del,c1,c2,if_true]; grind
  ·have:=@h2 p true (by grind) (by grind) c3
   have e:=fun z=>del_has (z:=z) (t:=r) (u:=p) (b:=true) (by grind) (by grind) c3
   simp only [del,c1,c2,if_true,Dj]; grind
  ·simp only [del,show ¬ q<=k by omega,c2,if_true,if_false]; grind
  ·have:=@h1 p false (by grind) (by grind) c3
   have e:=fun z=>del_has (z:=z) (t:=l) (u:=p) (b:=false) (by grind) (by grind) c3
   simp only [del,show ¬ q<=k by omega,c2,if_true,if_false,Dj]; grind
theorem del_ok {t : Tr} : ∀ {u b},t.Dj->¬ t.Has u->Cut u b t k x y m s rr->t.Ok->(t.del k).Ok:=by
 induction t with
 | lf p q w=>intro u b _ hu h; exact absurd h.no (by grind)
 | nd p q l r h1 h2 =>
  intro u b hd hu h ho;rcases h.inv hd hu with ⟨c1,c2,c3,c4,c5,c6,c7⟩ | ⟨c1,c2,c3⟩ | ⟨c1,c2,c3,c4,c5,c6,c7⟩ | ⟨c1,c2,c3⟩
  ·simp only [del,c1,c2,if_true]; grind
  ·have:=@h2 p true (by grind) (by grind) c3
   have e:=fun z q w=>del_lea (z:=z) (q:=q) (w:=w) (t:=r) (u:=p) (b:=true) (by grind) (by grind) c3
   simp only [del,c1,c2,if_true,Ok]; grind
  ·simp only [del,show ¬ q<=k by omega,c2,if_true,if_false]; grind
  ·have:=@h1 p false (by grind) (by grind) c3
   have e:=fun z q w=>del_lea (z:=z) (q:=q) (w:=w) (t:=l) (u:=p) (b:=false) (by grind) (by grind) c3
   simp only [del,show ¬ q<=k by omega,c2,if_true,if_false,Ok]; grind
theorem del_pth {t : Tr} : ∀ {u b},t.Dj->¬ t.Has u->Cut u b t k x y m s rr->t.Pth k' z->z≠x->(t.del k).Pth k' z:=by
 induction t with
 | lf p q w=>intro u b _ hu h; exact absurd h.no (by grind)
 | nd p q l r h1 h2 =>
  intro u b hd hu h hp hz;rcases h.inv hd hu with ⟨c1,c2,c3,c4,c5,c6,c7⟩ | ⟨c1,c2,c3⟩ | ⟨c1,c2,c3,c4,c5,c6,c7⟩ | ⟨c1,c2,c3⟩
  ·have:=lf_pth (t:=r) (x:=z) (k:=k') c2
   simp only [del,c1,c2,if_true]; grind
  ·have:=@h2 p true (by grind) (by grind) c3
   simp only [del,c1,c2,if_true,Pth]; grind
  ·have:=lf_pth (t:=l) (x:=z) (k:=k') c2
   simp only [del,show ¬ q<=k by omega,c2,if_true,if_false]; grind
  ·have:=@h1 p false (by grind) (by grind) c3
   simp only [del,show ¬ q<=k by omega,c2,if_true,if_false,Pth]; grind
theorem del_ed {t : Tr} : ∀ {u b},t.Dj->¬ t.Has u->Cut u b t k x y m s rr->(Ed u b (t.del k) z s' d ↔ (Ed u b t z s' d/\z≠x/\d≠x)\/(z = y/\s' = rr/\d = m)):=by
 have a1:=@ed_has; have a2:=@inn_has; have a3:=@ed_root; have a4:=@goal_has; have a5:=@has_pl
 induction t with
 | lf p q w=>intro u b _ hu h; exact absurd h.no (by grind)
 | nd p q l r h1 h2 =>
  intro u b hd hu h;rcases h.inv hd hu with ⟨c1,c2,c3,c4,c5,c6,c7⟩ | ⟨c1,c2,c3⟩ | ⟨c1,c2,c3,c4,c5,c6,c7⟩ | ⟨c1,c2,c3⟩
  ·have e1:=fun x s d=>lf_ed (t:=r) (u:=p) (b:=true) (x:=x) (s:=s) (d:=d) (k:=k) c2
   simp only [del,c1,c2,if_true,Ed];cases l <;> grind
  ·have e1:=@h2 p true (by grind) (by grind) c3;have e2:=c3.inn (by grind) (by grind);simp only [del,c1,c2,if_true,if_false,Ed,e1,Bool.false_eq_true]
   grind
  ·have e1:=fun x s d=>lf_ed (t:=l) (u:=p) (b:=false) (x:=x) (s:=s) (d:=d) (k:=k) c2
   simp only [del,show ¬ q<=k by omega,c2,if_true,if_false,Ed];cases r <;> grind
  ·have e1:=@h1 p false (by grind) (by grind) c3;have e2:=c3.inn (by grind) (by grind);simp only [del,show ¬ q<=k by omega,c2,if_true,if_false,Ed,e1,Bool.false_eq_true]
   grind
end Tr
end T
end
end Go.Proofs.YtfccelbmacjifabGreat
