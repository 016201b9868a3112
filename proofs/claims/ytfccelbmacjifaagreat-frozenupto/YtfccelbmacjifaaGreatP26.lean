import Derived.Test.YtfccelbmacjifaaGreatP0
import Derived.Test.YtfccelbmacjifaaGreatP25
set_option linter.unusedSimpArgs false
set_option maxRecDepth 100000
set_option maxHeartbeats 4000000
namespace Go.Proofs.YtfccelbmacjifaaGreat
section
section
variable {M M1 : PMem} {P : PSt} {i : Nat} {t : PThread} {c sl : Int} {k : PWork}
theorem run_check (hi : i < P.ts.length) (h0 : P.kind = 0) (hk : k.kind = 1\/k.kind = 2) (hn : k.next = 6) {x y : Nat} {nd nb : PNode} (hst : k.stand = x) (ha : k.ahead = y) (hx : M.ns[x]? = some nd) (hd : nd.dead = false) (hl : nd.links = 1) (hle : nd.leads false = y) (hb : M.ns[y]? = some nb) (hbd : nb.dead = false) (hm : (nb.key == k.key)≠(k.kind == 1)) :
  Run (st P i t M c sl k) i 1 (st P i t M c sl { k with next:=7 }):=by
 refine run_upd hi hk (by omega) ?_;unfold PSt.update;rw [hn];simp only
 congr 1
 unfold PSt.check;rw [outdated_no (st P i t M c sl k) k h0 hst ha hx hd hl hle hb hbd,meets_of (st P i t M c sl k) k ha hb];rw [if_neg (by simp),if_neg (by simpa using hm),st_setW hi]
theorem run_full (hi : i < P.ts.length) (hk : k.kind = 1\/k.kind = 2) (hn : k.next = 7) (hr : M.room.1 < ((st P i t M c sl k).needs k.kind).1\/M.room.2 < ((st P i t M c sl k).needs k.kind).2) :
  Run (st P i t M c sl k) i 1 (st P i t M c sl { k with ans:={ err:=7 },next:=12 }):=by
 refine run_upd hi hk (by omega) ?_;unfold PSt.update;rw [hn];simp only
 congr 1
 unfold PSt.prepare;have hr' : (st P i t M c sl k).mem.room.1 < ((st P i t M c sl k).needs k.kind).1\/(st P i t M c sl k).mem.room.2 < ((st P i t M c sl k).needs k.kind).2:=hr;rw [if_pos hr',st_setW hi]; rfl
theorem run_unlock (hi : i < P.ts.length) (hk : k.kind = 1\/k.kind = 2) (hn : k.next = 12) (hd : ¬ (k.kind = 2/\k.ans.did = true)) :
  Run (st P i t M c sl k) i 1 (st P i t (M.unlock i) c sl { k with locks:=0,next:=13 }):=by
 refine run_upd hi hk (by omega) ?_;unfold PSt.update;rw [hn];simp only
 congr 1
 unfold PSt.unlock;simp only;rw [if_neg hd,st_setM,st_setW hi]; rfl
theorem run_lead (hi : i < P.ts.length) (hk : k.kind = 1\/k.kind = 2) (hn : k.next = 10) :
  Run (st P i t M c sl k) i 1 (st P i t (M.lead k.tsrc k.tside) c sl { k with next:=11 }):=by
 refine run_upd hi hk (by omega) ?_;unfold PSt.update;rw [hn];simp only
 congr 1
 rw [st_setM,st_setW hi]; rfl
theorem run_stamp (hi : i < P.ts.length) (hk : k.kind = 1\/k.kind = 2) (hn : k.next = 11) :
  Run (st P i t M c sl k) i 1 (st P i t (M.stamp k.tsrc k.tside k.ans.stamp) c sl { k with next:=12 }):=by
 refine run_upd hi hk (by omega) ?_;unfold PSt.update;rw [hn];simp only
 congr 1
 rw [st_setM,st_setW hi]; rfl
theorem run_kill (hi : i < P.ts.length) (hk : k.kind = 1\/k.kind = 2) (hn : k.next = 9) (h0 : P.kind = 0) :
  Run (st P i t M c sl k) i 1 (st P i t (M.kill k.ahead) c sl { k with next:=10 }):=by
 refine run_upd hi hk (by omega) ?_;unfold PSt.update;rw [hn];simp only
 congr 1
 unfold PSt.takenOut;rw [if_neg (by show ¬ P.kind = 1; omega),st_setM,st_setW hi]; rfl
theorem run_take1 (hi : i < P.ts.length) (hk : k.kind = 1) (hn : k.next = 8) (hl : c < P.limit) :
  Run (st P i t M c sl k) i 1 (st P i t (M.stampsNew (c + 1) k.made) (c + 1) sl { k with ans:={ did:=true,stamp:=c + 1 },next:=10 }):=by
 refine run_upd hi (.inl hk) (by omega) ?_;unfold PSt.update;rw [hn];simp only
 congr 1
 unfold PSt.take;rw [if_neg (by show ¬ P.limit<=c; omega)];simp only;rw [if_neg (by omega)];show ((st P i t M (c + 1) sl k).setM _).setW i _ = _;rw [st_setM,st_setW hi]; rfl
theorem run_take2 (hi : i < P.ts.length) (hk : k.kind = 2) (hn : k.next = 8) (hl : c < P.limit) :
  Run (st P i t M c sl k) i 1 (st P i t M (c + 1) sl { k with ans:={ did:=true,stamp:=c + 1,value:=(M.node k.ahead).value },next:=9 }):=by
 refine run_upd hi (.inr hk) (by omega) ?_;unfold PSt.update;rw [hn];simp only
 congr 1
 unfold PSt.take;rw [if_neg (by show ¬ P.limit<=c; omega)];simp only;rw [if_pos hk];show (st P i t M (c + 1) sl k).setW i _ = _;rw [st_setW hi]; rfl
theorem run_take0 (hi : i < P.ts.length) (hk : k.kind = 1\/k.kind = 2) (hn : k.next = 8) (hl : P.limit<=c) :
  Run (st P i t M c sl k) i 1 (st P i t ((M.unpend k.tsrc k.tside).frees k.made) c sl { k with ans:={ err:=8 },next:=12 }):=by
 refine run_upd hi hk (by omega) ?_;unfold PSt.update;rw [hn];simp only
 congr 1
 unfold PSt.take;rw [if_pos (by show P.limit<=c; omega),st_setM,st_setW hi]; rfl
theorem run_prep1 (hi : i < P.ts.length) (h0 : P.kind = 0) (hk : k.kind = 1) (hn : k.next = 7) (hm : k.made = []) {x y : Nat} {nd : PNode} (hst : k.stand = x) (ha : k.ahead = y) (hx : M.ns[x]? = some nd) (hl : nd.links = 1) (hxu : nd.used = true) (r1 : 1<=M.room.1) (r2 : 2<=M.room.2) :
  ∃ (f q1 q2 : Nat) (nf : PNode) (e1 e2 : PEntry),M.ns[f]? = some nf/\nf.used = false/\M.es[q1]? = some e1/\e1.used = false/\M.es[q2]? = some e2/\e2.used = false/\q1≠q2/\f≠x /\
   Run (st P i t M c sl k) i 1 (st P i t ⟨M.ns.set f (linked false y (PNode.made k.key k.value)),(M.es.set q1 ⟨true,true,f,false,y,0⟩).set q2 ⟨true,true,x,false,f,0⟩⟩ c sl { k with made:=[(f : Int)],tsrc:=x,tside:=false,next:=8 }):=by
 obtain ⟨f,nf,hf,hnf,hfu⟩:=free_node r1;obtain ⟨q1,e1,hq1,he1,hu1⟩:=free_entry (M:=M) (by omega);have hfx : f≠x:=by
  rintro rfl;rw [hx] at hnf;obtain rfl:=Option.some.inj hnf;rw [hxu] at hfu;cases hfu
 have hfl:=(List.getElem?_eq_some_iff.1 hnf).1;obtain ⟨M2,hM2⟩ : ∃ M2 : PMem,M2 = ⟨M.ns.set f (linked false y (PNode.made k.key k.value)),M.es.set q1 ⟨true,true,f,false,y,0⟩⟩:=⟨_,rfl⟩;have hr2 : 1<=M2.room.2:=by
  have h1:=count_set (fun e : PEntry=>!e.used) M.es q1 e1 ⟨true,true,f,false,y,0⟩ he1;simp only [hu1,Bool.not_false,if_true,Bool.not_true,Bool.false_eq_true,if_false,Nat.add_zero] at h1;have h2 : M.room.2 = (count (fun e : PEntry=>!e.used) M.es : Nat):=rfl;have h3 : M2.room.2 = (count (fun e : PEntry=>!e.used) (M.es.set q1 ⟨true,true,f,false,y,0⟩) : Nat):=by rw [hM2]; rfl
  omega
 obtain ⟨q2,e2,hq2,he2,hu2⟩:=free_entry hr2;have he2' : (M.es.set q1 ⟨true,true,f,false,y,0⟩)[q2]? = some e2:=by rw [hM2] at he2; exact he2
 have hq12 : q1≠q2:=by
  rintro rfl;rw [List.getElem?_set_self (List.getElem?_eq_some_iff.1 he1).1] at he2';obtain rfl:=Option.some.inj he2';cases hu2
 rw [List.getElem?_set_ne hq12] at he2';have hx2 : M2.ns[x]? = some nd:=by rw [hM2]; show (M.ns.set f _)[x]? = _; rw [List.getElem?_set_ne hfx]; exact hx
 refine ⟨f,q1,q2,nf,e1,e2,hnf,hfu,he1,hu1,he2',hu2,hq12,hfx,run_upd hi (.inl hk) (by omega) ?_⟩;unfold PSt.update;rw [hn];simp only
 congr 1
 unfold PSt.prepare;have hnd : (st P i t M c sl k).needs k.kind = (1,2):=by
  unfold PSt.needs;rw [if_neg (by omega),if_neg (by show ¬ P.kind = 1; omega)]
 rw [hnd,if_neg (by show ¬ (M.room.1 < 1\/M.room.2 < 2); omega)];simp only [hk,if_true];have hprep : (st P i t M c sl k).prepareInsert k = (⟨M.ns.set f (linked false y (PNode.made k.key k.value)),(M.es.set q1 ⟨true,true,f,false,y,0⟩).set q2 ⟨true,true,x,false,f,0⟩⟩,{ k with made:=[(f : Int)],tsrc:=x,tside:=false }):=by
  unfold PSt.prepareInsert;rw [show (st P i t M c sl k).mem = M from rfl,make_ok hf hnf];simp only;rw [if_pos (show (st P i t M c sl k).kind = 0 from h0)];have hMa : ({ M with ns:=M.ns.set f (PNode.made k.key k.value) } : PMem).addLink f k.ahead = M2:=by
   rw [addLink_ok (M:={ M with ns:=M.ns.set f (PNode.made k.key k.value) }) (nd:=PNode.made k.key k.value) hq1 he1 (by simp [hfl]) rfl,hM2,ha]
   simp
  have hside : ({ M with ns:=M.ns.set f (PNode.made k.key k.value) } : PMem).sideFor k.stand k.key = false:=by
   rw [hst];unfold PMem.sideFor;rw [node_of (M:={ M with ns:=M.ns.set f (PNode.made k.key k.value) }) (nd:=nd) (by show (M.ns.set f _)[x]? = _; rw [List.getElem?_set_ne hfx]; exact hx),hl]
   rfl
  rw [hMa,hside,hst,pend_ok hq2 he2 hx2 hl,hM2,hm]
  rfl
 rw [hprep];simp only;rw [st_setM,st_setW hi,hk]
end
end
section
section
variable {M M1 : PMem} {P : PSt} {i : Nat} {t : PThread} {c sl : Int} {k : PWork} {g : Nat->PNode->PNode}
theorem count_map {α β : Type} (p : β->Bool) (f : α->β) (l : List α) : count p (l.map f) = count (fun x=>p (f x)) l:=by
 unfold count;rw [List.filter_map,List.length_map]; rfl
theorem Turns.room (h : Turns M M1 g) (he : M1.es = M.es) (hu : ∀ (j : Nat) y,M.ns[j]? = some y->(g j y).used = y.used) : M1.room = M.room:=by
 have hm : M1.ns.map (·.used) = M.ns.map (·.used):=by
  apply List.ext_getElem?;intro j;rw [List.getElem?_map,List.getElem?_map,h j];cases hy : M.ns[j]? with
  | none=>rfl
  | some y=>simp [hu j y hy]
 unfold PMem.room;rw [he];have h1:=count_map (fun b=>!b) (fun x : PNode=>x.used) M1.ns;have h2:=count_map (fun b=>!b) (fun x : PNode=>x.used) M.ns;rw [hm] at h1;rw [<- h1,<- h2]
theorem run_put (hi : i < P.ts.length) (h0 : P.kind = 0) (hk : k.kind = 1) (hn : k.next = 5) (hl : k.locks = 0) (hm : k.made = []) {x y : Nat} {nd nb : PNode} (hst : k.stand = x) (ha : k.ahead = y) (hx : M.ns[x]? = some nd) (hxu : nd.used = true) (hxd : nd.dead = false) (hxh : nd.holder = -1) (hxl : nd.links = 1) (hle : nd.leads false = y)
  (hb : M.ns[y]? = some nb) (hbd : nb.dead = false) (hne : x≠y) (hbk : nb.key≠k.key) (hu : ∀ nd ∈ M.ns,nd.used = true->nd.holder = -1) (hc : ∀ en ∈ M.es,en.pending = false) (r1 : 1<=M.room.1) (r2 : 2<=M.room.2) (hcl : c < P.limit) :
  ∃ (f q1 q2 : Nat) (nf : PNode) (e1 e2 : PEntry) (M' : PMem) (k' : PWork),M.ns[f]? = some nf/\nf.used = false/\M.es[q1]? = some e1/\e1.used = false/\M.es[q2]? = some e2/\e2.used = false/\q1≠q2/\f≠x /\
   Run (st P i t M c sl k) i 7 (st P i t M' (c + 1) sl k')/\k'.next = 13/\k'.ans = { did:=true,stamp:=c + 1 } /\
   (∀ j,M'.es[j]? = if q2 = j then some ⟨true,false,x,false,f,c + 1⟩ else if q1 = j then some ⟨true,false,f,false,y,c + 1⟩ else M.es[j]?) /\
   (∀ j,M'.ns[j]? = if f = j then some (linked false y (PNode.made k.key k.value)) else if x = j then some { nd with leads:=upd nd.leads false f } else M.ns[j]?):=by
 have hk' : k.kind = 1\/k.kind = 2:=.inl hk;have hmeet : (st P i t M c sl k).takesOut k = false:=by unfold PSt.takesOut; rw [hk]; rfl
 have s1:=run_lock1 (P:=P) (t:=t) (c:=c) (sl:=sl) hi hk' hn hl hst hx hxh hmeet;obtain ⟨M1,hM1⟩ : ∃ M1,M1 = M.modN x (fun y=>{ y with holder:=(i : Int) }):=⟨_,rfl⟩;have hT:=(Turns.refl M).modN x (fun y=>{ y with holder:=(i : Int) });rw [<- hM1] at hT s1;have hes : M1.es = M.es:=by rw [hM1]; exact modN_es _ _
 have hx1 : M1.ns[x]? = some { nd with holder:=i }:=by rw [hT,hx]; simp
 have hb1 : M1.ns[y]? = some nb:=by rw [hT,hb]; simp [hne]
 have hroom : M1.room = M.room:=hT.room hes (by intro j y _; by_cases hj : x = j <;> simp [hj]);have s2:=run_check (P:=P) (t:=t) (c:=c) (sl:=sl) (k:={ k with locks:=1,next:=6 }) hi h0 hk' rfl hst ha hx1 hxd hxl hle hb1 hbd (by show (nb.key == k.key)≠(k.kind == 1); rw [hk]; simpa using hbk);obtain ⟨f,q1,q2,nf,e1,e2,hnf,hfu,he1,hu1,he2,hu2,hq,hfx,s3⟩:=run_prep1 (P:=P) (t:=t) (c:=c) (sl:=sl) (k:={ k with locks:=1,next:=7 }) hi h0 hk rfl hm hst ha hx1 hxl hxu (by rw [hroom]; exact r1) (by rw [hroom]; exact r2);rw [hes] at he1 he2 s3;have hnf0 : M.ns[f]? = some nf:=by
  have:=hT f
  rw [hnf] at this;cases hy : M.ns[f]? with
  | none=>rw [hy] at this; simp at this
  | some y' =>
   rw [hy] at this;simp only [Option.map_some,Option.some.injEq] at this;rw [if_neg (fun h=>hfx h.symm)] at this;rw [this]
 have l1:=(List.getElem?_eq_some_iff.1 he1).1;have l2:=(List.getElem?_eq_some_iff.1 he2).1
 -- the stamp of the new node's link
 obtain ⟨M2,hM2⟩ : ∃ M2 : PMem,M2 = ⟨M1.ns.set f (linked false y (PNode.made k.key k.value)),(M.es.set q1 ⟨true,true,f,false,y,0⟩).set q2 ⟨true,true,x,false,f,0⟩⟩:=⟨_,rfl⟩;have g2 : ∀ j,M2.es[j]? = if q2 = j then some ⟨true,true,x,false,f,0⟩ else if q1 = j then some ⟨true,true,f,false,y,0⟩ else M.es[j]?:=by
  intro j;rw [hM2];simp only [List.getElem?_set,List.length_set];by_cases h1 : q2 = j
  ·subst h1; simp [l2]
  ·by_cases h2 : q1 = j
   ·subst h2; simp [h1,l1]
   ·simp [h1,h2]
 have p1 : M2.pending f false = q1:=by
  refine find_only (x:=⟨true,true,f,false,y,0⟩) (by rw [g2]; simp [Ne.symm hq]) (by simp [isPd]) ?_;intro j en hj hp;rw [g2] at hj;by_cases h1 : q2 = j
  ·rw [if_pos h1] at hj;obtain rfl:=Option.some.inj hj;simp [isPd] at hp;omega
  ·rw [if_neg h1] at hj;by_cases h2 : q1 = j
   ·exact h2.symm
   ·rw [if_neg h2] at hj
    have:=hc en (List.mem_of_getElem? hj)
    simp [isPd,this] at hp
 have q1' : M2.es[q1]? = some ⟨true,true,f,false,y,0⟩:=by rw [g2]; simp [Ne.symm hq]
 obtain ⟨M3,hM3⟩ : ∃ M3 : PMem,M3 = { M2 with es:=M2.es.set q1 ⟨true,false,f,false,y,c + 1⟩ }:=⟨_,rfl⟩;have g3 : ∀ j,M3.es[j]? = if q2 = j then some ⟨true,true,x,false,f,0⟩ else if q1 = j then some ⟨true,false,f,false,y,c + 1⟩ else M.es[j]?:=by
  intro j;rw [hM3];show (M2.es.set q1 _)[j]? = _;by_cases h2 : q1 = j
  ·subst h2;rw [List.getElem?_set_self (List.getElem?_eq_some_iff.1 q1').1];simp [Ne.symm hq]
  ·rw [List.getElem?_set_ne h2,g2];simp [h2]
 have hnew : M2.stampsNew (c + 1) [(f : Int)] = M3:=by
  show (M2.stampNew f (c + 1)) = M3;unfold PMem.stampNew;rw [stamp_ok p1 q1' (c + 1),<- hM3];refine stamp_none ?_ _;refine find_miss _ _ ?_;intro j _ en hj;rw [g3] at hj;by_cases h1 : q2 = j
  ·rw [if_pos h1] at hj;obtain rfl:=Option.some.inj hj;simp [isPd]
  ·rw [if_neg h1] at hj;by_cases h2 : q1 = j
   ·rw [if_pos h2] at hj;obtain rfl:=Option.some.inj hj;simp [isPd]
   ·rw [if_neg h2] at hj
    have:=hc en (List.mem_of_getElem? hj)
    simp [isPd,this]
 rw [<- hM2] at s3;have s4:=run_take1 (P:=P) (t:=t) (M:=M2) (c:=c) (sl:=sl) (k:={ k with locks:=1,made:=[(f : Int)],tsrc:=x,tside:=false,next:=8 }) hi hk rfl hcl;simp only at s4;rw [hnew] at s4
 -- the link
 have p2 : ∀ M4 : PMem,M4.es = M3.es->M4.pending x false = q2:=by
  intro M4 h4;unfold PMem.pending;rw [h4];refine find_only (x:=⟨true,true,x,false,f,0⟩) (by rw [g3]; simp) (by simp [isPd]) ?_;intro j en hj hp;rw [g3] at hj;by_cases h1 : q2 = j
  ·exact h1.symm
  ·rw [if_neg h1] at hj;by_cases h2 : q1 = j
   ·rw [if_pos h2] at hj;obtain rfl:=Option.some.inj hj;simp [isPd] at hp
   ·rw [if_neg h2] at hj
    have:=hc en (List.mem_of_getElem? hj)
    simp [isPd,this] at hp
 have q2' : M3.es[q2]? = some ⟨true,true,x,false,f,0⟩:=by rw [g3]; simp
 have hT3 : Turns M M3 (fun j y'=>if f = j then linked false y (PNode.made k.key k.value) else if x = j then { y' with holder:=(i : Int) } else y'):=by
  rw [hM3,hM2];exact hT.set f _
 have hx3 : M3.ns[x]? = some { nd with holder:=i }:=by rw [hT3,hx]; simp [hfx]
 have s5:=run_lead (P:=P) (t:=t) (M:=M3) (c:=c + 1) (sl:=sl) (k:={ k with locks:=1,made:=[(f : Int)],tsrc:=x,tside:=false,ans:={ did:=true,stamp:=c + 1 },next:=10 }) hi hk' rfl;simp only at s5;rw [lead_ok (p2 M3 rfl) q2' hx3 hxl] at s5;obtain ⟨M4,hM4⟩ : ∃ M4,M4 = M3.modN x (fun z=>{ z with leads:=upd z.leads false (f : Int) }):=⟨_,rfl⟩;rw [<- hM4] at s5;have hT4:=hT3.modN x (fun z=>{ z with leads:=upd z.leads false (f : Int) });rw [<- hM4] at hT4;have h4e : M4.es = M3.es:=by rw [hM4]; exact modN_es _ _
 have s6:=run_stamp (P:=P) (t:=t) (M:=M4) (c:=c + 1) (sl:=sl) (k:={ k with locks:=1,made:=[(f : Int)],tsrc:=x,tside:=false,ans:={ did:=true,stamp:=c + 1 },next:=11 }) hi hk' rfl;simp only at s6;rw [stamp_ok (p2 M4 h4e) (by rw [h4e]; exact q2')] at s6;obtain ⟨M5,hM5⟩ : ∃ M5 : PMem,M5 = { M4 with es:=M4.es.set q2 ⟨true,false,x,false,f,c + 1⟩ }:=⟨_,rfl⟩;rw [<- hM5] at s6;have s7:=run_unlock (P:=P) (t:=t) (M:=M5) (c:=c + 1) (sl:=sl) (k:={ k with locks:=1,made:=[(f : Int)],tsrc:=x,tside:=false,ans:={ did:=true,stamp:=c + 1 },next:=12 }) hi hk' rfl (by simp; omega);have hrun:=(((((s1.trans s2).trans s3).trans s4).trans s5).trans s6).trans s7;rw [show 1 + 1 + 1 + 1 + 1 + 1 + 1 = 7 from rfl] at hrun;refine ⟨f,q1,q2,nf,e1,e2,M5.unlock i,_,hnf0,hfu,he1,hu1,he2,hu2,hq,hfx,hrun,rfl,rfl,?_,?_⟩
 ·intro j;show M5.es[j]? = _;rw [hM5];show (M4.es.set q2 _)[j]? = _;rw [h4e];by_cases h1 : q2 = j
  ·subst h1;rw [List.getElem?_set_self (List.getElem?_eq_some_iff.1 q2').1]; simp
  ·rw [List.getElem?_set_ne h1,g3];simp [h1]
 ·have hT5:=hT4.es (M4.es.set q2 ⟨true,false,x,false,f,c + 1⟩);rw [<- hM5] at hT5;intro j;rw [hT5.unlock i j];by_cases h1 : f = j
  ·subst h1;rw [hnf0];simp [Ne.symm hfx,unlocked,linked,PNode.made]
  ·by_cases h2 : x = j
   ·subst h2;rw [hx];simp [h1,unlocked,hxu,<- hxh]
   ·simp only [h1,h2,if_false];cases hy : M.ns[j]? with
    | none=>rfl
    | some z =>
     simp only [Option.map_some,Option.some.injEq];unfold unlocked;split
     ·rename_i hcc
      simp only [Bool.and_eq_true,beq_iff_eq] at hcc
      have:=hu z (List.mem_of_getElem? hy) hcc.1
      omega
     ·rfl
end
end
section
section
variable {M M1 : PMem} {P : PSt} {i : Nat} {t : PThread} {c sl : Int} {k : PWork} {g : Nat->PNode->PNode}
theorem run_lockAt (hi : i < P.ts.length) (hk : k.kind = 1\/k.kind = 2) (hn : k.next = 5) {W : List Int} (hW : (st P i t M c sl k).wanted k = W) {x : Nat} (hx : W[k.locks]? = some (x : Int)) {nd : PNode} (h : M.ns[x]? = some nd) (hh : nd.holder = -1) :
  Run (st P i t M c sl k) i 1 (st P i t (M.modN x (fun y=>{ y with holder:=i })) c sl { k with locks:=k.locks + 1,next:=if W.length<=k.locks + 1 then 6 else 5 }):=by
 refine run_upd hi hk (by omega) ?_;unfold PSt.update;rw [hn];simp only;unfold PSt.lock;rw [hW,if_pos (List.getElem?_eq_some_iff.1 hx).1,hx];simp only [Option.getD_some];rw [show (st P i t M c sl k).mem = M from rfl,lock_ok h hh];simp only [if_true];rw [st_setM,st_setW hi,hn]
theorem run_prep2 (hi : i < P.ts.length) (h0 : P.kind = 0) (hk : k.kind = 2) (hn : k.next = 7) {x y z : Nat} {nd nb : PNode} (hst : k.stand = x) (ha : k.ahead = y) (hx : M.ns[x]? = some nd) (hl : nd.links = 1) (hb : M.ns[y]? = some nb) (hbl : nb.links = 1) (hbz : nb.leads false = z) (r2 : 1<=M.room.2) :
  ∃ (q : Nat) (e1 : PEntry),M.es[q]? = some e1/\e1.used = false /\
   Run (st P i t M c sl k) i 1 (st P i t { M with es:=M.es.set q ⟨true,true,x,false,z,0⟩ } c sl { k with tsrc:=x,tside:=false,next:=8 }):=by
 obtain ⟨q,e1,hq,he,hu⟩:=free_entry r2;refine ⟨q,e1,he,hu,run_upd hi (.inr hk) (by omega) ?_⟩;unfold PSt.update;rw [hn];simp only
 congr 1
 unfold PSt.prepare;have hnd : (st P i t M c sl k).needs k.kind = (0,1):=by
  unfold PSt.needs;rw [if_pos hk]
 have hr0 : 0<=M.room.1:=by unfold PMem.room; simp
 rw [hnd,if_neg (by show ¬ (M.room.1 < 0\/M.room.2 < 1); omega)];simp only;rw [if_neg (by omega)];have hprep : (st P i t M c sl k).prepareRemove k = ({ M with es:=M.es.set q ⟨true,true,x,false,z,0⟩ },{ k with tsrc:=x,tside:=false }):=by
  unfold PSt.prepareRemove;simp only;rw [if_pos (show (st P i t M c sl k).kind = 0 from h0),hst,ha,(leads_of (st P i t M c sl k) hx hl k.key).2,(leads_of (st P i t M c sl k) hb hbl k.key).1,hbz];rw [show (st P i t M c sl k).mem = M from rfl,pend_ok hq he hx hl]
 rw [hprep];simp only;rw [st_setM,st_setW hi]
theorem run_unlock2 (hi : i < P.ts.length) (h0 : P.kind = 0) (hk : k.kind = 2) (hn : k.next = 12) (hd : k.ans.did = true) :
  Run (st P i t M c sl k) i 1 (st P i t ((M.unlock i).retire k.ahead c) c sl { k with locks:=0,next:=13 }):=by
 refine run_upd hi (.inr hk) (by omega) ?_;unfold PSt.update;rw [hn];simp only
 congr 1
 unfold PSt.unlock PSt.takenOut;simp only;rw [if_pos ⟨hk,hd⟩,if_neg (by show ¬ P.kind = 1; omega),st_setM,st_setW hi]; rfl
theorem run_del (hi : i < P.ts.length) (h0 : P.kind = 0) (hk : k.kind = 2) (hn : k.next = 5) (hl : k.locks = 0) {x y z : Nat} {nd nb : PNode} (hst : k.stand = x) (ha : k.ahead = y) (hx : M.ns[x]? = some nd) (hxu : nd.used = true) (hxd : nd.dead = false) (hxh : nd.holder = -1) (hxl : nd.links = 1) (hle : nd.leads false = y)
  (hb : M.ns[y]? = some nb) (hbu : nb.used = true) (hbd : nb.dead = false) (hbh : nb.holder = -1) (hbl : nb.links = 1) (hbz : nb.leads false = z) (hne : x≠y) (hbk : nb.key = k.key) (hu : ∀ nd ∈ M.ns,nd.used = true->nd.holder = -1) (hc : ∀ en ∈ M.es,en.pending = false) (r2 : 1<=M.room.2) (hcl : c < P.limit) :
  ∃ (q : Nat) (e1 : PEntry) (M' : PMem) (k' : PWork),M.es[q]? = some e1/\e1.used = false /\
   Run (st P i t M c sl k) i 9 (st P i t M' (c + 1) sl k')/\k'.next = 13/\k'.ans = { did:=true,stamp:=c + 1,value:=nb.value } /\
   (∀ j,M'.es[j]? = if q = j then some ⟨true,false,x,false,z,c + 1⟩ else M.es[j]?) /\
   (∀ j,M'.ns[j]? = if y = j then some { nb with dead:=true,retired:=true,retiredAt:=c + 1 } else if x = j then some { nd with leads:=upd nd.leads false z } else M.ns[j]?):=by
 have hk' : k.kind = 1\/k.kind = 2:=.inr hk;have hwant : ∀ (M0 : PMem) (k0 : PWork),k0.kind = 2->k0.ahead = y->k0.stand = x->k0.key = k.key->(∃ nb',M0.ns[y]? = some nb'/\nb'.key = nb.key)->(st P i t M0 c sl k0).wanted k0 = [(x : Int),(y : Int)]:=by
  rintro M0 k0 q1 q2 q3 q4 ⟨nb',h1,h2⟩;unfold PSt.wanted PSt.takesOut;rw [meets_of (st P i t M0 c sl k0) k0 q2 h1,q1,h2,hbk,q4,q2,q3]
  simp
  intro hh;exact absurd (show P.kind = 1 from hh) (by omega)
 have s1:=run_lockAt (P:=P) (t:=t) (M:=M) (c:=c) (sl:=sl) (k:=k) hi hk' hn (hwant M k hk ha hst rfl ⟨nb,hb,rfl⟩) (x:=x) (by rw [hl]; rfl) hx hxh;rw [hl] at s1;simp only [List.length_cons,List.length_nil] at s1;rw [if_neg (by omega)] at s1;obtain ⟨M1,hM1⟩ : ∃ M1,M1 = M.modN x (fun y=>{ y with holder:=(i : Int) }):=⟨_,rfl⟩;have hT1:=(Turns.refl M).modN x (fun y=>{ y with holder:=(i : Int) });rw [<- hM1] at hT1 s1;have he1 : M1.es = M.es:=by rw [hM1]; exact modN_es _ _
 have hb1 : M1.ns[y]? = some nb:=by rw [hT1,hb]; simp [hne]
 have s2:=run_lockAt (P:=P) (t:=t) (M:=M1) (c:=c) (sl:=sl) (k:={ k with locks:=0 + 1,next:=5 }) hi hk' rfl (hwant M1 { k with locks:=0 + 1,next:=5 } hk ha hst rfl ⟨nb,hb1,rfl⟩) (x:=y) rfl hb1 hbh;simp only [List.length_cons,List.length_nil] at s2;rw [if_pos (by omega)] at s2;obtain ⟨M2,hM2⟩ : ∃ M2,M2 = M1.modN y (fun y=>{ y with holder:=(i : Int) }):=⟨_,rfl⟩;have hT2:=hT1.modN y (fun y=>{ y with holder:=(i : Int) });rw [<- hM2] at hT2 s2;have he2 : M2.es = M.es:=by rw [hM2,modN_es]; exact he1
 have hx2 : M2.ns[x]? = some { nd with holder:=i }:=by rw [hT2,hx]; simp [Ne.symm hne]
 have hb2 : M2.ns[y]? = some { nb with holder:=i }:=by rw [hT2,hb]; simp [hne]
 have hroom : M2.room = M.room:=hT2.room he2 (by intro j w _; by_cases h1 : y = j <;> by_cases h2 : x = j <;> simp [h1,h2]);have s3:=run_check (P:=P) (t:=t) (M:=M2) (c:=c) (sl:=sl) (k:={ k with locks:=0 + 1 + 1,next:=6 }) hi h0 hk' rfl hst ha hx2 hxd hxl hle hb2 hbd (by show (nb.key == k.key)≠(k.kind == 1); rw [hk,hbk]; simp);obtain ⟨q,e1,hq1,hu1,s4⟩:=run_prep2 (P:=P) (t:=t) (M:=M2) (c:=c) (sl:=sl) (k:={ k with locks:=0 + 1 + 1,next:=7 }) hi h0 hk rfl hst ha hx2 hxl hb2 hbl hbz (by rw [hroom]; exact r2);rw [he2] at hq1 s4;have hql:=(List.getElem?_eq_some_iff.1 hq1).1;obtain ⟨M3,hM3⟩ : ∃ M3 : PMem,M3 = { M2 with es:=M.es.set q ⟨true,true,x,false,z,0⟩ }:=⟨_,rfl⟩;rw [<- hM3] at s4;have hT3:=hT2.es (M.es.set q ⟨true,true,x,false,z,0⟩);rw [<- hM3] at hT3;have g3 : ∀ j,M3.es[j]? = if q = j then some ⟨true,true,x,false,z,0⟩ else M.es[j]?:=by
  intro j;rw [hM3];show (M.es.set q _)[j]? = _;by_cases h1 : q = j
  ·subst h1; simp [hql]
  ·rw [List.getElem?_set_ne h1]; simp [h1]
 have hb3 : M3.ns[y]? = some { nb with holder:=i }:=by rw [hM3]; exact hb2
 have hx3 : M3.ns[x]? = some { nd with holder:=i }:=by rw [hM3]; exact hx2
 have s5:=run_take2 (P:=P) (t:=t) (M:=M3) (c:=c) (sl:=sl) (k:={ k with locks:=0 + 1 + 1,tsrc:=x,tside:=false,next:=8 }) hi hk rfl hcl;simp only at s5;rw [show (M3.node k.ahead).value = nb.value by rw [ha,node_of hb3]] at s5;have s6:=run_kill (P:=P) (t:=t) (M:=M3) (c:=c + 1) (sl:=sl) (k:={ k with locks:=0 + 1 + 1,tsrc:=x,tside:=false,ans:={ did:=true,stamp:=c + 1,value:=nb.value },next:=9 }) hi hk' rfl h0;simp only at s6;obtain ⟨M4,hM4⟩ : ∃ M4,M4 = M3.modN y (fun w=>{ w with dead:=true }):=⟨_,rfl⟩;rw [show M3.kill k.ahead = M4 by rw [ha,hM4]; rfl] at s6;have hT4:=hT3.modN y (fun w=>{ w with dead:=true });rw [<- hM4] at hT4;have h4e : M4.es = M3.es:=by rw [hM4]; exact modN_es _ _
 have hx4 : M4.ns[x]? = some { nd with holder:=i }:=by rw [hT4,hx]; simp [Ne.symm hne]
 have p2 : ∀ M0 : PMem,M0.es = M3.es->M0.pending x false = q:=by
  intro M0 h;unfold PMem.pending;rw [h];refine find_only (x:=⟨true,true,x,false,z,0⟩) (by rw [g3]; simp) (by simp [isPd]) ?_;intro j en hj hp;rw [g3] at hj;by_cases h1 : q = j
  ·exact h1.symm
  ·rw [if_neg h1] at hj
   have:=hc en (List.mem_of_getElem? hj)
   simp [isPd,this] at hp
 have q3 : M3.es[q]? = some ⟨true,true,x,false,z,0⟩:=by rw [g3]; simp
 have s7:=run_lead (P:=P) (t:=t) (M:=M4) (c:=c + 1) (sl:=sl) (k:={ k with locks:=0 + 1 + 1,tsrc:=x,tside:=false,ans:={ did:=true,stamp:=c + 1,value:=nb.value },next:=10 }) hi hk' rfl;simp only at s7;rw [lead_ok (p2 M4 h4e) (by rw [h4e]; exact q3) hx4 hxl] at s7;obtain ⟨M5,hM5⟩ : ∃ M5,M5 = M4.modN x (fun w=>{ w with leads:=upd w.leads false (z : Int) }):=⟨_,rfl⟩;rw [<- hM5] at s7;have hT5:=hT4.modN x (fun w=>{ w with leads:=upd w.leads false (z : Int) });rw [<- hM5] at hT5;have h5e : M5.es = M3.es:=by rw [hM5,modN_es]; exact h4e
 have s8:=run_stamp (P:=P) (t:=t) (M:=M5) (c:=c + 1) (sl:=sl) (k:={ k with locks:=0 + 1 + 1,tsrc:=x,tside:=false,ans:={ did:=true,stamp:=c + 1,value:=nb.value },next:=11 }) hi hk' rfl;simp only at s8;rw [stamp_ok (p2 M5 h5e) (by rw [h5e]; exact q3)] at s8;obtain ⟨M6,hM6⟩ : ∃ M6 : PMem,M6 = { M5 with es:=M5.es.set q ⟨true,false,x,false,z,c + 1⟩ }:=⟨_,rfl⟩;rw [<- hM6] at s8;have hT6:=hT5.es (M5.es.set q ⟨true,false,x,false,z,c + 1⟩);rw [<- hM6] at hT6;have s9:=run_unlock2 (P:=P) (t:=t) (M:=M6) (c:=c + 1) (sl:=sl) (k:={ k with locks:=0 + 1 + 1,tsrc:=x,tside:=false,ans:={ did:=true,stamp:=c + 1,value:=nb.value },next:=12 }) hi h0 hk rfl rfl;simp only at s9;have hT7:=(hT6.unlock i).modN y (fun w=>{ w with retired:=true,retiredAt:=c + 1 });obtain ⟨M7,hM7⟩ : ∃ M7,M7 = (M6.unlock i).modN y (fun w=>{ w with retired:=true,retiredAt:=c + 1 }):=⟨_,rfl⟩;rw [<- hM7] at hT7;rw [show (M6.unlock i).retire k.ahead (c + 1) = M7 by rw [ha,hM7]; rfl] at s9;have hrun:=(((((((s1.trans s2).trans s3).trans s4).trans s5).trans s6).trans s7).trans s8).trans s9;rw [show 1 + 1 + 1 + 1 + 1 + 1 + 1 + 1 + 1 = 9 from rfl] at hrun;refine ⟨q,e1,M7,_,hq1,hu1,hrun,rfl,rfl,?_,?_⟩
 ·intro j;have h7 : M7.es = M5.es.set q ⟨true,false,x,false,z,c + 1⟩:=by rw [hM7,modN_es]; show M6.es = _; rw [hM6]
  rw [h7,h5e];by_cases h1 : q = j
  ·subst h1;rw [List.getElem?_set_self (List.getElem?_eq_some_iff.1 q3).1]; simp
  ·rw [List.getElem?_set_ne h1,g3];simp [h1]
 ·intro j;rw [hT7 j];by_cases h1 : y = j
  ·subst h1;rw [hb];simp [hne,unlocked,hbu,<- hbh]
  ·by_cases h2 : x = j
   ·subst h2;rw [hx];simp [h1,unlocked,hxu,<- hxh]
   ·simp only [h1,h2,if_false];cases hy : M.ns[j]? with
    | none=>rfl
    | some w =>
     simp only [Option.map_some,Option.some.injEq];unfold unlocked;split
     ·rename_i hcc
      simp only [Bool.and_eq_true,beq_iff_eq] at hcc
      have:=hu w (List.mem_of_getElem? hy) hcc.1
      omega
     ·rfl
end
end
section
section
variable {M M1 : PMem} {P : PSt} {i : Nat} {t : PThread} {c sl : Int} {k : PWork} {g : Nat->PNode->PNode}
structure Locked (M M1 : PMem) (i : Nat) (g : Nat->PNode->PNode) : Prop where
 turns : Turns M M1 g
 es : M1.es = M.es
 one : ∀ (j : Nat) y,M.ns[j]? = some y->g j y = y\/(y.used = true/\g j y = { y with holder:=(i : Int) })
theorem Locked.room (h : Locked M M1 i g) : M1.room = M.room:=h.turns.room h.es (fun j y hy=>by rcases h.one j y hy with h | ⟨_,h⟩ <;> rw [h])
theorem Locked.get (h : Locked M M1 i g) {x : Nat} {nd : PNode} (hx : M.ns[x]? = some nd) : M1.ns[x]? = some nd\/M1.ns[x]? = some { nd with holder:=(i : Int) }:=by
 rw [h.turns x,hx];rcases h.one x nd hx with h | ⟨_,h⟩
 ·left; simp [h]
 ·right; simp [h]
theorem unlocked_one (hu : ∀ nd ∈ M.ns,nd.used = true->nd.holder = -1) {j : Nat} {y y' : PNode} (hy : M.ns[j]? = some y) (h : y' = y\/(y.used = true/\y' = { y with holder:=(i : Int) })) : unlocked i y' = y:=by
 rcases h with rfl | ⟨h1,rfl⟩
 ·unfold unlocked;split
  ·rename_i hc
   simp only [Bool.and_eq_true,beq_iff_eq] at hc
   have:=hu y' (List.mem_of_getElem? hy) hc.1
   omega
  ·rfl
 ·have:=hu y (List.mem_of_getElem? hy) h1
  simp only [unlocked,h1,beq_self_eq_true,Bool.and_self,if_true];rw [<- this,<- h1]
theorem Locked.unlock (h : Locked M M1 i g) (hu : ∀ nd ∈ M.ns,nd.used = true->nd.holder = -1) : M1.unlock i = M :=
 Turns.same (h.turns.unlock i) h.es (fun j y hy=>unlocked_one hu hy (h.one j y hy))
theorem run_pre (hi : i < P.ts.length) (h0 : P.kind = 0) (hk : k.kind = 1\/k.kind = 2) (hn : k.next = 5) (hl : k.locks = 0) {x y : Nat} {nd nb : PNode} (hst : k.stand = x) (ha : k.ahead = y) (hx : M.ns[x]? = some nd) (hxu : nd.used = true) (hxd : nd.dead = false) (hxh : nd.holder = -1) (hxl : nd.links = 1) (hle : nd.leads false = y)
  (hb : M.ns[y]? = some nb) (hbu : nb.used = true) (hbd : nb.dead = false) (hbh : nb.holder = -1) (hne : x≠y) (hm : (nb.key == k.key) = (k.kind == 2)) :
  ∃ (m l : Nat) (M1 : PMem) (g : Nat->PNode->PNode),m<=3/\Locked M M1 i g/\Run (st P i t M c sl k) i m (st P i t M1 c sl { k with locks:=l,next:=7 }):=by
 have hT1:=(Turns.refl M).modN x (fun y=>{ y with holder:=(i : Int) });have one1 : ∀ (j : Nat) w,M.ns[j]? = some w->(if x = j then { w with holder:=(i : Int) } else w) = w\/(w.used = true/\(if x = j then { w with holder:=(i : Int) } else w) = { w with holder:=(i : Int) }):=by
  intro j w hw;by_cases h1 : x = j
  ·subst h1;rw [hx] at hw;obtain rfl:=Option.some.inj hw;right; simp [hxu]
  ·left; simp [h1]
 obtain ⟨M1,hM1⟩ : ∃ M1,M1 = M.modN x (fun y=>{ y with holder:=(i : Int) }):=⟨_,rfl⟩;rw [<- hM1] at hT1;have he1 : M1.es = M.es:=by rw [hM1]; exact modN_es _ _
 have hx1 : M1.ns[x]? = some { nd with holder:=i }:=by rw [hT1,hx]; simp
 have hb1 : M1.ns[y]? = some nb:=by rw [hT1,hb]; simp [hne]
 rcases hk with hk | hk
 ·have hto : (st P i t M c sl k).takesOut k = false:=by unfold PSt.takesOut; rw [hk]; rfl
  have s1:=run_lock1 (P:=P) (t:=t) (c:=c) (sl:=sl) hi (.inl hk) hn hl hst hx hxh hto;rw [<- hM1] at s1;have s2:=run_check (P:=P) (t:=t) (M:=M1) (c:=c) (sl:=sl) (k:={ k with locks:=1,next:=6 }) hi h0 (.inl hk) rfl hst ha hx1 hxd hxl hle hb1 hbd (by show (nb.key == k.key)≠(k.kind == 1); rw [hm,hk]; decide);exact ⟨1 + 1,1,M1,_,by omega,⟨hT1,he1,one1⟩,s1.trans s2⟩
 ·have hbk : nb.key = k.key:=by rw [hk] at hm; simpa using hm
  have hwant : ∀ (M0 : PMem) (k0 : PWork),k0.kind = 2->k0.ahead = y->k0.stand = x->k0.key = k.key->M0.ns[y]? = some nb->(st P i t M0 c sl k0).wanted k0 = [(x : Int),(y : Int)]:=by
   intro M0 k0 q1 q2 q3 q4 h1;unfold PSt.wanted PSt.takesOut;rw [meets_of (st P i t M0 c sl k0) k0 q2 h1,q1,hbk,q4,q2,q3]
   simp
   intro hh;exact absurd (show P.kind = 1 from hh) (by omega)
  have s1:=run_lockAt (P:=P) (t:=t) (M:=M) (c:=c) (sl:=sl) (k:=k) hi (.inr hk) hn (hwant M k hk ha hst rfl hb) (x:=x) (by rw [hl]; rfl) hx hxh;rw [hl] at s1;simp only [List.length_cons,List.length_nil] at s1;rw [if_neg (by omega),<- hM1] at s1;have s2:=run_lockAt (P:=P) (t:=t) (M:=M1) (c:=c) (sl:=sl) (k:={ k with locks:=0 + 1,next:=5 }) hi (.inr hk) rfl (hwant M1 { k with locks:=0 + 1,next:=5 } hk ha hst rfl hb1) (x:=y) rfl hb1 hbh;simp only [List.length_cons,List.length_nil] at s2;rw [if_pos (by omega)] at s2;obtain ⟨M2,hM2⟩ : ∃ M2,M2 = M1.modN y (fun y=>{ y with holder:=(i : Int) }):=⟨_,rfl⟩;have hT2:=hT1.modN y (fun y=>{ y with holder:=(i : Int) });rw [<- hM2] at hT2 s2;have he2 : M2.es = M.es:=by rw [hM2,modN_es]; exact he1
  have hx2 : M2.ns[x]? = some { nd with holder:=i }:=by rw [hT2,hx]; simp [Ne.symm hne]
  have hb2 : M2.ns[y]? = some { nb with holder:=i }:=by rw [hT2,hb]; simp [hne]
  have s3:=run_check (P:=P) (t:=t) (M:=M2) (c:=c) (sl:=sl) (k:={ k with locks:=0 + 1 + 1,next:=6 }) hi h0 (.inr hk) rfl hst ha hx2 hxd hxl hle hb2 hbd (by show (nb.key == k.key)≠(k.kind == 1); rw [hk,hbk]; simp);refine ⟨1 + 1 + 1,0 + 1 + 1,M2,_,by omega,⟨hT2,he2,?_⟩,(s1.trans s2).trans s3⟩;intro j w hw;by_cases h1 : y = j
  ·subst h1;rw [hb] at hw;obtain rfl:=Option.some.inj hw;right; simp [hbu,hne]
  ·simp only [h1,if_false];exact one1 j w hw
theorem run_nofit (hi : i < P.ts.length) (hk : k.kind = 1\/k.kind = 2) (hn : k.next = 7) (hL : Locked M M1 i g) (hu : ∀ nd ∈ M.ns,nd.used = true->nd.holder = -1) (hr : M.room.1 < ((st P i t M1 c sl k).needs k.kind).1\/M.room.2 < ((st P i t M1 c sl k).needs k.kind).2) :
  Run (st P i t M1 c sl k) i 2 (st P i t M c sl { k with ans:={ err:=7 },locks:=0,next:=13 }):=by
 have s1:=run_full (P:=P) (t:=t) (M:=M1) (c:=c) (sl:=sl) hi hk hn (by rw [hL.room]; exact hr);have s2:=run_unlock (P:=P) (t:=t) (M:=M1) (c:=c) (sl:=sl) (k:={ k with ans:={ err:=7 },next:=12 }) hi hk rfl (by simp);rw [hL.unlock hu] at s2;exact s1.trans s2
end
end
section
section
variable {M M1 : PMem} {P : PSt} {i : Nat} {t : PThread} {c sl : Int} {k : PWork} {g : Nat->PNode->PNode}
theorem free_ok {f : Nat} {nf : PNode} (h : M.ns[f]? = some nf) (h0 : f≠0) (h1 : f≠1) : M.free f = { ns:=M.ns.set f PNode.zero,es:=M.es.map fun e=>if ofNode f e then PEntry.zero else e }:=by
 unfold PMem.free;rw [hasNode_of h];rw [if_pos (by simp; omega)]
 simp
theorem run_clock1 (hi : i < P.ts.length) (h0 : P.kind = 0) (hk : k.kind = 1) (hn : k.next = 7) (hm : k.made = []) (hL : Locked M M1 i g) (hu : ∀ nd ∈ M.ns,nd.used = true->nd.holder = -1) (hc : ∀ en ∈ M.es,en.pending = false) {x y : Nat} {nd : PNode} (hst : k.stand = x) (ha : k.ahead = y) (hx : M.ns[x]? = some nd) (hxl : nd.links = 1) (hxu : nd.used = true)
  (hsrc : ∀ en ∈ M.es,en.used = true->∃ (x : Nat) (nd : PNode),en.src = x/\M.ns[x]? = some nd/\nd.used = true) (hz : ∃ nd,M.ns[0]? = some nd/\nd.used = true) (ho : ∃ nd,M.ns[1]? = some nd/\nd.used = true) (r1 : 1<=M.room.1) (r2 : 2<=M.room.2) (hcl : P.limit<=c) :
  ∃ (f q1 q2 : Nat) (nf : PNode) (e1 e2 : PEntry) (M' : PMem) (k' : PWork),M.ns[f]? = some nf/\nf.used = false/\M.es[q1]? = some e1/\e1.used = false/\M.es[q2]? = some e2/\e2.used = false/\q1≠q2 /\
   Run (st P i t M1 c sl k) i 3 (st P i t M' c sl k')/\k'.next = 13/\k'.ans = { err:=8 } /\
   (∀ j,M'.es[j]? = if q1 = j\/q2 = j then some PEntry.zero else M.es[j]?)/\(∀ j,M'.ns[j]? = if f = j then some PNode.zero else M.ns[j]?):=by
 obtain ⟨nd1,hx1,hl1,hu1⟩ : ∃ nd1,M1.ns[x]? = some nd1/\nd1.links = 1/\nd1.used = true:=by
  rcases hL.get hx with h | h
  ·exact ⟨_,h,hxl,hxu⟩
  ·exact ⟨_,h,hxl,hxu⟩
 obtain ⟨f,q1,q2,nf,e1,e2,hnf,hfu,he1,hue1,he2,hue2,hq,hfx,s1⟩:=run_prep1 (P:=P) (t:=t) (M:=M1) (c:=c) (sl:=sl) hi h0 hk hn hm hst ha hx1 hl1 hu1 (by rw [hL.room]; exact r1) (by rw [hL.room]; exact r2);rw [hL.es] at he1 he2 s1;have hnf0 : M.ns[f]? = some nf:=by
  have:=hL.turns f
  rw [hnf] at this;cases hy : M.ns[f]? with
  | none=>rw [hy] at this; simp at this
  | some y' =>
   rw [hy] at this;simp only [Option.map_some,Option.some.injEq] at this;rcases hL.one f y' hy with h | ⟨h,h'⟩
   ·rw [this,h]
   ·rw [h'] at this;rw [this] at hfu;simp only at hfu;rw [h] at hfu;cases hfu
 have hused : ∀ (w : Nat),(∃ nd,M.ns[w]? = some nd/\nd.used = true)->f≠w:=by
  rintro w ⟨nd',h1,h2⟩ rfl;rw [hnf0] at h1;obtain rfl:=Option.some.inj h1;rw [hfu] at h2;cases h2
 have l1:=(List.getElem?_eq_some_iff.1 he1).1;have l2:=(List.getElem?_eq_some_iff.1 he2).1;obtain ⟨M2,hM2⟩ : ∃ M2 : PMem,M2 = ⟨M1.ns.set f (linked false y (PNode.made k.key k.value)),(M.es.set q1 ⟨true,true,f,false,y,0⟩).set q2 ⟨true,true,x,false,f,0⟩⟩:=⟨_,rfl⟩;rw [<- hM2] at s1;have g2 : ∀ j,M2.es[j]? = if q2 = j then some ⟨true,true,x,false,f,0⟩ else if q1 = j then some ⟨true,true,f,false,y,0⟩ else M.es[j]?:=by
  intro j;rw [hM2];simp only [List.getElem?_set,List.length_set];by_cases h1 : q2 = j
  ·subst h1; simp [l2]
  ·by_cases h2 : q1 = j
   ·subst h2; simp [h1,l1]
   ·simp [h1,h2]
 have p2 : M2.pending x false = q2:=by
  refine find_only (x:=⟨true,true,x,false,f,0⟩) (by rw [g2]; simp) (by simp [isPd]) ?_;intro j en hj hp;rw [g2] at hj;by_cases h1 : q2 = j
  ·exact h1.symm
  ·rw [if_neg h1] at hj;by_cases h2 : q1 = j
   ·rw [if_pos h2] at hj;obtain rfl:=Option.some.inj hj;simp [isPd] at hp;omega
   ·rw [if_neg h2] at hj
    have:=hc en (List.mem_of_getElem? hj)
    simp [isPd,this] at hp
 have q2' : M2.es[q2]? = some ⟨true,true,x,false,f,0⟩:=by rw [g2]; simp
 have hn2 : M2.ns[f]? = some (linked false y (PNode.made k.key k.value)):=by
  rw [hM2];show (M1.ns.set f _)[f]? = _;rw [List.getElem?_set_self (List.getElem?_eq_some_iff.1 hnf).1]
 have s2:=run_take0 (P:=P) (t:=t) (M:=M2) (c:=c) (sl:=sl) (k:={ k with made:=[(f : Int)],tsrc:=x,tside:=false,next:=8 }) hi (.inl hk) rfl hcl;simp only at s2;obtain ⟨M3,hM3⟩ : ∃ M3 : PMem,M3 = { ns:=M2.ns.set f PNode.zero,es:=(M2.es.set q2 PEntry.zero).map fun e=>if ofNode f e then PEntry.zero else e }:=⟨_,rfl⟩;have hfree : (M2.unpend x false).frees [(f : Int)] = M3:=by
  rw [unpend_ok p2 q2'];show ({ M2 with es:=M2.es.set q2 PEntry.zero } : PMem).free f = M3;rw [free_ok (M:={ M2 with es:=M2.es.set q2 PEntry.zero }) hn2 (hused 0 hz) (hused 1 ho),hM3]
 rw [hfree] at s2;have s3:=run_unlock (P:=P) (t:=t) (M:=M3) (c:=c) (sl:=sl) (k:={ k with made:=[(f : Int)],tsrc:=x,tside:=false,ans:={ err:=8 },next:=12 }) hi (.inl hk) rfl (by simp);have hrun:=(s1.trans s2).trans s3;rw [show 1 + 1 + 1 = 3 from rfl] at hrun;have hT2:=(hL.turns.set f (linked false y (PNode.made k.key k.value))).es M2.es;have hT3:=(hT2.set f PNode.zero).es M3.es;have hM3' : M3 = { ns:=(M1.ns.set f (linked false y (PNode.made k.key k.value))).set f PNode.zero,es:=M3.es }:=by rw [hM3,hM2]
 refine ⟨f,q1,q2,nf,e1,e2,M3.unlock i,_,hnf0,hfu,he1,hue1,he2,hue2,hq,hrun,rfl,rfl,?_,?_⟩
 ·intro j;show M3.es[j]? = _;rw [hM3];simp only [List.getElem?_map];by_cases h1 : q2 = j
  ·subst h1;rw [List.getElem?_set_self (List.getElem?_eq_some_iff.1 q2').1];simp [ofNode,PEntry.zero]
  ·rw [List.getElem?_set_ne h1,g2];by_cases h2 : q1 = j
   ·subst h2; simp [h1,ofNode]
   ·simp only [h1,h2,if_false,or_self];cases he : M.es[j]? with
    | none=>rfl
    | some en =>
     simp only [Option.map_some,Option.some.injEq];rw [if_neg];intro hof;simp only [ofNode,Bool.and_eq_true,beq_iff_eq] at hof;obtain ⟨w,nd',h3,h4,h5⟩:=hsrc en (List.mem_of_getElem? he) hof.1
     have:=hused w ⟨nd',h4,h5⟩
     omega
 ·intro j;have h3:=(hT3.unlock i) j;have hus : M3.unlock i = PMem.unlock { ns:=(M1.ns.set f (linked false y (PNode.made k.key k.value))).set f PNode.zero,es:=M3.es } i:=by rw [<- hM3']
  rw [hus];refine h3.trans ?_;by_cases h1 : f = j
  ·subst h1;rw [hnf0];simp [unlocked,PNode.zero]
  ·simp only [h1,if_false];cases hy : M.ns[j]? with
   | none=>rfl
   | some w =>
    simp only [Option.map_some,Option.some.injEq];exact unlocked_one hu hy (hL.one j w hy)
theorem run_clock2 (hi : i < P.ts.length) (h0 : P.kind = 0) (hk : k.kind = 2) (hn : k.next = 7) (hm : k.made = []) (hL : Locked M M1 i g) (hu : ∀ nd ∈ M.ns,nd.used = true->nd.holder = -1) (hc : ∀ en ∈ M.es,en.pending = false) {x y z : Nat} {nd nb : PNode} (hst : k.stand = x) (ha : k.ahead = y) (hx : M.ns[x]? = some nd) (hxl : nd.links = 1) (hb : M.ns[y]? = some nb) (hbl : nb.links = 1) (hbz : nb.leads false = z) (r2 : 1<=M.room.2) (hcl : P.limit<=c) :
  ∃ (q : Nat) (e1 : PEntry) (M' : PMem) (k' : PWork),M.es[q]? = some e1/\e1.used = false/\Run (st P i t M1 c sl k) i 3 (st P i t M' c sl k')/\k'.next = 13/\k'.ans = { err:=8 } /\
   (∀ j,M'.es[j]? = if q = j then some PEntry.zero else M.es[j]?)/\M'.ns = M.ns:=by
 obtain ⟨nd1,hx1,hl1⟩ : ∃ nd1,M1.ns[x]? = some nd1/\nd1.links = 1:=by
  rcases hL.get hx with h | h
  ·exact ⟨_,h,hxl⟩
  ·exact ⟨_,h,hxl⟩
 obtain ⟨nb1,hb1,hbl1,hbz1⟩ : ∃ nb1,M1.ns[y]? = some nb1/\nb1.links = 1/\nb1.leads false = z:=by
  rcases hL.get hb with h | h
  ·exact ⟨_,h,hbl,hbz⟩
  ·exact ⟨_,h,hbl,hbz⟩
 obtain ⟨q,e1,he1,hu1,s1⟩:=run_prep2 (P:=P) (t:=t) (M:=M1) (c:=c) (sl:=sl) hi h0 hk hn hst ha hx1 hl1 hb1 hbl1 hbz1 (by rw [hL.room]; exact r2);rw [hL.es] at he1 s1;have hql:=(List.getElem?_eq_some_iff.1 he1).1;obtain ⟨M2,hM2⟩ : ∃ M2 : PMem,M2 = { M1 with es:=M.es.set q ⟨true,true,x,false,z,0⟩ }:=⟨_,rfl⟩;rw [<- hM2] at s1;have g2 : ∀ j,M2.es[j]? = if q = j then some ⟨true,true,x,false,z,0⟩ else M.es[j]?:=by
  intro j;rw [hM2];show (M.es.set q _)[j]? = _;by_cases h1 : q = j
  ·subst h1; simp [hql]
  ·rw [List.getElem?_set_ne h1]; simp [h1]
 have q2' : M2.es[q]? = some ⟨true,true,x,false,z,0⟩:=by rw [g2]; simp
 have p2 : M2.pending x false = q:=by
  refine find_only (x:=⟨true,true,x,false,z,0⟩) q2' (by simp [isPd]) ?_;intro j en hj hp;rw [g2] at hj;by_cases h1 : q = j
  ·exact h1.symm
  ·rw [if_neg h1] at hj
   have:=hc en (List.mem_of_getElem? hj)
   simp [isPd,this] at hp
 have s2:=run_take0 (P:=P) (t:=t) (M:=M2) (c:=c) (sl:=sl) (k:={ k with tsrc:=x,tside:=false,next:=8 }) hi (.inr hk) rfl hcl;simp only at s2;obtain ⟨M3,hM3⟩ : ∃ M3 : PMem,M3 = { M2 with es:=M2.es.set q PEntry.zero }:=⟨_,rfl⟩;rw [hm,show (M2.unpend x false).frees [] = M3 by rw [unpend_ok p2 q2',hM3]; rfl] at s2;have s3:=run_unlock (P:=P) (t:=t) (M:=M3) (c:=c) (sl:=sl) (k:={ k with made:=[],tsrc:=x,tside:=false,ans:={ err:=8 },next:=12 }) hi (.inr hk) rfl (by simp);rw [hm] at s1;have hrun:=(s1.trans s2).trans s3;rw [show 1 + 1 + 1 = 3 from rfl] at hrun;have hns : (M3.unlock i).ns = M.ns:=by
  have:=congrArg PMem.ns (hL.unlock hu)
  rw [<- this,hM3,hM2]; rfl
 refine ⟨q,e1,M3.unlock i,_,he1,hu1,hrun,rfl,rfl,?_,hns⟩;intro j;show M3.es[j]? = _;rw [hM3];show (M2.es.set q _)[j]? = _;by_cases h1 : q = j
 ·subst h1;rw [List.getElem?_set_self (List.getElem?_eq_some_iff.1 q2').1]; simp
 ·rw [List.getElem?_set_ne h1,g2];simp [h1]
end
end
end Go.Proofs.YtfccelbmacjifaaGreat
