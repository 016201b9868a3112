import Derived.Test.YtfccelbmacjifaaGreatP0
import Derived.Test.YtfccelbmacjifaaGreatP28
set_option linter.unusedSimpArgs false
set_option maxRecDepth 100000
set_option maxHeartbeats 4000000
namespace Go.Proofs.YtfccelbmacjifaaGreat
section
section
variable {M : PMem} {c : Int} {ch : List Spot3}
theorem QM.swept (h : QM M c ch) : QM (M.swept c) c ch:=by
 obtain ⟨_,gns,ges,gkeep,gcalm⟩:=h.sweptGet;have ns1 : ∀ (j : Nat) nd,M.ns[j]? = some nd->nd.retired = false->(M.swept c).ns[j]? = some nd:=by
  intro j nd hj hr;rw [gns,if_neg]
  ·exact hj
  ·rintro ⟨x,h1,h2⟩;rw [hj] at h1;obtain rfl:=Option.some.inj h1;rw [hr] at h2; cases h2
 have ns2 : ∀ (j : Nat) nd,(M.swept c).ns[j]? = some nd->nd = PNode.zero\/(M.ns[j]? = some nd/\nd.retired = false):=by
  intro j nd hj;rw [gns] at hj;by_cases hx : ∃ x,M.ns[j]? = some x/\x.retired = true
  ·rw [if_pos hx] at hj; exact .inl (Option.some.inj hj).symm
  ·rw [if_neg hx] at hj;refine .inr ⟨hj,?_⟩;cases hr : nd.retired with
   | false=>rfl
   | true=>exact absurd ⟨nd,hj,hr⟩ hx
 have esm : ∀ en ∈ (M.swept c).es,en.used = true->en ∈ M.es:=by
  intro en he hu;obtain ⟨j,hj⟩:=mem_get he;exact List.mem_of_getElem? (ges j en hj hu).1
 refine ⟨?_,?_,?_,h.sorted,h.keys,h.nodup,?_,?_,?_,gcalm,?_,?_⟩
 ·obtain ⟨ne,z1,z2,z3,z4,z5⟩:=h.end_;exact ⟨ne,ns1 _ _ z1 z4,z2,z3,z4,z5⟩
 ·intro q hq;obtain ⟨nd,p1,p2,p3,p4,p5⟩:=h.live q hq;exact ⟨nd,ns1 _ _ p1 p4,p2,p3,p4,p5⟩
 ·intro q hq;obtain ⟨en,p1,p2,p3,p4,p5⟩:=h.newest q hq;obtain ⟨nd,l1,_,_,l4,_⟩:=h.live q hq;obtain ⟨j,hj⟩:=mem_get p1;refine ⟨en,List.mem_of_getElem? (gkeep j en hj p2 (fun e' he hu hs=>p5 e' he hu (by rw [hs]; exact p3)) ?_),p2,p3,p4,fun e' he hu hs=>p5 e' (esm e' he hu) hu hs⟩;rintro ⟨n,x,h1,h2,h3⟩;obtain rfl : n = q.1.1:=by omega
  rw [l1] at h2;obtain rfl:=Option.some.inj h2;rw [l4] at h3; cases h3
 ·intro i nd hi hu;rcases ns2 i nd hi with rfl | ⟨h1,h2⟩
  ·cases hu
  ·exact h.used i nd h1 hu
 ·intro nd hm hu;obtain ⟨j,hj⟩:=mem_get hm;rcases ns2 j nd hj with rfl | ⟨_,h2⟩
  ·rfl
  ·exact h2
 ·intro nd hm hu;obtain ⟨j,hj⟩:=mem_get hm;rcases ns2 j nd hj with rfl | ⟨h1,_⟩
  ·cases hu
  ·exact h.hold nd (List.mem_of_getElem? h1) hu
 ·intro en hm hu;obtain ⟨j,hj⟩:=mem_get hm;obtain ⟨g1,_,g3⟩:=ges j en hj hu;obtain ⟨p1,p2,p3,x,nd,p4,p5,p6,p7⟩:=h.ents en (List.mem_of_getElem? g1) hu;refine ⟨p1,p2,p3,x,nd,p4,p5,ns1 _ _ p6 ?_,p7⟩;cases hr : nd.retired with
  | false=>rfl
  | true=>exact absurd ⟨x,nd,p4,p6,hr⟩ g3
 ·intro i j a b hi hj ua ub hs ht;exact h.uniq i j a b (ges i a hi ua).1 (ges j b hj ub).1 ua ub hs ht
theorem count_idx {α : Type} (p : α->Bool) (l : List α) (K : List Nat) (hK : K.Nodup) (hm : ∀ i : Nat,i ∈ K ↔ ∃ x,l[i]? = some x/\p x = true) : count p l = K.length:=by
 have key : ∀ k,k<=l.length->((List.range k).filter (fun i=>(l[i]?.map p).getD false)).length = count p (l.take k):=by
  intro k
  induction k with
  | zero=>intro _; simp [count]
  | succ k ih =>
   intro hk;have hx : l[k]? = some l[k]:=List.getElem?_eq_getElem (by omega);rw [List.range_succ,List.filter_append,List.length_append,ih (by omega),count_take p l k _ hx]
   congr 1
   simp only [List.filter_cons,List.filter_nil,hx,Option.map_some,Option.getD_some];cases p l[k] <;> simp
 have h1:=key l.length (Nat.le_refl _);rw [List.take_length] at h1;rw [<- h1];refine List.Perm.length_eq ?_;rw [List.perm_ext_iff_of_nodup (List.nodup_range.filter _) hK];intro i;rw [hm i,List.mem_filter,List.mem_range];constructor
 ·rintro ⟨h2,h3⟩;rw [List.getElem?_eq_getElem h2] at h3 ⊢;exact ⟨_,rfl,by simpa using h3⟩
 ·rintro ⟨x,h2,h3⟩;refine ⟨(List.getElem?_eq_some_iff.1 h2).1,?_⟩;rw [h2]; simpa using h3
theorem count_neg {α : Type} (p : α->Bool) (l : List α) : count (fun x=>!p x) l + count p l = l.length:=by
 induction l with
 | nil=>rfl
 | cons x r ih =>
  unfold count at ih ⊢;simp only [List.filter_cons,List.length_cons];cases p x <;> simp <;> omega
theorem QM.sweptNodes (h : QM M c ch) : (M.swept c).room.1 = (M.ns.length : Int) - (ch.length + 2):=by
 have hq:=h.swept;obtain ⟨⟨hl,_⟩,gns,_⟩:=h.sweptGet;have hcnt:=count_idx (fun x : PNode=>x.used) (M.swept c).ns (0 :: 1 :: ch.map (·.1)) h.nodup (by
  intro i;constructor
  ·intro hi;rcases List.mem_cons.1 hi with rfl | hi
   ·obtain ⟨nd,p1,p2,_⟩:=hq.live _ (mem_edges_self anchor3 ch);exact ⟨nd,p1,p2⟩
   ·rcases List.mem_cons.1 hi with rfl | hi
    ·obtain ⟨ne,z1,z2,_⟩:=hq.end_;exact ⟨ne,z1,z2⟩
    ·obtain ⟨p,hp,rfl⟩:=List.mem_map.1 hi;have hz : p ∈ (edges anchor3 ch).map (fun q=>q.1):=by rw [edges_src]; exact List.mem_cons_of_mem _ hp
     obtain ⟨q,hq',hqe⟩:=List.mem_map.1 hz;obtain ⟨nd,p1,p2,_⟩:=hq.live q hq';rw [hqe] at p1;exact ⟨nd,p1,p2⟩
  ·rintro ⟨x,h1,h2⟩;rcases hq.used i x h1 h2 with h3 | h3
   ·exact h3
   ·rw [gns] at h1;by_cases hx : ∃ y,M.ns[i]? = some y/\y.retired = true
    ·rw [if_pos hx] at h1;obtain rfl:=Option.some.inj h1;cases h2
    ·rw [if_neg hx] at h1;exact absurd ⟨x,h1,h3.1⟩ hx)
 have hn:=count_neg (fun x : PNode=>x.used) (M.swept c).ns;unfold PMem.room;simp only;simp only [List.length_cons,List.length_map] at hcnt;rw [hl] at hn;omega
theorem choose_idx {α : Type} (Rel : α->Nat->Prop) : ∀ l : List α,(∀ q ∈ l,∃ j,Rel q j)->l.Pairwise (fun q q'=>∀ j,Rel q j->¬ Rel q' j)->∃ K : List Nat,K.length = l.length/\K.Nodup/\(∀ j ∈ K,∃ q ∈ l,Rel q j)/\∀ q ∈ l,∃ j ∈ K,Rel q j
 | [],_,_=>⟨[],rfl,List.nodup_nil,by simp,by simp⟩
 | q :: r,h,hp=>by
  obtain ⟨p1,p2⟩:=List.pairwise_cons.1 hp;obtain ⟨K,k1,k2,k3,k4⟩:=choose_idx Rel r (fun q' hq=>h q' (by simp [hq])) p2;obtain ⟨j,hj⟩:=h q (by simp);refine ⟨j :: K,by simp [k1],List.nodup_cons.2 ⟨?_,k2⟩,?_,?_⟩
  ·intro hm;obtain ⟨q',hq',hr⟩:=k3 j hm;exact p1 q' hq' j hj hr
  ·intro i hi;rcases List.mem_cons.1 hi with rfl | hi
   ·exact ⟨q,by simp,hj⟩
   ·obtain ⟨q',hq',hr⟩:=k3 i hi;exact ⟨q',by simp [hq'],hr⟩
  ·intro q' hq';rcases List.mem_cons.1 hq' with rfl | hq'
   ·exact ⟨j,by simp,hj⟩
   ·obtain ⟨i,hi,hr⟩:=k4 q' hq';exact ⟨i,by simp [hi],hr⟩
theorem edges_len (l : List Spot3) (x : Spot3) : (edges x l).length = l.length + 1:=by
 have:=congrArg List.length (edges_src l x)
 simpa using this
theorem QM.sweptEnts (h : QM M c ch) : (M.swept c).room.2 = (M.es.length : Int) - (ch.length + 1):=by
 have hq:=h.swept;obtain ⟨⟨_,hl⟩,gns,ges,_⟩:=h.sweptGet;have uni : ∀ (i j : Nat) a b,(M.swept c).es[i]? = some a->(M.swept c).es[j]? = some b->a.used = true->b.used = true->a.src = b.src->i = j:=by
  intro i j a b hi hj ua ub hs;obtain ⟨a1,a2,_⟩:=ges i a hi ua;obtain ⟨b1,b2,_⟩:=ges j b hj ub;have e1:=a2 b (List.mem_of_getElem? b1) ub hs.symm;have e2:=b2 a (List.mem_of_getElem? a1) ua hs;exact h.uniq i j a b a1 b1 ua ub hs (by omega)
 have hnd : (edges anchor3 ch).Pairwise (fun q q'=>q.1.1≠q'.1.1):=by
  have h1 : ((edges anchor3 ch).map (fun q=>q.1.1)).Nodup:=by
   have : (edges anchor3 ch).map (fun q=>q.1.1) = 0 :: ch.map (·.1):=by
    have:=congrArg (List.map (fun s : Spot3=>s.1)) (edges_src ch anchor3)
    rw [List.map_map] at this;exact this
   rw [this];have hn:=h.nodup;simp only [List.nodup_cons,List.mem_cons] at hn ⊢;exact ⟨fun hh=>hn.1 (.inr hh),hn.2.2⟩
  exact List.pairwise_map.1 h1
 obtain ⟨K,k1,k2,k3,k4⟩:=choose_idx (fun (q : Spot3 × Nat) j=>∃ e,(M.swept c).es[j]? = some e/\e.used = true/\e.src = q.1.1) (edges anchor3 ch) (by
  intro q hq';obtain ⟨en,p1,p2,p3,_⟩:=hq.newest q hq';obtain ⟨j,hj⟩:=mem_get p1;exact ⟨j,en,hj,p2,p3⟩) (hnd.imp (by
  rintro q q' hne j ⟨e,h1,_,h3⟩ ⟨e',h1',_,h3'⟩;rw [h1] at h1';obtain rfl:=Option.some.inj h1';rw [h3] at h3';omega))
 have hcnt:=count_idx (fun x : PEntry=>x.used) (M.swept c).es K k2 (by
  intro i;constructor
  ·intro hi;obtain ⟨q,_,e,h1,h2,_⟩:=k3 i hi;exact ⟨e,h1,h2⟩
  ·rintro ⟨e,h1,h2⟩;obtain ⟨_,_,_,x,nd,p4,p5,p6,p7⟩:=hq.ents e (List.mem_of_getElem? h1) h2;have hx : x ∈ 0 :: ch.map (·.1):=by
    rcases hq.used x nd p6 p7 with h3 | h3
    ·rcases List.mem_cons.1 h3 with rfl | h3
     ·simp
     ·rcases List.mem_cons.1 h3 with h3 | h3
      ·exact absurd h3 p5
      ·simp [h3]
    ·rw [gns] at p6;by_cases hy : ∃ y,M.ns[x]? = some y/\y.retired = true
     ·rw [if_pos hy] at p6;obtain rfl:=Option.some.inj p6;cases p7
     ·rw [if_neg hy] at p6;exact absurd ⟨nd,p6,h3.1⟩ hy
   have hx2 : ∃ q ∈ edges anchor3 ch,q.1.1 = x:=by
    have hz : x ∈ (edges anchor3 ch).map (fun q=>q.1.1):=by
     have:=congrArg (List.map (fun s : Spot3=>s.1)) (edges_src ch anchor3)
     rw [List.map_map] at this;rw [show (edges anchor3 ch).map (fun q=>q.1.1) = 0 :: ch.map (·.1) from this];exact hx
    exact List.mem_map.1 hz
   obtain ⟨q,hq',hqx⟩:=hx2;obtain ⟨j,hj,e',h3,h4,h5⟩:=k4 q hq'
   have:=uni i j e e' h1 h3 h2 h4 (by rw [p4,h5,hqx])
   rw [this]; exact hj)
 have hn:=count_neg (fun x : PEntry=>x.used) (M.swept c).es;rw [k1,edges_len] at hcnt;unfold PMem.room;simp only;rw [hl] at hn;omega
end
end
section
section
variable {M M' : PMem}
theorem set_one {α : Type} {l l' : List α} {q : Nat} {e v : α} (he : l[q]? = some e) (h : ∀ j : Nat,l'[j]? = if q = j then some v else l[j]?) : l' = l.set q v:=by
 apply List.ext_getElem?;intro j;rw [h j];by_cases hj : q = j
 ·subst hj; rw [List.getElem?_set_self (List.getElem?_eq_some_iff.1 he).1]; simp
 ·rw [List.getElem?_set_ne hj]; simp [hj]
theorem set_two {α : Type} {l l' : List α} {q1 q2 : Nat} {e1 e2 v1 v2 : α} (hq : q1≠q2) (he1 : l[q1]? = some e1) (he2 : l[q2]? = some e2) (h : ∀ j : Nat,l'[j]? = if q2 = j then some v2 else if q1 = j then some v1 else l[j]?) : l' = (l.set q1 v1).set q2 v2:=by
 refine set_one (e:=e2) (by rw [List.getElem?_set_ne hq]; exact he2) ?_;intro j;rw [h j];by_cases h2 : q2 = j
 ·simp [h2]
 ·simp only [h2,if_false];by_cases h1 : q1 = j
  ·subst h1; rw [List.getElem?_set_self (List.getElem?_eq_some_iff.1 he1).1]; simp
  ·rw [List.getElem?_set_ne h1]; simp [h1]
theorem count_two {α : Type} (p : α->Bool) {l : List α} {q1 q2 : Nat} {e1 e2 v1 v2 : α} (hq : q1≠q2) (he1 : l[q1]? = some e1) (he2 : l[q2]? = some e2) : count p ((l.set q1 v1).set q2 v2) + ((if p e1 then 1 else 0) + (if p e2 then 1 else 0)) = count p l + ((if p v1 then 1 else 0) + (if p v2 then 1 else 0)):=by
 have h1:=count_set p l q1 e1 v1 he1;have h2:=count_set p (l.set q1 v1) q2 e2 v2 (by rw [List.getElem?_set_ne hq]; exact he2);omega
theorem room_put {f q1 q2 x : Nat} {nf nd NF ND : PNode} {e1 e2 F1 F2 : PEntry} (hnf : M.ns[f]? = some nf) (hfu : nf.used = false) (hx : M.ns[x]? = some nd) (hxu : nd.used = true) (hNF : NF.used = true) (hND : ND.used = true) (hfx : f≠x) (he1 : M.es[q1]? = some e1) (hu1 : e1.used = false) (he2 : M.es[q2]? = some e2) (hu2 : e2.used = false) (hq : q1≠q2) (h1 : F1.used = true) (h2 : F2.used = true)
  (ges : ∀ j : Nat,M'.es[j]? = if q2 = j then some F2 else if q1 = j then some F1 else M.es[j]?) (gns : ∀ j : Nat,M'.ns[j]? = if f = j then some NF else if x = j then some ND else M.ns[j]?) :
  M'.room.1 = M.room.1 - 1/\M'.room.2 = M.room.2 - 2/\M'.ns.length = M.ns.length/\M'.es.length = M.es.length:=by
 have ee:=set_two hq he1 he2 ges;have nn:=set_two (Ne.symm hfx) hx hnf gns;have c1:=count_two (fun e : PEntry=>!e.used) (v1:=F1) (v2:=F2) hq he1 he2;have c2:=count_two (fun e : PNode=>!e.used) (v1:=ND) (v2:=NF) (Ne.symm hfx) hx hnf;simp only [hu1,hu2,h1,h2,hfu,hxu,hNF,hND,Bool.not_false,Bool.not_true,if_true,Bool.false_eq_true,if_false] at c1 c2;unfold PMem.room;simp only;rw [ee,nn];refine ⟨by omega,by omega,by simp,by simp⟩
theorem room_del {q1 x y : Nat} {nd nb ND NB : PNode} {e1 F1 : PEntry} (hx : M.ns[x]? = some nd) (hxu : nd.used = true) (hy : M.ns[y]? = some nb) (hyu : nb.used = true) (hND : ND.used = true) (hNB : NB.used = true) (hxy : x≠y) (he1 : M.es[q1]? = some e1) (hu1 : e1.used = false) (h1 : F1.used = true)
  (ges : ∀ j : Nat,M'.es[j]? = if q1 = j then some F1 else M.es[j]?) (gns : ∀ j : Nat,M'.ns[j]? = if y = j then some NB else if x = j then some ND else M.ns[j]?) :
  M'.room.1 = M.room.1/\M'.room.2 = M.room.2 - 1/\M'.ns.length = M.ns.length/\M'.es.length = M.es.length:=by
 have ee:=set_one he1 ges;have nn:=set_two hxy hx hy gns;have c1:=count_set (fun e : PEntry=>!e.used) M.es q1 e1 F1 he1;have c2:=count_two (fun e : PNode=>!e.used) (v1:=ND) (v2:=NB) hxy hx hy;simp only [hu1,h1,hyu,hxu,hNB,hND,Bool.not_false,Bool.not_true,if_true,Bool.false_eq_true,if_false] at c1 c2;unfold PMem.room;simp only;rw [ee,nn];refine ⟨by omega,by omega,by simp,by simp⟩
theorem nodup_le {K : List Nat} {n : Nat} (hK : K.Nodup) (h : ∀ j ∈ K,j < n) : K.length<=n:=by
 have hp : ((List.range n).filter (fun i=>decide (i ∈ K))).Perm K:=by
  rw [List.perm_ext_iff_of_nodup (List.nodup_range.filter _) hK];intro i;rw [List.mem_filter,List.mem_range];constructor
  ·rintro ⟨_,h2⟩; simpa using h2
  ·intro hi; exact ⟨h i hi,by simpa using hi⟩
 have:=List.length_filter_le (fun i=>decide (i ∈ K)) (List.range n)
 rw [hp.length_eq,List.length_range] at this;exact this
theorem QM.few {c : Int} {ch : List Spot3} (h : QM M c ch) : ch.length + 2<=M.ns.length:=by
 have:=nodup_le (n:=M.ns.length) h.nodup (by
  intro j hj;rcases List.mem_cons.1 hj with rfl | hj
  ·obtain ⟨nd,p1,_⟩:=h.live _ (mem_edges_self anchor3 ch);exact (List.getElem?_eq_some_iff.1 p1).1
  ·rcases List.mem_cons.1 hj with rfl | hj
   ·obtain ⟨ne,z1,_⟩:=h.end_;exact (List.getElem?_eq_some_iff.1 z1).1
   ·obtain ⟨p,hp,rfl⟩:=List.mem_map.1 hj;have hz : p ∈ (edges anchor3 ch).map (fun q=>q.1):=by rw [edges_src]; exact List.mem_cons_of_mem _ hp
    obtain ⟨q,hq',hqe⟩:=List.mem_map.1 hz;obtain ⟨nd,p1,_⟩:=h.live q hq';rw [hqe] at p1;exact (List.getElem?_eq_some_iff.1 p1).1)
 simpa using this
end
end
section
structure QS (N E L : Int) (P : PSt) (ch : List Spot3) (n e c : Int) : Prop where
 mem : QM P.mem c ch
 clk : P.clock = c/\0<=c/\c<=L
 lim : P.limit = L
 kind : P.kind = 0
 swp : P.sweep = PSweep.zero
 idle : ∀ t ∈ P.ts,t.busy = false/\t.slot = 0
 room : P.mem.room.1 = n/\P.mem.room.2 = e
 len : (P.mem.ns.length : Int) = N + 2/\(P.mem.es.length : Int) = E
def Qof (N E L : Int) (P : PSt) (ps : List (Int × Int)) (n e c : Int) : Prop:=∃ ch,QS N E L P ch n e c/\ps = ch.map (·.2)
section
variable {N E L : Int} {P : PSt} {ch : List Spot3} {n e c : Int}
theorem count_len {α : Type} (p : α->Bool) (l : List α) : count p l<=l.length:=List.length_filter_le _ _
theorem QS.rooms (h : QS N E L P ch n e c) (hN : 0<=N/\N<=64) (hE : 1<=E/\E<=256) (hL : 0<=L/\L<=1099511627776) : P.mem.room.1 = n/\P.mem.room.2 = e/\P.clock = c/\(0<=n/\n<=64)/\(0<=e/\e<=256)/\(0<=c/\c<=2 ^ 41)/\(ch.map (·.2)).length<=64:=by
 have hf:=h.mem.few;have hl:=h.len;have hc:=h.clk;have hr:=h.room;have e1 : P.mem.room.1 = (count (fun x : PNode=>!x.used) P.mem.ns : Nat):=rfl;have e2 : P.mem.room.2 = (count (fun x : PEntry=>!x.used) P.mem.es : Nat):=rfl;have c2:=count_len (fun x : PEntry=>!x.used) P.mem.es
 -- at least two nodes are used
 have hu : count (fun x : PNode=>!x.used) P.mem.ns + 2<=P.mem.ns.length:=by
  have hn:=count_neg (fun x : PNode=>x.used) P.mem.ns;obtain ⟨na,a1,a2,_⟩:=h.mem.live _ (mem_edges_self anchor3 ch);obtain ⟨ne,z1,z2,_⟩:=h.mem.end_;have h1:=count_set (fun x : PNode=>x.used) P.mem.ns 0 na PNode.zero a1;have h2:=count_set (fun x : PNode=>x.used) (P.mem.ns.set 0 PNode.zero) 1 ne PNode.zero (by rw [List.getElem?_set_ne (by decide)]; exact z1);simp only [a2,z2,PNode.zero,if_true,Bool.false_eq_true,if_false] at h1 h2;omega
 refine ⟨hr.1,hr.2,hc.1,⟨by omega,by omega⟩,⟨by omega,by omega⟩,⟨hc.2.1,by omega⟩,?_⟩;simp only [List.length_map];omega
theorem QS.sweeps (h : QS N E L P ch n e c) : (∀ j,j < P.ts.length + 2->P.swHow j = 1)/\P.swHow (P.ts.length + 2) = 3/\QS N E L (P.swIter (P.ts.length + 3)) ch (N - (ch.map (·.2)).length) (E - (ch.map (·.2)).length - 1) c:=by
 obtain ⟨h1,h2,h3⟩:=sweep_run h.swp (fun t ht=>(h.idle t ht).2);refine ⟨h1,h2,?_⟩;rw [h3,h.clk.1];have hs:=h.mem.swept;obtain ⟨⟨l1,l2⟩,_⟩:=h.mem.sweptGet;have r1:=h.mem.sweptNodes;have r2:=h.mem.sweptEnts;have hl:=h.len;refine ⟨hs,⟨rfl,h.clk.2⟩,h.lim,h.kind,rfl,h.idle,⟨?_,?_⟩,?_⟩
 ·show (P.mem.swept c).room.1 = _;rw [r1,List.length_map]; omega
 ·show (P.mem.swept c).room.2 = _;rw [r2,List.length_map]; omega
 ·show ((P.mem.swept c).ns.length : Int) = _/\((P.mem.swept c).es.length : Int) = _;rw [l1,l2]; exact hl
theorem QS.ended (h : QS N E L P ch n e c) {i : Nat} {t : PThread} {M' : PMem} {c' : Int} {ch' : List Spot3} {n' e' : Int} {A : BAns} (hM : QM M' c' ch') (hc : 0<=c'/\c'<=L) (hr : M'.room.1 = n'/\M'.room.2 = e') (hl : M'.ns.length = P.mem.ns.length/\M'.es.length = P.mem.es.length) :
  QS N E L { P with mem:=M',clock:=c',ts:=P.ts.set i { t with busy:=false,slot:=0,last:=A,hasEnded:=true,work:=PWork.zero } } ch' n' e' c':=by
 refine ⟨hM,⟨rfl,hc⟩,h.lim,h.kind,h.swp,?_,hr,?_⟩
 ·intro u hu;rcases List.mem_or_eq_of_mem_set hu with hu | rfl
  ·exact h.idle u hu
  ·exact ⟨rfl,rfl⟩
 ·have:=h.len
  show (M'.ns.length : Int) = _/\(M'.es.length : Int) = _;rw [hl.1,hl.2]; exact this
end
end
section
section
variable {N E L : Int} {P : PSt} {ch : List Spot3} {n e c : Int} {i : Nat} {t : PThread}
theorem QS.opOf (h : QS N E L P ch n e c) (ht : P.ts[i]? = some t) {k0 k' : PWork} {m : Nat} {M' : PMem} {c' sl : Int} (hrun : Run (st P i t P.mem c 0 k0) i m (st P i t M' c' sl k')) (hn : k'.next = 13) :
  (∀ j,j < m->(P.setT i { t with busy:=true,work:=k0 }).how i j = 1)/\(P.setT i { t with busy:=true,work:=k0 }).how i m = 3/\(((P.setT i { t with busy:=true,work:=k0 }).iter i m).th i).work.ans = k'.ans /\
   (P.setT i { t with busy:=true,work:=k0 }).iter i (m + 1) = { P with mem:=M',clock:=c',ts:=P.ts.set i { t with busy:=false,slot:=0,last:=k'.ans,hasEnded:=true,work:=PWork.zero } }:=by
 have hi:=(List.getElem?_eq_some_iff.1 ht).1;have hb : P.setT i { t with busy:=true,work:=k0 } = st P i t P.mem c 0 k0:=by
  rw [st_begin (h.idle t (List.mem_of_getElem? ht)).2 hi,h.clk.1]
 rw [hb];obtain ⟨h1,h2⟩:=hrun;obtain ⟨e1,e2⟩:=how_end (P:=P) (i:=i) (t:=t) (M:=M') (c:=c') (sl:=sl) (k:=k') hi hn;refine ⟨h2,?_,?_,?_⟩
 ·have:=how_add (st P i t P.mem c 0 k0) i m 0
  rw [Nat.add_zero] at this;rw [this,<- h1]; exact e1
 ·rw [<- h1,st_th hi]
 ·rw [iter_add,<- h1]; exact e2
end
end
section
section
variable {N E L : Int} {P : PSt} {ch : List Spot3} {n e c : Int} {i : Nat} {t : PThread}
def Asked (N E L : Int) (P : PSt) (ps : List (Int × Int)) (n e c : Int) (i : Nat) (t : PThread) (kd ky va : Int) (sp : List (Int × Int)) : Prop :=
 ∃ m : Nat,(m : Int) < N + 16/\(∀ j,j < m->(P.setT i { t with busy:=true,work:=newWork kd ky va sp }).how i j = 1)/\(P.setT i { t with busy:=true,work:=newWork kd ky va sp }).how i m = 3 /\
  (((P.setT i { t with busy:=true,work:=newWork kd ky va sp }).iter i m).th i).work.ans = wantOf 0 L n e c ps kd ky sp /\
  Qof N E L ((P.setT i { t with busy:=true,work:=newWork kd ky va sp }).iter i (m + 1)) (if doneOf 0 L n e c ps kd ky then shNew ps kd ky va else ps) (if doneOf 0 L n e c ps kd ky then n - spendN 0 kd else n) (if doneOf 0 L n e c ps kd ky then e - spendE 0 kd else e) (if doneOf 0 L n e c ps kd ky then c + 1 else c)
theorem QM.split {M : PMem} (h : QM M c ch) (key : Int) : (∃ a b,ch = a ++ b/\(∀ q ∈ a,q.2.1 < key)/\∀ q ∈ b,key < q.2.1)\/(∃ a w b,ch = a ++ w :: b/\w.2.1 = key/\(∀ q ∈ a,q.2.1 < key)/\∀ q ∈ b,key < q.2.1):=by
 obtain ⟨a,b,rfl,ha,hb⟩:=split_at key ch h.sorted;cases b with
 | nil=>exact .inl ⟨a,[],rfl,ha,by simp⟩
 | cons w b =>
  have hs:=(List.pairwise_append.1 h.sorted).2.1;have hw:=(List.pairwise_cons.1 hs).1;have h1:=hb w (by simp);by_cases he : w.2.1 = key
  ·exact .inr ⟨a,w,b,rfl,he,ha,fun q hq=>by have:=hw q hq; omega⟩
  ·refine .inl ⟨a,w :: b,rfl,ha,?_⟩;intro q hq;rcases List.mem_cons.1 hq with rfl | hq
   ·omega
   ·have:=hw q hq; omega
theorem QM.headKey {M : PMem} {a b : List Spot3} (h : QM M c (a ++ b)) {key : Int} (hk : key<=1099511627776) (hb : ∀ q ∈ b,key<=q.2.1) : key<=(M.node (heads b)).key:=by
 cases b with
 | nil =>
  obtain ⟨ne,z1,_,_,_,_,_,z7⟩:=h.end_;show key<=(M.node ((1 : Nat) : Int)).key;rw [node_of z1,z7]; omega
 | cons w b =>
  have hl:=h.live (w,heads b) (mem_split (.inr (by show _ ∈ edges w b; exact mem_edges_self _ _)));show key<=(M.node w.1).key;rw [hl.key.1];exact hb w (by simp)
theorem QM.headGt {M : PMem} {a b : List Spot3} (h : QM M c (a ++ b)) {key : Int} (hk : key<=1099511627776) (hb : ∀ q ∈ b,key < q.2.1) : key < (M.node (heads b)).key:=by
 cases b with
 | nil =>
  obtain ⟨ne,z1,_,_,_,_,_,z7⟩:=h.end_;show key < (M.node ((1 : Nat) : Int)).key;rw [node_of z1,z7]; omega
 | cons w b =>
  have hl:=h.live (w,heads b) (mem_split (.inr (by show _ ∈ edges w b; exact mem_edges_self _ _)));show key < (M.node w.1).key;rw [hl.key.1];exact hb w (by simp)
theorem QS.look (h : QS N E L P ch n e c) (_hN : 0<=N) (ht : P.ts[i]? = some t) (ky va : Int) (sp : List (Int × Int)) (hk : 0<=ky/\ky<=1099511627776) : Asked N E L P (ch.map (·.2)) n e c i t 3 ky va sp:=by
 have hi:=(List.getElem?_eq_some_iff.1 ht).1;have hf:=h.mem.few;have hl:=h.len;have hd : doneOf 0 L n e c (ch.map (·.2)) 3 ky = false:=by simp [doneOf,shUpd]
 have s1:=run_open (P:=P) (t:=t) (M:=P.mem) (c:=c) (sl:=0) (k:=newWork 3 ky va sp) hi rfl;have key : ∀ a b : List Spot3,ch = a ++ b->(∀ q ∈ a,q.2.1 < ky)->(∀ q ∈ b,ky<=q.2.1)->((if (P.mem.node (heads b)).key = ky then { stamp:=c,did:=true,value:=(P.mem.node (heads b)).value } else { stamp:=c } : BAns) = wantOf 0 L n e c (ch.map (·.2)) 3 ky sp)->Asked N E L P (ch.map (·.2)) n e c i t 3 ky va sp:=by
  intro a b hab ha hb hw;have hm:=h.mem;rw [hab] at hm;have s2:=run_look (P:=P) (t:=t) (M:=P.mem) (c:=c) (sl:=2) (k:={ newWork 3 ky va sp with time:=c,stand:=0,next:=4 }) hi h.kind rfl rfl rfl rfl b (hm.headKey hk.2 hb) a anchor3 (fun q hq=>⟨hm.live q hq,hm.led hq⟩) ha;have hrun:=s1.trans s2;obtain ⟨o1,o2,o3,o4⟩:=h.opOf ht hrun rfl;refine ⟨3 + (a.length + 1),?_,o1,o2,o3.trans hw,?_⟩
  ·have : ch.length = a.length + b.length:=by rw [hab]; simp
   omega
  ·rw [o4,hd];exact ⟨ch,h.ended (t:=t) h.mem h.clk.2 h.room ⟨rfl,rfl⟩,rfl⟩
 rcases h.mem.split ky with ⟨a,b,hab,ha,hb⟩ | ⟨a,w,b,hab,hw,ha,hb⟩
 ·refine key a b hab ha (fun q hq=>by have:=hb q hq; omega) ?_;have hm:=h.mem;rw [hab] at hm;have hkey:=hm.headGt hk.2 hb;rw [if_neg (by omega)];obtain ⟨v1,_,_⟩:=sheet_miss ha hb;rw [hab];unfold wantOf shAns shUpd;rw [v1]
  rfl
 ·refine key a (w :: b) hab ha ?_ ?_
  ·intro q hq;rcases List.mem_cons.1 hq with rfl | hq
   ·omega
   ·have:=hb q hq; omega
  ·have hm:=h.mem;rw [hab] at hm;have hl:=hm.live (w,heads b) (mem_split (.inr (by show _ ∈ edges w b; exact mem_edges_self _ _)));have hk1:=hl.key;simp only at hk1;show (if (P.mem.node w.1).key = ky then _ else _) = _;rw [hk1.1,if_pos hw];obtain ⟨v1,_,_⟩:=sheet_hit hw ha hb;rw [hab];unfold wantOf shAns shUpd;rw [v1];show (_ : BAns) = _;simp only [heads];rw [hk1.2.1]
   rfl
end
end
section
section
variable {N E L : Int} {P : PSt} {ch : List Spot3} {n e c : Int} {i : Nat} {t : PThread}
theorem filter_chain (ch : List Spot3) (lo hi : Int) : (ch.filter (fun q=>isIn q.2.1 lo hi)).map (·.2) = (ch.map (·.2)).filter (fun q=>isIn q.1 lo hi):=by
 rw [List.filter_map]; rfl
theorem QS.scan (h : QS N E L P ch n e c) (_hN : 0<=N) (ht : P.ts[i]? = some t) (ky va : Int) (sp : List (Int × Int)) (hs : spansOkX sp = true) : Asked N E L P (ch.map (·.2)) n e c i t 4 ky va sp:=by
 have hi:=(List.getElem?_eq_some_iff.1 ht).1;have hf:=h.mem.few;have hl:=h.len;have hd : doneOf 0 L n e c (ch.map (·.2)) 4 ky = false:=by simp [doneOf,shUpd]
 have s1:=run_open (P:=P) (t:=t) (M:=P.mem) (c:=c) (sl:=0) (k:=newWork 4 ky va sp) hi rfl;obtain ⟨ha,hg⟩:=hull_answer hs (ch.map (·.2)) c;obtain ⟨m,k',h1,s2,h3,h4⟩:=run_scan (P:=P) (t:=t) (M:=P.mem) (c:=c) (sl:=2) (k:={ newWork 4 ky va sp with time:=c,stand:=0,next:=4 }) hi h.kind rfl rfl rfl h.mem.end_ hg ch anchor3 [] (fun q hq=>⟨h.mem.live q hq,h.mem.led hq⟩) h.mem.sorted;have hrun:=s1.trans s2;obtain ⟨o1,o2,o3,o4⟩:=h.opOf ht hrun h3;refine ⟨3 + m,by omega,o1,o2,?_,?_⟩
 ·rw [o3,h4,List.nil_append,filter_chain];refine Eq.trans ha ?_;unfold wantOf;rw [show shUpd (ch.map (·.2)) 4 ky = false from by simp [shUpd]];simp only [Bool.false_eq_true,if_false];have hA : shAns (ch.map (·.2)) 4 ky sp = answerOf sp (ch.map (·.2)) 0:=by simp [shAns]
  rw [hA];unfold answerOf;split <;> rfl
 ·rw [o4,hd];exact ⟨ch,h.ended (t:=t) h.mem h.clk.2 h.room ⟨rfl,rfl⟩,rfl⟩
end
end
section
section
variable {N E L : Int} {P : PSt} {ch : List Spot3} {n e c : Int} {i : Nat} {t : PThread}
theorem QS.walk (h : QS N E L P ch n e c) (hi : i < P.ts.length) (kd ky va : Int) (sp : List (Int × Int)) (hkd : kd = 1\/kd = 2) (hk : ky<=1099511627776) {a b : List Spot3} (hab : ch = a ++ b) (ha : ∀ q ∈ a,q.2.1 < ky) (hb : ∀ q ∈ b,ky<=q.2.1) :
  ∃ k' : PWork,Run (st P i t P.mem c 0 (newWork kd ky va sp)) i (3 + (a.length + 1)) (st P i t P.mem c 2 k')/\k'.kind = kd/\k'.key = ky/\(kd = 1->k'.value = va)/\k'.next = 5/\k'.locks = 0/\k'.made = []/\k'.stand = (lastOf anchor3 a).1/\k'.ahead = heads b:=by
 have hw : (newWork kd ky va sp).kind = kd/\(newWork kd ky va sp).key = ky/\(kd = 1->(newWork kd ky va sp).value = va)/\(newWork kd ky va sp).next = 1/\(newWork kd ky va sp).locks = 0/\(newWork kd ky va sp).made = []/\(newWork kd ky va sp).above = 0:=by
  rcases hkd with rfl | rfl
  ·exact ⟨rfl,rfl,fun _=>rfl,rfl,rfl,rfl,rfl⟩
  ·exact ⟨rfl,rfl,fun hh=>by omega,rfl,rfl,rfl,rfl⟩
 obtain ⟨w1,w2,w3,w4,w5,w6,w7⟩:=hw;generalize newWork kd ky va sp = k0 at *;have hm:=h.mem;rw [hab] at hm;have s1:=run_open (P:=P) (t:=t) (M:=P.mem) (c:=c) (sl:=0) (k:=k0) hi w4;obtain ⟨ab',s2⟩:=run_walk (P:=P) (i:=i) (t:=t) (M:=P.mem) (c:=c) (sl:=2) (k:={ k0 with time:=c,stand:=0,next:=4 }) hi h.kind (by show k0.kind = 1\/k0.kind = 2; rw [w1]; exact hkd) b (by show k0.key<=_; rw [w2]; exact hm.headKey hk hb) a anchor3 k0.above hm.live (by intro q hq; show _ < k0.key; rw [w2]; exact ha q hq);refine ⟨_,s1.trans s2,w1,w2,w3,rfl,w5,w6,rfl,rfl⟩
end
end
section
section
variable {N E L : Int} {P : PSt} {ch : List Spot3} {n e c : Int} {i : Nat} {t : PThread}
theorem QM.headNode {M : PMem} {a b : List Spot3} (h : QM M c (a ++ b)) : ∃ nb,M.ns[heads b]? = some nb/\nb.used = true/\nb.dead = false/\nb.holder = -1/\nb.key = (M.node (heads b)).key/\(lastOf anchor3 a).1≠heads b:=by
 obtain ⟨nd,l1,l2,l3,l4,l5,l6,_⟩:=h.live _ (mem_mid a b);cases b with
 | nil =>
  obtain ⟨ne,z1,z2,z3,z4,z5,z6,z7⟩:=h.end_;refine ⟨ne,z1,z2,z3,z5,by show _ = (M.node ((1 : Nat) : Int)).key; rw [node_of z1],?_⟩;intro he;simp only at l1;rw [he] at l1;rw [show M.ns[heads []]? = M.ns[1]? from rfl,z1] at l1;obtain rfl:=Option.some.inj l1;rw [z6] at l6; cases l6
 | cons w b =>
  have hp : (w,heads b) ∈ postE (w :: b):=mem_edges_self w b;obtain ⟨nb,b1,b2,b3,b4,b5,b6,_⟩:=h.live (w,heads b) (mem_split (.inr hp));refine ⟨nb,b1,b2,b3,b5,by show _ = (M.node w.1).key; rw [node_of b1],?_⟩;exact (edges_split h.nodup (w,heads b) (.inr hp)).symm
theorem QS.stays (h : QS N E L P ch n e c) (ht : P.ts[i]? = some t) {kd ky va : Int} {sp : List (Int × Int)} {m : Nat} {M' : PMem} {sl : Int} {k' : PWork} (hrun : Run (st P i t P.mem c 0 (newWork kd ky va sp)) i m (st P i t M' c sl k')) (hn : k'.next = 13) (hm : (m : Int) < N + 16) (hM : QM M' c ch) (hr : M'.room = P.mem.room) (hl : M'.ns.length = P.mem.ns.length/\M'.es.length = P.mem.es.length) (hans : k'.ans = wantOf 0 L n e c (ch.map (·.2)) kd ky sp) (hd : doneOf 0 L n e c (ch.map (·.2)) kd ky = false) : Asked N E L P (ch.map (·.2)) n e c i t kd ky va sp:=by
 obtain ⟨o1,o2,o3,o4⟩:=h.opOf ht hrun hn;refine ⟨m,hm,o1,o2,o3.trans hans,?_⟩;rw [o4,hd];exact ⟨ch,h.ended (t:=t) hM h.clk.2 (by rw [hr]; exact h.room) hl,rfl⟩
end
end
section
section
variable {N E L : Int} {P : PSt} {ch : List Spot3} {n e c : Int} {i : Nat} {t : PThread}
theorem QS.noChange (h : QS N E L P ch n e c) (_hN : 0<=N) (ht : P.ts[i]? = some t) (kd ky va : Int) (sp : List (Int × Int)) (hkd : kd = 1\/kd = 2) (hk : ky<=1099511627776) {a b : List Spot3} (hab : ch = a ++ b) (ha : ∀ q ∈ a,q.2.1 < ky) (hb : ∀ q ∈ b,ky<=q.2.1) (hm : ((P.mem.node (heads b)).key == ky) = (kd == 1)) (hu : shUpd (ch.map (·.2)) kd ky = false) : Asked N E L P (ch.map (·.2)) n e c i t kd ky va sp:=by
 have hi:=(List.getElem?_eq_some_iff.1 ht).1;have hf:=h.mem.few;have hl:=h.len;obtain ⟨k',s1,k1,k2,_,k4,k5,k6,k7,k8⟩:=h.walk (t:=t) hi kd ky va sp hkd hk hab ha hb;have hq:=h.mem;rw [hab] at hq;obtain ⟨nb,b1,b2,b3,b4,b5,b6⟩:=hq.headNode;have s2:=run_not (P:=P) (t:=t) (M:=P.mem) (c:=c) (sl:=2) (k:=k') hi h.kind (by rw [k1]; exact hkd) k4 k5 k7 k8 (hq.live _ (mem_mid a b)) b1 b3 b6 (by rw [b5,k1,k2]; exact hm) h.mem.hold;have hrun:=s1.trans s2;have hch : ch.length = a.length + b.length:=by rw [hab]; simp
 refine h.stays ht hrun rfl (by omega) h.mem rfl ⟨rfl,rfl⟩ ?_ (by simp [doneOf,hu]);show ({ stamp:=c } : BAns) = _;unfold wantOf shAns;rw [hu];rcases hkd with rfl | rfl <;> rfl
end
end
section
section
variable {N E L : Int} {P : PSt} {ch : List Spot3} {n e c : Int} {i : Nat} {t : PThread}
theorem QM.srcs {M : PMem} (h : QM M c ch) : ∀ en ∈ M.es,en.used = true->∃ (x : Nat) (nd : PNode),en.src = x/\M.ns[x]? = some nd/\nd.used = true:=by
 intro en he hu;obtain ⟨_,_,_,x,nd,p4,_,p6,p7⟩:=h.ents en he hu;exact ⟨x,nd,p4,p6,p7⟩
theorem QS.insNew (h : QS N E L P ch n e c) (_hN : 0<=N) (ht : P.ts[i]? = some t) (ky va : Int) (sp : List (Int × Int)) (hk : 0<=ky/\ky<=1099511627776) {a b : List Spot3} (hab : ch = a ++ b) (ha : ∀ q ∈ a,q.2.1 < ky) (hb : ∀ q ∈ b,ky < q.2.1) : Asked N E L P (ch.map (·.2)) n e c i t 1 ky va sp:=by
 have hi:=(List.getElem?_eq_some_iff.1 ht).1;have hf:=h.mem.few;have hl:=h.len;have hch : ch.length = a.length + b.length:=by rw [hab]; simp
 obtain ⟨k',s1,k1,k2,k3,k4,k5,k6,k7,k8⟩:=h.walk (t:=t) hi 1 ky va sp (.inl rfl) hk.2 hab ha (fun q hq=>by have:=hb q hq; omega);have hq:=h.mem;rw [hab] at hq;obtain ⟨nb,b1,b2,b3,b4,b5,b6⟩:=hq.headNode;have hgt:=hq.headGt hk.2 hb;obtain ⟨v1,v2,v3⟩:=sheet_miss ha hb;rw [<- hab] at v1 v2 v3;have hu : shUpd (ch.map (·.2)) 1 ky = true:=by unfold shUpd; rw [v1]; rfl
 have hA : shAns (ch.map (·.2)) 1 ky sp = { did:=true,value:=0 }:=by unfold shAns; rw [hu]; rfl
 obtain ⟨nd,l1,l2,l3,l4,l5,l6,l7,l8,l9⟩:=hq.live _ (mem_mid a b);simp only at l1 l7 l8 l9;have hbk : (nb.key == k'.key) = (k'.kind == 2):=by
  have h1 : nb.key≠ky:=by omega
  rw [k1,k2];simpa using h1
 have hroom:=h.room;have hclk:=h.clk;have hlim:=h.lim;by_cases hfull : n < 1\/e < 2
 ·have her : spendErr 0 L 1 n e c = 7:=by unfold spendErr spendN spendE; rw [if_pos (by simpa using hfull)]
  obtain ⟨m,lk,M1,g,hm3,hL,s2⟩:=run_pre (P:=P) (t:=t) (M:=P.mem) (c:=c) (sl:=2) (k:=k') hi h.kind (by rw [k1]; exact .inl rfl) k4 k5 k7 k8 l1 l2 l3 l5 l6 l9 b1 b2 b3 b4 b6 hbk;have s3:=run_nofit (P:=P) (t:=t) (M:=P.mem) (M1:=M1) (c:=c) (sl:=2) (k:={ k' with locks:=lk,next:=7 }) hi (.inl k1) rfl hL h.mem.hold (by
   have hnd : (st P i t M1 c 2 { k' with locks:=lk,next:=7 }).needs k'.kind = (1,2):=by
    unfold PSt.needs;rw [k1,if_neg (by omega),if_neg (by show ¬ P.kind = 1; rw [h.kind]; omega)]
   show P.mem.room.1 < ((st P i t M1 c 2 { k' with locks:=lk,next:=7 }).needs k'.kind).1\/P.mem.room.2 < ((st P i t M1 c 2 { k' with locks:=lk,next:=7 }).needs k'.kind).2;rw [hnd,hroom.1,hroom.2]; exact hfull)
  have hrun:=(s1.trans s2).trans s3;refine h.stays ht hrun rfl (by omega) h.mem rfl ⟨rfl,rfl⟩ ?_ (by simp [doneOf,her]);show ({ err:=7 } : BAns) = _;unfold wantOf;rw [hu,her]; rfl
 ·by_cases hcl : c = L
  ·have her : spendErr 0 L 1 n e c = 8:=by unfold spendErr spendN spendE; rw [if_neg (by simpa using hfull),if_pos hcl]
   obtain ⟨m,lk,M1,g,hm3,hL,s2⟩:=run_pre (P:=P) (t:=t) (M:=P.mem) (c:=c) (sl:=2) (k:=k') hi h.kind (by rw [k1]; exact .inl rfl) k4 k5 k7 k8 l1 l2 l3 l5 l6 l9 b1 b2 b3 b4 b6 hbk;obtain ⟨f,q1,q2,nf,e1,e2,M',k2',hnf,hfu,he1,hu1,he2,hu2,hqq,s3,k13,kans,ges,gns⟩:=run_clock1 (P:=P) (t:=t) (M:=P.mem) (M1:=M1) (c:=c) (sl:=2) (k:={ k' with locks:=lk,next:=7 }) hi h.kind k1 rfl k6 hL h.mem.hold h.mem.calm k7 k8 l1 l6 l2 h.mem.srcs
    (by obtain ⟨na,a1,a2,_⟩:=h.mem.live _ (mem_edges_self anchor3 ch); exact ⟨na,a1,a2⟩) (by obtain ⟨ne,z1,z2,_⟩:=h.mem.end_; exact ⟨ne,z1,z2⟩) (by rw [hroom.1]; omega) (by rw [hroom.2]; omega) (by rw [hlim]; omega)
   obtain ⟨hQ,hR⟩:=h.mem.wiped (M':=M') (fun j=>by
    rw [ges];by_cases hj : q1 = j\/q2 = j
    ·rw [if_pos hj];right;rcases hj with rfl | rfl
     ·exact ⟨rfl,e1,he1,hu1⟩
     ·exact ⟨rfl,e2,he2,hu2⟩
    ·rw [if_neg hj]; exact .inl rfl) (fun j=>by
    rw [gns];by_cases hj : f = j
    ·rw [if_pos hj]; subst hj; exact .inr ⟨rfl,nf,hnf,hfu⟩
    ·rw [if_neg hj]; exact .inl rfl)
   have hrun:=(s1.trans s2).trans s3;have lenOf : ∀ {α : Type} {l l' : List α},(∀ j : Nat,l'[j]? = none ↔ l[j]? = none)->l'.length = l.length:=by
    intro α l l' hh;have h2:=(hh l'.length).1 (List.getElem?_eq_none (Nat.le_refl _));have h3:=(hh l.length).2 (List.getElem?_eq_none (Nat.le_refl _));rw [List.getElem?_eq_none_iff] at h2 h3;omega
   refine h.stays ht hrun k13 (by omega) hQ hR ⟨lenOf ?_,lenOf ?_⟩ ?_ (by simp [doneOf,her])
   ·intro j;rw [gns];by_cases hj : f = j
    ·subst hj; simp [hnf]
    ·simp [hj]
   ·intro j;rw [ges];by_cases hj : q1 = j\/q2 = j
    ·rcases hj with rfl | rfl
     ·simp [he1]
     ·simp [he2]
    ·simp [hj]
   ·rw [kans];unfold wantOf;rw [hu,her]; rfl
  ·have her : spendErr 0 L 1 n e c = 0:=by unfold spendErr spendN spendE; rw [if_neg (by simpa using hfull),if_neg hcl]
   obtain ⟨f,q1,q2,nf,e1,e2,M',k2',hnf,hfu,he1,hu1,he2,hu2,hqq,hfx,s2,k13,kans,ges,gns⟩:=run_put (P:=P) (t:=t) (M:=P.mem) (c:=c) (sl:=2) (k:=k') hi h.kind k1 k4 k5 k6 k7 k8 l1 l2 l3 l5 l6 l9 b1 b3 b6 (by rw [k2]; omega) h.mem.hold h.mem.calm (by rw [hroom.1]; omega) (by rw [hroom.2]; omega) (by rw [hlim]; omega);rw [k2,k3 rfl] at gns;have hQ:=hq.put hclk.2.1 ky va ha hb hk hnf hfu he1 hu1 he2 hu2 hqq l1 ges gns;obtain ⟨r1,r2,r3,r4⟩:=room_put (NF:=linked false (heads b) (PNode.made ky va)) (ND:={ nd with leads:=upd nd.leads false f }) hnf hfu l1 l2 rfl l2 hfx he1 hu1 he2 hu2 hqq rfl rfl ges gns;have hrun:=s1.trans s2;obtain ⟨o1,o2,o3,o4⟩:=h.opOf ht hrun k13;have hd : doneOf 0 L n e c (ch.map (·.2)) 1 ky = true:=by simp [doneOf,hu,her]
   refine ⟨_,by omega,o1,o2,?_,?_⟩
   ·rw [o3,kans];unfold wantOf;rw [hu,her,hA]; rfl
   ·rw [o4,hd];simp only [if_true];refine ⟨a ++ (f,ky,va) :: b,h.ended (t:=t) hQ ⟨by omega,by omega⟩ ⟨by rw [r1,hroom.1]; rfl,by rw [r2,hroom.2]; rfl⟩ ⟨r3,r4⟩,?_⟩;unfold shNew;rw [hu];show shPut _ ky va = _;unfold shPut;rw [v2,v3]; simp
end
end
section
section
variable {N E L : Int} {P : PSt} {ch : List Spot3} {n e c : Int} {i : Nat} {t : PThread}
theorem len_same {α : Type} {l l' : List α} (hh : ∀ j : Nat,l'[j]? = none ↔ l[j]? = none) : l'.length = l.length:=by
 have h2:=(hh l'.length).1 (List.getElem?_eq_none (Nat.le_refl _));have h3:=(hh l.length).2 (List.getElem?_eq_none (Nat.le_refl _));rw [List.getElem?_eq_none_iff] at h2 h3;omega
theorem QS.remOld (h : QS N E L P ch n e c) (hn0 : 0<=n) (ht : P.ts[i]? = some t) (ky va : Int) (sp : List (Int × Int)) (hk : 0<=ky/\ky<=1099511627776) {a b : List Spot3} {w : Spot3} (hab : ch = a ++ w :: b) (hw : w.2.1 = ky) (ha : ∀ q ∈ a,q.2.1 < ky) (hb : ∀ q ∈ b,ky < q.2.1) : Asked N E L P (ch.map (·.2)) n e c i t 2 ky va sp:=by
 have hi:=(List.getElem?_eq_some_iff.1 ht).1;have hf:=h.mem.few;have hl:=h.len;have hch : ch.length = a.length + (b.length + 1):=by rw [hab]; simp
 obtain ⟨k',s1,k1,k2,_,k4,k5,k6,k7,k8⟩:=h.walk (t:=t) hi 2 ky va sp (.inr rfl) hk.2 hab ha (fun q hq=>by
  rcases List.mem_cons.1 hq with rfl | hq
  ·omega
  ·have:=hb q hq; omega)
 have hq:=h.mem;rw [hab] at hq;have hp : (w,heads b) ∈ postE (w :: b):=mem_edges_self w b;obtain ⟨nb,b1,b2,b3,b4,b5,b6,b7,b8,b9⟩:=hq.live (w,heads b) (mem_split (.inr hp));simp only at b1 b7 b8 b9;have hne : (lastOf anchor3 a).1≠w.1:=(edges_split hq.nodup (w,heads b) (.inr hp)).symm;obtain ⟨v1,v2,v3⟩:=sheet_hit hw ha hb;rw [<- hab] at v1 v2 v3;have hu : shUpd (ch.map (·.2)) 2 ky = true:=by unfold shUpd; rw [v1]; rfl
 have hA : shAns (ch.map (·.2)) 2 ky sp = { did:=true,value:=w.2.2 }:=by unfold shAns; rw [hu,v1]; rfl
 obtain ⟨nd,l1,l2,l3,l4,l5,l6,l7,l8,l9⟩:=hq.live _ (mem_mid a (w :: b));simp only at l1 l7 l8 l9;have hbk : (nb.key == k'.key) = (k'.kind == 2):=by
  rw [k1,k2,b7,hw]; simp
 have hroom:=h.room;have hclk:=h.clk;have hlim:=h.lim;by_cases hfull : e < 1
 ·have her : spendErr 0 L 2 n e c = 7:=by unfold spendErr spendN spendE; rw [if_pos (by simp; omega)]
  obtain ⟨m,lk,M1,g,hm3,hL,s2⟩:=run_pre (P:=P) (t:=t) (M:=P.mem) (c:=c) (sl:=2) (k:=k') hi h.kind (by rw [k1]; exact .inr rfl) k4 k5 k7 k8 l1 l2 l3 l5 l6 l9 b1 b2 b3 b5 hne hbk;have s3:=run_nofit (P:=P) (t:=t) (M:=P.mem) (M1:=M1) (c:=c) (sl:=2) (k:={ k' with locks:=lk,next:=7 }) hi (.inr k1) rfl hL h.mem.hold (by
   have hnd : (st P i t M1 c 2 { k' with locks:=lk,next:=7 }).needs k'.kind = (0,1):=by
    unfold PSt.needs;rw [k1,if_pos rfl]
   show P.mem.room.1 < ((st P i t M1 c 2 { k' with locks:=lk,next:=7 }).needs k'.kind).1\/P.mem.room.2 < ((st P i t M1 c 2 { k' with locks:=lk,next:=7 }).needs k'.kind).2;rw [hnd,hroom.2]; exact .inr hfull)
  have hrun:=(s1.trans s2).trans s3;refine h.stays ht hrun rfl (by omega) h.mem rfl ⟨rfl,rfl⟩ ?_ (by simp [doneOf,her]);show ({ err:=7 } : BAns) = _;unfold wantOf;rw [hu,her]; rfl
 ·by_cases hcl : c = L
  ·have her : spendErr 0 L 2 n e c = 8:=by unfold spendErr spendN spendE; rw [if_neg (by simp; omega),if_pos hcl]
   obtain ⟨m,lk,M1,g,hm3,hL,s2⟩:=run_pre (P:=P) (t:=t) (M:=P.mem) (c:=c) (sl:=2) (k:=k') hi h.kind (by rw [k1]; exact .inr rfl) k4 k5 k7 k8 l1 l2 l3 l5 l6 l9 b1 b2 b3 b5 hne hbk;obtain ⟨q1,e1,M',k2',he1,hu1,s3,k13,kans,ges,gns⟩:=run_clock2 (P:=P) (t:=t) (M:=P.mem) (M1:=M1) (c:=c) (sl:=2) (k:={ k' with locks:=lk,next:=7 }) hi h.kind k1 rfl k6 hL h.mem.hold h.mem.calm k7 k8 l1 l6 b1 b6 b9 (by rw [hroom.2]; omega) (by rw [hlim]; omega);obtain ⟨hQ,hR⟩:=h.mem.wiped (M':=M') (fun j=>by
    rw [ges];by_cases hj : q1 = j
    ·rw [if_pos hj]; subst hj; exact .inr ⟨rfl,e1,he1,hu1⟩
    ·rw [if_neg hj]; exact .inl rfl) (fun j=>by rw [gns]; exact .inl rfl)
   have hrun:=(s1.trans s2).trans s3;refine h.stays ht hrun k13 (by omega) hQ hR ⟨by rw [gns],len_same ?_⟩ ?_ (by simp [doneOf,her])
   ·intro j;rw [ges];by_cases hj : q1 = j
    ·subst hj; simp [he1]
    ·simp [hj]
   ·rw [kans];unfold wantOf;rw [hu,her]; rfl
  ·have her : spendErr 0 L 2 n e c = 0:=by unfold spendErr spendN spendE; rw [if_neg (by simp; omega),if_neg hcl]
   obtain ⟨q1,e1,M',k2',he1,hu1,s2,k13,kans,ges,gns⟩:=run_del (P:=P) (t:=t) (M:=P.mem) (c:=c) (sl:=2) (k:=k') hi h.kind k1 k4 k5 k7 k8 l1 l2 l3 l5 l6 l9 b1 b2 b3 b5 b6 b9 hne (by rw [k2,b7,hw]) h.mem.hold h.mem.calm (by rw [hroom.2]; omega) (by rw [hlim]; omega);have hQ:=hq.del hclk.2.1 he1 hu1 l1 b1 ges gns;obtain ⟨r1,r2,r3,r4⟩:=room_del (ND:={ nd with leads:=upd nd.leads false (heads b) }) (NB:={ nb with dead:=true,retired:=true,retiredAt:=c + 1 }) l1 l2 b1 b2 l2 b2 hne he1 hu1 rfl ges gns;have hrun:=s1.trans s2;obtain ⟨o1,o2,o3,o4⟩:=h.opOf ht hrun k13;have hd : doneOf 0 L n e c (ch.map (·.2)) 2 ky = true:=by simp [doneOf,hu,her]
   refine ⟨_,by omega,o1,o2,?_,?_⟩
   ·rw [o3,kans];unfold wantOf;rw [hu,her,hA,b8]; rfl
   ·rw [o4,hd];simp only [if_true];refine ⟨a ++ b,h.ended (t:=t) hQ ⟨by omega,by omega⟩ ⟨by rw [r1,hroom.1]; show n = n - 0; omega,by rw [r2,hroom.2]; rfl⟩ ⟨r3,r4⟩,?_⟩;unfold shNew;rw [hu];show shDel _ ky = _;unfold shDel;rw [v2,v3]; simp
end
end
section
theorem fresh_mem (nn en : Nat) : freshMem nn (en + 1) = ⟨linked false 1 anchorNode :: endNode :: List.replicate nn PNode.zero,⟨true,false,0,false,1,0⟩ :: List.replicate en PEntry.zero⟩:=by
 unfold freshMem;have h1 : (⟨freshNodes nn,List.replicate (en + 1) PEntry.zero⟩ : PMem).addLink 0 1 = ⟨linked false 1 anchorNode :: endNode :: List.replicate nn PNode.zero,⟨true,true,0,false,1,0⟩ :: List.replicate en PEntry.zero⟩ :=
  addLink_ok (M:=⟨freshNodes nn,List.replicate (en + 1) PEntry.zero⟩) (n:=0) (q:=0) (nd:=anchorNode) (e:=PEntry.zero) rfl rfl rfl rfl 1
 rw [h1];unfold PMem.stampNew;have h2 : (⟨linked false 1 anchorNode :: endNode :: List.replicate nn PNode.zero,⟨true,true,0,false,1,0⟩ :: List.replicate en PEntry.zero⟩ : PMem).stamp 0 false 0 = ⟨linked false 1 anchorNode :: endNode :: List.replicate nn PNode.zero,⟨true,false,0,false,1,0⟩ :: List.replicate en PEntry.zero⟩ :=
  stamp_ok (n:=0) (q:=0) (e:=⟨true,true,0,false,1,0⟩) rfl rfl 0
 rw [h2];refine stamp_none ?_ _
 ·refine find_miss _ _ ?_;intro j _ y hy;cases j with
  | zero =>
   have:=Option.some.inj hy
   subst this; rfl
  | succ j =>
   have hy' : (List.replicate en PEntry.zero)[j]? = some y:=hy
   have:=(List.mem_replicate.1 (List.mem_of_getElem? hy')).2
   subst this; rfl
end
end Go.Proofs.YtfccelbmacjifaaGreat
