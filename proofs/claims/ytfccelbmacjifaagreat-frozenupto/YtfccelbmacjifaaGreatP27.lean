import Derived.Test.YtfccelbmacjifaaGreatP0
import Derived.Test.YtfccelbmacjifaaGreatP26
set_option linter.unusedSimpArgs false
set_option maxRecDepth 100000
set_option maxHeartbeats 4000000
namespace Go.Proofs.YtfccelbmacjifaaGreat
section
section
variable {M M' : PMem} {c : Int}
theorem edges_src : ∀ (l : List Spot3) (x : Spot3),(edges x l).map (fun q=>q.1) = x :: l
 | [],x=>rfl
 | y :: r,x=>by
  show x :: (edges y r).map _ = _;rw [edges_src r y]
theorem edges_split {a b : List Spot3} (hn : (0 :: 1 :: (a ++ b).map (·.1)).Nodup) : ∀ q,q ∈ preE anchor3 a\/q ∈ postE b->q.1.1≠(lastOf anchor3 a).1:=by
 have hs:=edges_src (a ++ b) anchor3;rw [edges_app] at hs;have h2 : (anchor3 :: (a ++ b)).map (·.1) = 0 :: (a ++ b).map (·.1):=rfl;have hnd : ((anchor3 :: (a ++ b)).map (·.1)).Nodup:=by
  rw [h2];simp only [List.nodup_cons,List.mem_cons] at hn ⊢;exact ⟨fun h=>hn.1 (.inr h),hn.2.2⟩
 rw [<- hs] at hnd;simp only [List.map_append,List.map_cons,List.map_map] at hnd;rw [List.nodup_append] at hnd;obtain ⟨_,h4,h5⟩:=hnd;rintro q (hq | hq)
 ·exact h5 q.1.1 (List.mem_map.2 ⟨q,hq,rfl⟩) _ (by simp)
 ·have:=(List.nodup_cons.1 h4).1
  intro he;exact this (List.mem_map.2 ⟨q,hq,he⟩)
theorem mem_split {a b : List Spot3} {q : Spot3 × Nat} (h : q ∈ preE anchor3 a\/q ∈ postE b) : q ∈ edges anchor3 (a ++ b):=by
 rw [edges_app];rcases h with h | h <;> simp [h]
theorem mem_mid (a b : List Spot3) : (lastOf anchor3 a,heads b) ∈ edges anchor3 (a ++ b):=by
 rw [edges_app]; simp
theorem edges_put {a b : List Spot3} (w : Spot3) {q : Spot3 × Nat} (h : q ∈ edges anchor3 (a ++ w :: b)) : (q ∈ preE anchor3 a\/q ∈ postE b)\/q = (lastOf anchor3 a,w.1)\/q = (w,heads b):=by
 rw [edges_app] at h;have hp : postE (w :: b) = (w,heads b) :: postE b:=edges_head w b;rw [hp] at h;simp only [List.mem_append,List.mem_cons,heads] at h;rcases h with h | h | h | h
 ·exact .inl (.inl h)
 ·exact .inr (.inl h)
 ·exact .inr (.inr h)
 ·exact .inl (.inr h)
theorem mem_get {α : Type} {l : List α} {x : α} (h : x ∈ l) : ∃ j : Nat,l[j]? = some x:=List.mem_iff_getElem?.1 h
theorem QM.put {a b : List Spot3} (h : QM M c (a ++ b)) (h0 : 0<=c) {f q1 q2 : Nat} {nf nd : PNode} {e1 e2 : PEntry} (key value : Int) (hka : ∀ q ∈ a,q.2.1 < key) (hkb : ∀ q ∈ b,key < q.2.1) (hk : 0<=key/\key<=1099511627776) (hnf : M.ns[f]? = some nf) (hfu : nf.used = false) (he1 : M.es[q1]? = some e1) (hu1 : e1.used = false) (he2 : M.es[q2]? = some e2) (hu2 : e2.used = false) (hq : q1≠q2) (hnd : M.ns[(lastOf anchor3 a).1]? = some nd)
  (ges : ∀ j,M'.es[j]? = if q2 = j then some ⟨true,false,(lastOf anchor3 a).1,false,f,c + 1⟩ else if q1 = j then some ⟨true,false,f,false,heads b,c + 1⟩ else M.es[j]?)
  (gns : ∀ j,M'.ns[j]? = if f = j then some (linked false (heads b) (PNode.made key value)) else if (lastOf anchor3 a).1 = j then some { nd with leads:=upd nd.leads false f } else M.ns[j]?) : QM M' (c + 1) (a ++ (f,key,value) :: b):=by
 obtain ⟨x,hx⟩ : ∃ x,x = lastOf anchor3 a:=⟨_,rfl⟩;rw [<- hx] at hnd ges gns;have hlx:=h.live _ (mem_mid a b);rw [<- hx] at hlx;obtain ⟨nd0,l1,l2,l3,l4,l5,l6,l7,l8,l9⟩:=hlx;simp only at l1 l7 l8 l9;obtain rfl : nd0 = nd:=by rw [hnd] at l1; exact (Option.some.inj l1).symm
 have hunused : ∀ (w : Nat) (nw : PNode),M.ns[w]? = some nw->nw.used = true->f≠w:=by
  rintro w nw h1 h2 rfl;rw [hnf] at h1;obtain rfl:=Option.some.inj h1;rw [hfu] at h2;cases h2
 have hfx : f≠x.1:=hunused _ _ hnd l2;have old : ∀ (j : Nat) en,M.es[j]? = some en->en.used = true->M'.es[j]? = some en:=by
  intro j en hj hu;rw [ges];rw [if_neg,if_neg]
  ·exact hj
  ·rintro rfl;rw [he1] at hj;obtain rfl:=Option.some.inj hj;rw [hu1] at hu; cases hu
  ·rintro rfl;rw [he2] at hj;obtain rfl:=Option.some.inj hj;rw [hu2] at hu; cases hu
 have mem' : ∀ en ∈ M'.es,en = ⟨true,false,x.1,false,f,c + 1⟩\/en = ⟨true,false,f,false,heads b,c + 1⟩\/en ∈ M.es:=by
  intro en he;obtain ⟨j,hj⟩:=mem_get he;rw [ges] at hj;by_cases h1 : q2 = j
  ·rw [if_pos h1] at hj; exact .inl (Option.some.inj hj).symm
  ·rw [if_neg h1] at hj;by_cases h2 : q1 = j
   ·rw [if_pos h2] at hj; exact .inr (.inl (Option.some.inj hj).symm)
   ·rw [if_neg h2] at hj; exact .inr (.inr (List.mem_of_getElem? hj))
 have hsrc : ∀ en ∈ M.es,en.used = true->en.src≠f:=by
  intro en he hu hh;obtain ⟨_,_,_,w,nw,h1,_,h3,h4⟩:=h.ents en he hu
  have:=hunused w nw h3 h4
  omega
 have m2 : (⟨true,false,x.1,false,f,c + 1⟩ : PEntry) ∈ M'.es:=List.mem_of_getElem? (i:=q2) (by rw [ges]; simp);have m1 : (⟨true,false,f,false,heads b,c + 1⟩ : PEntry) ∈ M'.es:=List.mem_of_getElem? (i:=q1) (by rw [ges]; simp [Ne.symm hq]);have hnp : ∀ q,q ∈ preE anchor3 a\/q ∈ postE b->q.1.1≠x.1:=by rw [hx]; exact edges_split h.nodup
 have far : ∀ q,q ∈ preE anchor3 a\/q ∈ postE b->f≠q.1.1:=by
  intro q hq;obtain ⟨nq,p1,p2,_⟩:=h.live q (mem_split hq);exact hunused _ _ p1 p2
 obtain ⟨ne,z1,z2,z3,z4,z5,z6,z7⟩:=h.end_;have hx1 : x.1≠1:=by
  intro he;rw [he] at hnd;rw [hnd] at z1;obtain rfl:=Option.some.inj z1;rw [l6] at z6;cases z6
 have hf1 : f≠1:=hunused _ _ z1 z2;have nsm : ∀ nw ∈ M'.ns,nw = linked false (heads b) (PNode.made key value)\/nw = { nd0 with leads:=upd nd0.leads false f }\/nw ∈ M.ns:=by
  intro nw hw;obtain ⟨j,hj⟩:=mem_get hw;rw [gns] at hj;by_cases h1 : f = j
  ·rw [if_pos h1] at hj; exact .inl (Option.some.inj hj).symm
  ·rw [if_neg h1] at hj;by_cases h2 : x.1 = j
   ·rw [if_pos h2] at hj; exact .inr (.inl (Option.some.inj hj).symm)
   ·rw [if_neg h2] at hj; exact .inr (.inr (List.mem_of_getElem? hj))
 have hfm : f ∉ 0 :: 1 :: (a ++ b).map (·.1):=by
  intro hf;rcases List.mem_cons.1 hf with hf | hf
  ·have hz : (anchor3 : Spot3) ∈ (edges anchor3 (a ++ b)).map (fun q=>q.1):=by rw [edges_src]; simp
   obtain ⟨q,hq',he⟩:=List.mem_map.1 hz;obtain ⟨nq,p1,p2,_⟩:=h.live q hq';rw [he] at p1;exact hunused _ _ p1 p2 hf
  ·rcases List.mem_cons.1 hf with hf | hf
   ·exact hf1 hf
   ·obtain ⟨p,hp,he⟩:=List.mem_map.1 hf;have hz : p ∈ (edges anchor3 (a ++ b)).map (fun q=>q.1):=by rw [edges_src]; exact List.mem_cons_of_mem _ hp
    obtain ⟨q,hq',hqe⟩:=List.mem_map.1 hz;obtain ⟨nq,p1,p2,_⟩:=h.live q hq';rw [hqe] at p1;exact hunused _ _ p1 p2 he.symm
 have hmem : ∀ j,j ∈ 0 :: 1 :: (a ++ (f,key,value) :: b).map (·.1) ↔ j = f\/j ∈ 0 :: 1 :: (a ++ b).map (·.1):=by
  intro j;simp only [List.map_append,List.map_cons,List.mem_cons,List.mem_append];constructor
  ·rintro (h | h | h | h | h) <;> simp [h]
  ·rintro (h | h | h | h | h) <;> simp [h]
 refine ⟨?_,?_,?_,?_,?_,?_,?_,?_,?_,?_,?_,?_⟩
 ·exact ⟨ne,by rw [gns,if_neg hf1,if_neg hx1]; exact z1,z2,z3,z4,z5,z6,z7⟩
 ·intro q hq';rcases edges_put _ hq' with hq' | hq' | hq'
  ·obtain ⟨nq,p1,p2⟩:=h.live q (mem_split hq');exact ⟨nq,by rw [gns,if_neg (far q hq'),if_neg (fun he=>hnp q hq' he.symm)]; exact p1,p2⟩
  ·rw [hq',<- hx];refine ⟨{ nd0 with leads:=upd nd0.leads false f },?_,l2,l3,l4,l5,l6,l7,l8,by simp [upd]⟩;show M'.ns[x.1]? = _;rw [gns,if_neg hfx,if_pos rfl]
  ·rw [hq'];refine ⟨linked false (heads b) (PNode.made key value),?_,rfl,rfl,rfl,rfl,rfl,rfl,rfl,by simp [linked,upd]⟩;show M'.ns[f]? = _;rw [gns,if_pos rfl]
 ·intro q hq';rcases edges_put _ hq' with hq' | hq' | hq'
  ·obtain ⟨en,p1,p2,p3,p4,p5⟩:=h.newest q (mem_split hq');obtain ⟨j,hj⟩:=mem_get p1;refine ⟨en,List.mem_of_getElem? (old j en hj p2),p2,p3,p4,?_⟩;intro e' he' hu' hs';rcases mem' e' he' with rfl | rfl | hm
   ·have:=hnp q hq'; simp only at hs'; omega
   ·have:=far q hq'; simp only at hs'; omega
   ·exact p5 e' hm hu' hs'
  ·rw [hq',<- hx];refine ⟨_,m2,rfl,rfl,rfl,?_⟩;intro e' he' hu' hs';rcases mem' e' he' with rfl | rfl | hm
   ·exact Int.le_refl _
   ·exact Int.le_refl _
   ·have:=(h.ents e' hm hu').2.2.1
    show e'.stamp<=c + 1;omega
  ·rw [hq'];refine ⟨_,m1,rfl,rfl,rfl,?_⟩;intro e' he' hu' hs';rcases mem' e' he' with rfl | rfl | hm
   ·simp only at hs'; omega
   ·exact Int.le_refl _
   ·exact absurd hs' (hsrc e' hm hu')
 ·have hs:=h.sorted;rw [List.pairwise_append] at hs ⊢;refine ⟨hs.1,List.pairwise_cons.2 ⟨fun q hq'=>hkb q hq',hs.2.1⟩,?_⟩;intro p hp q hq';rcases List.mem_cons.1 hq' with rfl | hq'
  ·exact hka p hp
  ·exact hs.2.2 p hp q hq'
 ·intro q hq';rcases List.mem_append.1 hq' with hq' | hq'
  ·exact h.keys q (by simp [hq'])
  ·rcases List.mem_cons.1 hq' with rfl | hq'
   ·exact hk
   ·exact h.keys q (by simp [hq'])
 ·have hp : (0 :: 1 :: (a ++ (f,key,value) :: b).map (·.1)).Perm (f :: 0 :: 1 :: (a ++ b).map (·.1)):=by
   simp only [List.map_append,List.map_cons];exact ((List.perm_middle.cons 1).trans (List.Perm.swap f 1 _)).cons 0 |>.trans (List.Perm.swap f 0 _)
  rw [hp.nodup_iff];exact List.nodup_cons.2 ⟨hfm,h.nodup⟩
 ·intro j nw hj hu';rw [hmem];rw [gns] at hj;by_cases h1 : f = j
  ·exact .inl (.inl h1.symm)
  ·rw [if_neg h1] at hj;by_cases h2 : x.1 = j
   ·rcases h.used x.1 nd0 hnd l2 with h3 | h3
    ·rw [h2] at h3; exact .inl (.inr h3)
    ·rw [l4] at h3; exact nomatch h3.1
   ·rw [if_neg h2] at hj;rcases h.used j nw hj hu' with h3 | h3
    ·exact .inl (.inr h3)
    ·exact .inr h3
 ·intro nw hw hu';rcases nsm nw hw with rfl | rfl | hm
  ·rfl
  ·exact l4
  ·exact h.unused nw hm hu'
 ·intro nw hw hu';rcases nsm nw hw with rfl | rfl | hm
  ·rfl
  ·exact l5
  ·exact h.hold nw hm hu'
 ·intro en he;rcases mem' en he with rfl | rfl | hm
  ·rfl
  ·rfl
  ·exact h.calm en hm
 ·intro en he hu';rcases mem' en he with rfl | rfl | hm
  ·exact ⟨rfl,by show 0<=c + 1; omega,Int.le_refl _,x.1,{ nd0 with leads:=upd nd0.leads false f },rfl,hx1,by rw [gns,if_neg hfx,if_pos rfl],l2⟩
  ·exact ⟨rfl,by show 0<=c + 1; omega,Int.le_refl _,f,_,rfl,hf1,by rw [gns,if_pos rfl],rfl⟩
  ·obtain ⟨p1,p2,p3,w,nw,p4,p5,p6,p7⟩:=h.ents en hm hu';refine ⟨p1,p2,by omega,w,?_⟩;by_cases h2 : x.1 = w
   ·exact ⟨{ nd0 with leads:=upd nd0.leads false f },p4,p5,by rw [gns,if_neg (hunused _ _ p6 p7),if_pos h2],l2⟩
   ·exact ⟨nw,p4,p5,by rw [gns,if_neg (hunused _ _ p6 p7),if_neg h2]; exact p6,p7⟩
 ·intro i j ea eb hi hj ua ub hs ht;rw [ges] at hi hj;by_cases i2 : q2 = i
  ·rw [if_pos i2] at hi;obtain rfl:=Option.some.inj hi;by_cases j2 : q2 = j
   ·omega
   ·rw [if_neg j2] at hj;by_cases j1 : q1 = j
    ·rw [if_pos j1] at hj;obtain rfl:=Option.some.inj hj;simp only at hs;omega
    ·rw [if_neg j1] at hj
     have:=(h.ents eb (List.mem_of_getElem? hj) ub).2.2.1
     simp only at ht;omega
  ·rw [if_neg i2] at hi;by_cases i1 : q1 = i
   ·rw [if_pos i1] at hi;obtain rfl:=Option.some.inj hi;by_cases j2 : q2 = j
    ·rw [if_pos j2] at hj;obtain rfl:=Option.some.inj hj;simp only at hs;omega
    ·rw [if_neg j2] at hj;by_cases j1 : q1 = j
     ·omega
     ·rw [if_neg j1] at hj
      have:=(h.ents eb (List.mem_of_getElem? hj) ub).2.2.1
      simp only at ht;omega
   ·rw [if_neg i1] at hi;have h3:=(h.ents ea (List.mem_of_getElem? hi) ua).2.2.1;by_cases j2 : q2 = j
    ·rw [if_pos j2] at hj;obtain rfl:=Option.some.inj hj;simp only at ht;omega
    ·rw [if_neg j2] at hj;by_cases j1 : q1 = j
     ·rw [if_pos j1] at hj;obtain rfl:=Option.some.inj hj;simp only at ht;omega
     ·rw [if_neg j1] at hj;exact h.uniq i j ea eb hi hj ua ub hs ht
end
end
section
section
variable {M M' : PMem} {c : Int}
theorem preE_snoc : ∀ (a : List Spot3) (x w : Spot3),preE x (a ++ [w]) = preE x a ++ [(lastOf x a,w.1)]
 | [],x,w=>rfl
 | y :: r,x,w=>by
  show (x,y.1) :: preE y (r ++ [w]) = (x,y.1) :: (preE y r ++ _);rw [preE_snoc r y w]; rfl
theorem lastOf_snoc : ∀ (a : List Spot3) (x w : Spot3),lastOf x (a ++ [w]) = w
 | [],_,_=>rfl
 | y :: r,_,w=>lastOf_snoc r y w
theorem QM.del {a b : List Spot3} {w : Spot3} (h : QM M c (a ++ w :: b)) (h0 : 0<=c) {q1 : Nat} {nd nb : PNode} {e1 : PEntry} (he1 : M.es[q1]? = some e1) (hu1 : e1.used = false) (hnd : M.ns[(lastOf anchor3 a).1]? = some nd) (hnb : M.ns[w.1]? = some nb)
  (ges : ∀ j,M'.es[j]? = if q1 = j then some ⟨true,false,(lastOf anchor3 a).1,false,heads b,c + 1⟩ else M.es[j]?)
  (gns : ∀ j,M'.ns[j]? = if w.1 = j then some { nb with dead:=true,retired:=true,retiredAt:=c + 1 } else if (lastOf anchor3 a).1 = j then some { nd with leads:=upd nd.leads false (heads b) } else M.ns[j]?) : QM M' (c + 1) (a ++ b):=by
 obtain ⟨x,hx⟩ : ∃ x,x = lastOf anchor3 a:=⟨_,rfl⟩;rw [<- hx] at hnd ges gns;have hpost : postE (w :: b) = (w,heads b) :: postE b:=edges_head w b;have hlx:=h.live _ (mem_mid a (w :: b));rw [<- hx] at hlx;obtain ⟨nd0,l1,l2,l3,l4,l5,l6,l7,l8,l9⟩:=hlx;simp only at l1 l7 l8 l9;obtain rfl : nd0 = nd:=by rw [hnd] at l1; exact (Option.some.inj l1).symm
 obtain ⟨nb0,b1,b2,b3,b4,b5,b6,b7,b8,b9⟩:=h.live (w,heads b) (mem_split (.inr (by rw [hpost]; simp)));simp only at b1 b7 b8 b9;obtain rfl : nb0 = nb:=by rw [hnb] at b1; exact (Option.some.inj b1).symm
 have hsx : ∀ q,q ∈ preE anchor3 a\/q ∈ postE (w :: b)->q.1.1≠x.1:=by rw [hx]; exact edges_split h.nodup
 have hsw : ∀ q,q ∈ preE anchor3 (a ++ [w])\/q ∈ postE b->q.1.1≠w.1:=by
  have:=edges_split (a:=a ++ [w]) (b:=b) (by simpa using h.nodup)
  rw [lastOf_snoc] at this;exact this
 have hxw : w.1≠x.1:=hsx (w,heads b) (.inr (by rw [hpost]; simp));have hnp : ∀ q,q ∈ preE anchor3 a\/q ∈ postE b->q.1.1≠x.1:=fun q hq=>hsx q (by rw [hpost]; rcases hq with hq | hq <;> simp [hq])
 have far : ∀ q,q ∈ preE anchor3 a\/q ∈ postE b->w.1≠q.1.1:=fun q hq he=>hsw q (by rw [preE_snoc]; rcases hq with hq | hq <;> simp [hq]) he.symm
 have split : ∀ q,q ∈ preE anchor3 a\/q ∈ postE b->q ∈ edges anchor3 (a ++ w :: b):=fun q hq=>mem_split (by rw [hpost]; rcases hq with hq | hq <;> simp [hq])
 have old : ∀ (j : Nat) en,M.es[j]? = some en->en.used = true->M'.es[j]? = some en:=by
  intro j en hj hu;rw [ges,if_neg]
  ·exact hj
  ·rintro rfl;rw [he1] at hj;obtain rfl:=Option.some.inj hj;rw [hu1] at hu; cases hu
 have mem' : ∀ en ∈ M'.es,en = ⟨true,false,x.1,false,heads b,c + 1⟩\/en ∈ M.es:=by
  intro en he;obtain ⟨j,hj⟩:=mem_get he;rw [ges] at hj;by_cases h2 : q1 = j
  ·rw [if_pos h2] at hj; exact .inl (Option.some.inj hj).symm
  ·rw [if_neg h2] at hj; exact .inr (List.mem_of_getElem? hj)
 have m1 : (⟨true,false,x.1,false,heads b,c + 1⟩ : PEntry) ∈ M'.es:=List.mem_of_getElem? (i:=q1) (by rw [ges]; simp);have nsm : ∀ nw ∈ M'.ns,nw = { nb0 with dead:=true,retired:=true,retiredAt:=c + 1 }\/nw = { nd0 with leads:=upd nd0.leads false (heads b) }\/nw ∈ M.ns:=by
  intro nw hw;obtain ⟨j,hj⟩:=mem_get hw;rw [gns] at hj;by_cases h1 : w.1 = j
  ·rw [if_pos h1] at hj; exact .inl (Option.some.inj hj).symm
  ·rw [if_neg h1] at hj;by_cases h2 : x.1 = j
   ·rw [if_pos h2] at hj; exact .inr (.inl (Option.some.inj hj).symm)
   ·rw [if_neg h2] at hj; exact .inr (.inr (List.mem_of_getElem? hj))
 obtain ⟨ne,z1,z2,z3,z4,z5,z6,z7⟩:=h.end_;have hx1 : x.1≠1:=by
  intro he;rw [he] at hnd;rw [hnd] at z1;obtain rfl:=Option.some.inj z1;rw [l6] at z6;cases z6
 have hw1 : w.1≠1:=by
  intro he;rw [he] at hnb;rw [hnb] at z1;obtain rfl:=Option.some.inj z1;rw [b6] at z6;cases z6
 have cases' : ∀ q,q ∈ edges anchor3 (a ++ b)->(q ∈ preE anchor3 a\/q ∈ postE b)\/q = (x,heads b):=by
  intro q hq;rw [edges_app,<- hx] at hq;simp only [List.mem_append,List.mem_cons] at hq;rcases hq with hq | hq | hq
  ·exact .inl (.inl hq)
  ·exact .inr hq
  ·exact .inl (.inr hq)
 have hsub : (a ++ b).Sublist (a ++ w :: b):=List.Sublist.append (List.Sublist.refl a) (List.sublist_cons_self w b);have hmem : ∀ j,j ∈ 0 :: 1 :: (a ++ w :: b).map (·.1)->j = w.1\/j ∈ 0 :: 1 :: (a ++ b).map (·.1):=by
  intro j;simp only [List.map_append,List.map_cons,List.mem_cons,List.mem_append];rintro (h | h | h | h | h) <;> simp [h]
 refine ⟨?_,?_,?_,?_,?_,?_,?_,?_,?_,?_,?_,?_⟩
 ·exact ⟨ne,by rw [gns,if_neg hw1,if_neg hx1]; exact z1,z2,z3,z4,z5,z6,z7⟩
 ·intro q hq';rcases cases' q hq' with hq' | rfl
  ·obtain ⟨nq,p1,p2⟩:=h.live q (split q hq');exact ⟨nq,by rw [gns,if_neg (far q hq'),if_neg (fun he=>hnp q hq' he.symm)]; exact p1,p2⟩
  ·refine ⟨{ nd0 with leads:=upd nd0.leads false (heads b) },?_,l2,l3,l4,l5,l6,l7,l8,by simp [upd]⟩;show M'.ns[x.1]? = _;rw [gns,if_neg hxw,if_pos rfl]
 ·intro q hq';rcases cases' q hq' with hq' | rfl
  ·obtain ⟨en,p1,p2,p3,p4,p5⟩:=h.newest q (split q hq');obtain ⟨j,hj⟩:=mem_get p1;refine ⟨en,List.mem_of_getElem? (old j en hj p2),p2,p3,p4,?_⟩;intro e' he' hu' hs';rcases mem' e' he' with rfl | hm
   ·have:=hnp q hq'; simp only at hs'; omega
   ·exact p5 e' hm hu' hs'
  ·refine ⟨_,m1,rfl,rfl,rfl,?_⟩;intro e' he' hu' hs';rcases mem' e' he' with rfl | hm
   ·exact Int.le_refl _
   ·have:=(h.ents e' hm hu').2.2.1
    show e'.stamp<=c + 1;omega
 ·exact h.sorted.sublist hsub
 ·exact fun q hq=>h.keys q (hsub.mem hq)
 ·exact List.Nodup.sublist (((hsub.map (·.1)).cons_cons 1).cons_cons 0) h.nodup
 ·intro j nw hj hu';rw [gns] at hj;by_cases h1 : w.1 = j
  ·rw [if_pos h1] at hj;obtain rfl:=Option.some.inj hj;exact .inr ⟨rfl,rfl⟩
  ·rw [if_neg h1] at hj;by_cases h2 : x.1 = j
   ·rcases h.used x.1 nd0 hnd l2 with h3 | h3
    ·rw [h2] at h3;rcases hmem j h3 with h4 | h4
     ·exact absurd h4.symm h1
     ·exact .inl h4
    ·rw [l4] at h3; exact nomatch h3.1
   ·rw [if_neg h2] at hj;rcases h.used j nw hj hu' with h3 | h3
    ·rcases hmem j h3 with h4 | h4
     ·exact absurd h4.symm h1
     ·exact .inl h4
    ·exact .inr h3
 ·intro nw hw hu';rcases nsm nw hw with rfl | rfl | hm
  ·simp only at hu'; rw [b2] at hu'; cases hu'
  ·exact l4
  ·exact h.unused nw hm hu'
 ·intro nw hw hu';rcases nsm nw hw with rfl | rfl | hm
  ·exact b5
  ·exact l5
  ·exact h.hold nw hm hu'
 ·intro en he;rcases mem' en he with rfl | hm
  ·rfl
  ·exact h.calm en hm
 ·intro en he hu';rcases mem' en he with rfl | hm
  ·exact ⟨rfl,by show 0<=c + 1; omega,Int.le_refl _,x.1,{ nd0 with leads:=upd nd0.leads false (heads b) },rfl,hx1,by rw [gns,if_neg hxw,if_pos rfl],l2⟩
  ·obtain ⟨p1,p2,p3,v,nw,p4,p5,p6,p7⟩:=h.ents en hm hu';refine ⟨p1,p2,by omega,v,?_⟩;by_cases h3 : w.1 = v
   ·exact ⟨{ nb0 with dead:=true,retired:=true,retiredAt:=c + 1 },p4,p5,by rw [gns,if_pos h3],b2⟩
   ·by_cases h2 : x.1 = v
    ·exact ⟨{ nd0 with leads:=upd nd0.leads false (heads b) },p4,p5,by rw [gns,if_neg h3,if_pos h2],l2⟩
    ·exact ⟨nw,p4,p5,by rw [gns,if_neg h3,if_neg h2]; exact p6,p7⟩
 ·intro i j ea eb hi hj ua ub hs ht;rw [ges] at hi hj;by_cases i1 : q1 = i
  ·rw [if_pos i1] at hi;obtain rfl:=Option.some.inj hi;by_cases j1 : q1 = j
   ·omega
   ·rw [if_neg j1] at hj
    have:=(h.ents eb (List.mem_of_getElem? hj) ub).2.2.1
    simp only at ht;omega
  ·rw [if_neg i1] at hi;have h3:=(h.ents ea (List.mem_of_getElem? hi) ua).2.2.1;by_cases j1 : q1 = j
   ·rw [if_pos j1] at hj;obtain rfl:=Option.some.inj hj;simp only at ht;omega
   ·rw [if_neg j1] at hj;exact h.uniq i j ea eb hi hj ua ub hs ht
end
end
section
section
variable {M M' : PMem} {c : Int} {ch : List Spot3}
theorem QM.wiped (h : QM M c ch) (ges : ∀ j : Nat,M'.es[j]? = M.es[j]?\/(M'.es[j]? = some PEntry.zero/\∃ e,M.es[j]? = some e/\e.used = false)) (gns : ∀ j : Nat,M'.ns[j]? = M.ns[j]?\/(M'.ns[j]? = some PNode.zero/\∃ e,M.ns[j]? = some e/\e.used = false)) : QM M' c ch/\M'.room = M.room:=by
 have ns1 : ∀ (j : Nat) nd,M.ns[j]? = some nd->nd.used = true->M'.ns[j]? = some nd:=by
  intro j nd hj hu;rcases gns j with h1 | ⟨_,e,h2,h3⟩
  ·rw [h1]; exact hj
  ·rw [hj] at h2; obtain rfl:=Option.some.inj h2; rw [hu] at h3; cases h3
 have es1 : ∀ (j : Nat) en,M.es[j]? = some en->en.used = true->M'.es[j]? = some en:=by
  intro j nd hj hu;rcases ges j with h1 | ⟨_,e,h2,h3⟩
  ·rw [h1]; exact hj
  ·rw [hj] at h2; obtain rfl:=Option.some.inj h2; rw [hu] at h3; cases h3
 have ns2 : ∀ (j : Nat) nd,M'.ns[j]? = some nd->nd = PNode.zero\/M.ns[j]? = some nd:=by
  intro j nd hj;rcases gns j with h1 | ⟨h1,_⟩
  ·right; rw [<- h1]; exact hj
  ·left; rw [h1] at hj; exact (Option.some.inj hj).symm
 have es2 : ∀ (j : Nat) en,M'.es[j]? = some en->en = PEntry.zero\/M.es[j]? = some en:=by
  intro j nd hj;rcases ges j with h1 | ⟨h1,_⟩
  ·right; rw [<- h1]; exact hj
  ·left; rw [h1] at hj; exact (Option.some.inj hj).symm
 have esm : ∀ en ∈ M'.es,en.used = true->en ∈ M.es:=by
  intro en he hu;obtain ⟨j,hj⟩:=mem_get he;rcases es2 j en hj with rfl | h1
  ·cases hu
  ·exact List.mem_of_getElem? h1
 refine ⟨⟨?_,?_,?_,h.sorted,h.keys,h.nodup,?_,?_,?_,?_,?_,?_⟩,?_⟩
 ·obtain ⟨ne,z1,z2,z3⟩:=h.end_;exact ⟨ne,ns1 _ _ z1 z2,z2,z3⟩
 ·intro q hq;obtain ⟨nd,p1,p2,p3⟩:=h.live q hq;exact ⟨nd,ns1 _ _ p1 p2,p2,p3⟩
 ·intro q hq;obtain ⟨en,p1,p2,p3,p4,p5⟩:=h.newest q hq;obtain ⟨j,hj⟩:=mem_get p1;exact ⟨en,List.mem_of_getElem? (es1 j en hj p2),p2,p3,p4,fun e' he hu hs=>p5 e' (esm e' he hu) hu hs⟩
 ·intro i nd hi hu;rcases ns2 i nd hi with rfl | h1
  ·cases hu
  ·exact h.used i nd h1 hu
 ·intro nd hm hu;obtain ⟨j,hj⟩:=mem_get hm;rcases ns2 j nd hj with rfl | h1
  ·rfl
  ·exact h.unused nd (List.mem_of_getElem? h1) hu
 ·intro nd hm hu;obtain ⟨j,hj⟩:=mem_get hm;rcases ns2 j nd hj with rfl | h1
  ·cases hu
  ·exact h.hold nd (List.mem_of_getElem? h1) hu
 ·intro en hm;obtain ⟨j,hj⟩:=mem_get hm;rcases es2 j en hj with rfl | h1
  ·rfl
  ·exact h.calm en (List.mem_of_getElem? h1)
 ·intro en hm hu;obtain ⟨p1,p2,p3,x,nd,p4,p5,p6,p7⟩:=h.ents en (esm en hm hu) hu;exact ⟨p1,p2,p3,x,nd,p4,p5,ns1 _ _ p6 p7,p7⟩
 ·intro i j a b hi hj ua ub hs ht;rcases es2 i a hi with rfl | hi
  ·cases ua
  ·rcases es2 j b hj with rfl | hj
   ·cases ub
   ·exact h.uniq i j a b hi hj ua ub hs ht
 ·have hm1 : M'.ns.map (·.used) = M.ns.map (·.used):=by
   apply List.ext_getElem?;intro j;rw [List.getElem?_map,List.getElem?_map];rcases gns j with h1 | ⟨h1,e,h2,h3⟩
   ·rw [h1]
   ·rw [h1,h2]; simp [PNode.zero,h3]
  have hm2 : M'.es.map (·.used) = M.es.map (·.used):=by
   apply List.ext_getElem?;intro j;rw [List.getElem?_map,List.getElem?_map];rcases ges j with h1 | ⟨h1,e,h2,h3⟩
   ·rw [h1]
   ·rw [h1,h2]; simp [PEntry.zero,h3]
  unfold PMem.room;have a1:=count_map (fun b=>!b) (fun x : PNode=>x.used) M'.ns;have a2:=count_map (fun b=>!b) (fun x : PNode=>x.used) M.ns;have a3:=count_map (fun b=>!b) (fun x : PEntry=>x.used) M'.es;have a4:=count_map (fun b=>!b) (fun x : PEntry=>x.used) M.es;rw [hm1] at a1;rw [hm2] at a3;rw [<- a1,<- a2,<- a3,<- a4]
theorem led_fold (n : Int) (s : Bool) (time : Int) : ∀ (es : List PEntry) (p : Int × Int),(∀ e ∈ es,isSt n s e = true->e.stamp<=time) ->
  (es.foldl (ledStep n s time) p = p/\∀ e ∈ es,isSt n s e = true->e.stamp<=p.1)\/(∃ e ∈ es,isSt n s e = true/\es.foldl (ledStep n s time) p = (e.stamp,e.dst)/\p.1 < e.stamp/\∀ e' ∈ es,isSt n s e' = true->e'.stamp<=e.stamp)
 | [],p,_=>.inl ⟨rfl,by intro e he; cases he⟩
 | x :: r,p,h=>by
  have hr : ∀ e ∈ r,isSt n s e = true->e.stamp<=time:=fun e he=>h e (List.mem_cons_of_mem _ he)
  rw [List.foldl_cons];by_cases hx : isSt n s x = true/\p.1 < x.stamp
  ·have hst : ledStep n s time p x = (x.stamp,x.dst):=by
    unfold ledStep;rw [if_pos (by simp [hx.1,hx.2,h x (by simp) hx.1])]
   rw [hst];right;rcases led_fold n s time r (x.stamp,x.dst) hr with ⟨h1,h2⟩ | ⟨e,he,h1,h2,h3,h4⟩
   ·refine ⟨x,by simp,hx.1,h1,hx.2,?_⟩;intro e' he' hs';rcases List.mem_cons.1 he' with rfl | he'
    ·exact Int.le_refl _
    ·exact h2 e' he' hs'
   ·simp only at h3;refine ⟨e,List.mem_cons_of_mem _ he,h1,h2,by omega,?_⟩;intro e' he' hs';rcases List.mem_cons.1 he' with rfl | he'
    ·omega
    ·exact h4 e' he' hs'
  ·have hst : ledStep n s time p x = p:=by
    unfold ledStep;rw [if_neg];simp only [Bool.and_eq_true,decide_eq_true_eq];rintro ⟨h1,_,h2⟩;exact hx ⟨h1,h2⟩
   rw [hst];have hxp : isSt n s x = true->x.stamp<=p.1:=fun hs=>by
    rcases Int.lt_or_le p.1 x.stamp with hlt | hle
    ·exact absurd ⟨hs,hlt⟩ hx
    ·exact hle
   rcases led_fold n s time r p hr with ⟨h1,h2⟩ | ⟨e,he,h1,h2,h3,h4⟩
   ·left;refine ⟨h1,?_⟩;intro e' he' hs';rcases List.mem_cons.1 he' with rfl | he'
    ·exact hxp hs'
    ·exact h2 e' he' hs'
   ·right;refine ⟨e,List.mem_cons_of_mem _ he,h1,h2,h3,?_⟩;intro e' he' hs';rcases List.mem_cons.1 he' with rfl | he'
    ·have:=hxp hs'; omega
    ·exact h4 e' he' hs'
theorem QM.led (h : QM M c ch) {q : Spot3 × Nat} (hq : q ∈ edges anchor3 ch) : M.ledTo q.1.1 false c = q.2/\M.hasPending q.1.1 false = false:=by
 obtain ⟨en,p1,p2,p3,p4,p5⟩:=h.newest q hq;have pst:=h.ents en p1 p2;have hen : isSt q.1.1 false en = true:=by
  unfold isSt;rw [p2,h.calm en p1,p3,pst.1]; simp
 have isu : ∀ e,isSt q.1.1 false e = true->e.used = true/\e.src = q.1.1:=by
  intro e he;simp only [isSt,Bool.and_eq_true,beq_iff_eq] at he;exact ⟨he.1,he.2.2.1⟩
 constructor
 ·unfold PMem.ledTo;rcases led_fold q.1.1 false c M.es (-1,1) (fun e he hs=>(h.ents e he (isu e hs).1).2.2.1) with ⟨h1,h2⟩ | ⟨e,he,h1,h2,h3,h4⟩
  ·have:=h2 en p1 hen
   have:=pst.2.1
   simp only at *;omega
  ·rw [h2];have e1:=h4 en p1 hen;have e2:=p5 e he (isu e h1).1 (isu e h1).2;obtain ⟨i,hi⟩:=mem_get he;obtain ⟨j,hj⟩:=mem_get p1
   have:=h.uniq i j e en hi hj (isu e h1).1 p2 (by rw [(isu e h1).2,p3]) (by omega)
   subst this;rw [hi] at hj;obtain rfl:=Option.some.inj hj;exact p4
 ·unfold PMem.hasPending PMem.pending;rw [find_miss _ _ (by intro j hj y hy; have:=h.calm y (List.mem_of_getElem? hy); simp [isPd,this])]
  rfl
end
end
section
section
variable {M : PMem} {P : PSt} {i : Nat} {t : PThread} {c sl : Int} {k : PWork}
theorem run_rd (hi : i < P.ts.length) (hk : k.kind = 3\/k.kind = 4) (hn : k.next = 4) {P' : PSt} (h : (st P i t M c sl k).read i k = (P',1)) : Run (st P i t M c sl k) i 1 P':=by
 refine Run.one ?_;rw [st_th hi];unfold PSt.step;simp only [hn];rw [if_pos hk]; exact h
def Led (M : PMem) (c : Int) (q : Spot3 × Nat) : Prop:=Live M q/\M.ledTo q.1.1 false c = q.2/\M.hasPending q.1.1 false = false
theorem read_look (S : PSt) (k : PWork) (i : Nat) {x y : Int} (hk : k.kind = 3) (hli : k.links = []) (hst : k.stand = x) (hs : S.mem.sideFor x k.key = false) (hp : S.mem.hasPending x false = false) (hle : S.mem.ledTo x false k.time = y) : S.read i k = (S.setW i (S.lookUp k y),1):=by
 unfold PSt.read;have hln : S.linkNext k = (x,false):=by
  unfold PSt.linkNext;rw [hli];simp only;rw [hst,hs]
 rw [hln];simp only;rw [hp,hle,if_pos hk]
 rfl
theorem run_look (hi : i < P.ts.length) (h0 : P.kind = 0) (hk : k.kind = 3) (hn : k.next = 4) (hli : k.links = []) (htm : k.time = c) (b : List Spot3) (hb : k.key<=(M.node (heads b)).key) : ∀ (a : List Spot3) (x : Spot3),(∀ q ∈ edges x (a ++ b),Led M c q)->(∀ q ∈ a,q.2.1 < k.key) ->
  Run (st P i t M c sl { k with stand:=x.1 }) i (a.length + 1) (st P i t M c sl { k with stand:=(lastOf x a).1,ans:=if (M.node (heads b)).key = k.key then { stamp:=c,did:=true,value:=(M.node (heads b)).value } else { stamp:=c },next:=13 })
 | [],x,hl,_=>by
  obtain ⟨hL,hle,hp⟩:=hl (x,heads b) (by simp [mem_edges_self]);refine run_rd (k:={ k with stand:=x.1 }) hi (.inl hk) hn ?_;rw [read_look (st P i t M c sl { k with stand:=x.1 }) { k with stand:=x.1 } i (x:=x.1) (y:=heads b) hk hli rfl (hL.leads (P:=st P i t M c sl { k with stand:=x.1 }) rfl k.key).2 hp (by rw [show ({ k with stand:=(x.1 : Int) } : PWork).time = c from htm]; exact hle)]
  congr 1
  rw [st_setW hi];unfold PSt.lookUp;have hpass : (st P i t M c sl { k with stand:=x.1 }).isPassed (heads b : Nat) k.key = false:=by
   unfold PSt.isPassed;rw [if_neg (by show ¬ P.kind = 1; omega)];simp only [decide_eq_false_iff_not];show ¬ (M.node (heads b)).key < k.key;omega
  simp only [hpass,Bool.false_eq_true,if_false];rw [<- htm]
  rfl
 | y :: r,x,hl,ha=>by
  obtain ⟨hL,hle,hp⟩:=hl (x,y.1) (by simp [edges]);have hl' : ∀ q ∈ edges y (r ++ b),Led M c q:=fun q hq=>hl q (by show q ∈ (x,y.1) :: edges y (r ++ b); simp [hq])
  have hy : (M.node y.1).key = y.2.1:=((hl' (y,heads (r ++ b)) (mem_edges_self _ _)).1.key).1;have hr:=run_look hi h0 hk hn hli htm b hb r y hl' (fun q hq=>ha q (by simp [hq]));have e1 : Run (st P i t M c sl { k with stand:=x.1 }) i 1 (st P i t M c sl { k with stand:=y.1 }):=by
   refine run_rd (k:={ k with stand:=x.1 }) hi (.inl hk) hn ?_;rw [read_look (st P i t M c sl { k with stand:=x.1 }) { k with stand:=x.1 } i (x:=x.1) (y:=y.1) hk hli rfl (hL.leads (P:=st P i t M c sl { k with stand:=x.1 }) rfl k.key).2 hp (by rw [show ({ k with stand:=(x.1 : Int) } : PWork).time = c from htm]; exact hle)]
   congr 1
   rw [st_setW hi];unfold PSt.lookUp;have hpass : (st P i t M c sl { k with stand:=x.1 }).isPassed (y.1 : Nat) k.key = true:=by
    unfold PSt.isPassed;rw [if_neg (by show ¬ P.kind = 1; omega)];simp only [decide_eq_true_eq];show (M.node y.1).key < k.key;rw [hy]; exact ha y (by simp)
   simp only [hpass,if_true]
  have:=e1.trans hr
  rw [show (y :: r).length + 1 = 1 + (r.length + 1) by simp; omega];exact this
end
end
section
section
variable {M : PMem} {P : PSt} {i : Nat} {t : PThread} {c sl : Int} {k : PWork}
theorem read_scan (S : PSt) (k : PWork) (i : Nat) {x y : Int} (hk : k.kind = 4) (hli : k.links = [(x,false)]) (hp : S.mem.hasPending x false = false) (hle : S.mem.ledTo x false k.time = y) : S.read i k = (S.setW i (S.scan k y),1):=by
 unfold PSt.read;have hln : S.linkNext k = (x,false):=by
  unfold PSt.linkNext;rw [hli]
 rw [hln];simp only;rw [hp,hle];simp only [Bool.false_eq_true,if_false];rw [if_neg (by omega)]
theorem scan_on (S : PSt) (k : PWork) (h0 : S.kind = 0) {x : Int} {y : Nat} {nd : PNode} (hli : k.links = [(x,false)]) (hy : S.mem.ns[y]? = some nd) (hl : nd.links≠2) (hh : nd.key<=greatestHi k.spans) :
  S.scan k y = { k with noted:=if isIn nd.key (leastLo k.spans) (greatestHi k.spans) then k.noted ++ [(nd.key,nd.value)] else k.noted,links:=[((y : Int),false)] }:=by
 unfold PSt.scan PSt.linksWithin;rw [h0,node_of hy,hli];simp [hh,hl]
theorem scan_end (S : PSt) (k : PWork) (h0 : S.kind = 0) {x : Int} {y : Nat} {nd : PNode} (hli : k.links = [(x,false)]) (hy : S.mem.ns[y]? = some nd) (hh : greatestHi k.spans < nd.key) :
  S.scan k y = { k with links:=[],ans:=answerOf k.spans k.noted k.time,next:=13 }:=by
 unfold PSt.scan PSt.linksWithin;rw [h0,node_of hy,hli];have h1 : ¬ nd.key<=greatestHi k.spans:=by omega
 have h2 : isIn nd.key (leastLo k.spans) (greatestHi k.spans) = false:=isIn_false (by omega);simp [h1,h2,PWork.conclude]
theorem run_scan (hi : i < P.ts.length) (h0 : P.kind = 0) (hk : k.kind = 4) (hn : k.next = 4) (htm : k.time = c) (he : EndIs M) (hhi : greatestHi k.spans<=1099511627776) : ∀ (l : List Spot3) (x : Spot3) (nt : List (Int × Int)),(∀ q ∈ edges x l,Led M c q)->l.Pairwise (fun a b=>a.2.1 < b.2.1) ->
  ∃ (m : Nat) (k' : PWork),m<=l.length + 1/\Run (st P i t M c sl { k with links:=[((x.1 : Int),false)],noted:=nt }) i m (st P i t M c sl k')/\k'.next = 13/\k'.ans = answerOf k.spans (nt ++ (l.filter (fun q=>isIn q.2.1 (leastLo k.spans) (greatestHi k.spans))).map (·.2)) c
 | [],x,nt,hl,_=>by
  obtain ⟨hL,hle,hp⟩:=hl (x,1) (by simp [edges]);obtain ⟨ne,z1,z2,z3,z4,z5,z6,z7⟩:=he;refine ⟨1,{ k with links:=[],noted:=nt,ans:=answerOf k.spans nt k.time,next:=13 },by simp,?_,rfl,by rw [htm]; simp⟩;refine run_rd (k:={ k with links:=[((x.1 : Int),false)],noted:=nt }) hi (.inr hk) hn ?_;rw [read_scan (st P i t M c sl { k with links:=[((x.1 : Int),false)],noted:=nt }) { k with links:=[((x.1 : Int),false)],noted:=nt } i (x:=x.1) (y:=((1 : Nat) : Int)) hk rfl hp (by rw [show ({ k with links:=[((x.1 : Int),false)],noted:=nt } : PWork).time = c from htm]; exact hle)];rw [scan_end (st P i t M c sl { k with links:=[((x.1 : Int),false)],noted:=nt }) { k with links:=[((x.1 : Int),false)],noted:=nt } h0 rfl z1 (by show greatestHi k.spans < _; rw [z7]; omega),st_setW hi]
 | y :: r,x,nt,hl,hs=>by
  obtain ⟨hL,hle,hp⟩:=hl (x,y.1) (by simp [edges]);have hl' : ∀ q ∈ edges y r,Led M c q:=fun q hq=>hl q (by show q ∈ (x,y.1) :: edges y r; simp [hq])
  obtain ⟨⟨nd,l1,l2,l3,l4,l5,l6,l7,l8,l9⟩,_,_⟩:=hl' (y,heads r) (mem_edges_self _ _);simp only at l1 l7 l8;have hs':=List.pairwise_cons.1 hs;have hrd:=read_scan (st P i t M c sl { k with links:=[((x.1 : Int),false)],noted:=nt }) { k with links:=[((x.1 : Int),false)],noted:=nt } i (x:=x.1) (y:=(y.1 : Int)) hk rfl hp (by rw [show ({ k with links:=[((x.1 : Int),false)],noted:=nt } : PWork).time = c from htm]; exact hle);by_cases hh : y.2.1<=greatestHi k.spans
  ·rw [scan_on (st P i t M c sl { k with links:=[((x.1 : Int),false)],noted:=nt }) { k with links:=[((x.1 : Int),false)],noted:=nt } h0 rfl l1 (by rw [l6]; decide) (by rw [l7]; exact hh),st_setW hi,l7,l8] at hrd;obtain ⟨m,k',h1,h2,h3,h4⟩:=run_scan hi h0 hk hn htm he hhi r y (if isIn y.2.1 (leastLo k.spans) (greatestHi k.spans) then nt ++ [(y.2.1,y.2.2)] else nt) hl' hs'.2;refine ⟨1 + m,k',by simp; omega,(run_rd (k:={ k with links:=[((x.1 : Int),false)],noted:=nt }) hi (.inr hk) hn hrd).trans h2,h3,?_⟩;rw [h4]
   congr 1
   rw [List.filter_cons];cases isIn y.2.1 (leastLo k.spans) (greatestHi k.spans) <;> simp
  ·rw [scan_end (st P i t M c sl { k with links:=[((x.1 : Int),false)],noted:=nt }) { k with links:=[((x.1 : Int),false)],noted:=nt } h0 rfl l1 (by rw [l7]; show greatestHi k.spans < _; omega),st_setW hi] at hrd;refine ⟨1,{ k with links:=[],noted:=nt,ans:=answerOf k.spans nt k.time,next:=13 },by simp,run_rd (k:={ k with links:=[((x.1 : Int),false)],noted:=nt }) hi (.inr hk) hn hrd,rfl,?_⟩;rw [htm,List.filter_eq_nil_iff.2]
   ·simp
   ·intro q hq;have : greatestHi k.spans < q.2.1:=by
     rcases List.mem_cons.1 hq with rfl | hq
     ·omega
     ·have:=hs'.1 q hq; omega
    simp [isIn];omega
end
end
section
theorem least_fold : ∀ (l : List (Int × Int)) (m : Int),l.foldl (fun m p=>if p.1 < m then p.1 else m) m<=m/\∀ p ∈ l,l.foldl (fun m p=>if p.1 < m then p.1 else m) m<=p.1
 | [],m=>⟨Int.le_refl _,by intro p hp; cases hp⟩
 | x :: r,m=>by
  rw [List.foldl_cons];obtain ⟨h1,h2⟩:=least_fold r (if x.1 < m then x.1 else m);have h3 : (if x.1 < m then x.1 else m)<=m/\(if x.1 < m then x.1 else m)<=x.1:=by split <;> omega
  refine ⟨by omega,?_⟩;intro p hp;rcases List.mem_cons.1 hp with rfl | hp
  ·omega
  ·exact h2 p hp
theorem great_fold : ∀ (l : List (Int × Int)) (m b : Int),m<=b->(∀ p ∈ l,p.2<=b)->m<=l.foldl (fun m p=>if p.2 > m then p.2 else m) m/\(∀ p ∈ l,p.2<=l.foldl (fun m p=>if p.2 > m then p.2 else m) m)/\l.foldl (fun m p=>if p.2 > m then p.2 else m) m<=b
 | [],m,b,hm,_=>⟨Int.le_refl _,(by intro p hp; exact nomatch hp),hm⟩
 | x :: r,m,b,hm,hb=>by
  rw [List.foldl_cons];have hx:=hb x (by simp);have h3 : m<=(if x.2 > m then x.2 else m)/\x.2<=(if x.2 > m then x.2 else m)/\(if x.2 > m then x.2 else m)<=b:=by split <;> omega
  obtain ⟨h1,h2,h4⟩:=great_fold r (if x.2 > m then x.2 else m) b h3.2.2 (fun p hp=>hb p (by simp [hp]));refine ⟨by omega,?_,h4⟩;intro p hp;rcases List.mem_cons.1 hp with rfl | hp
  ·omega
  ·exact h2 p hp
theorem hull_lists (spans ps : List (Int × Int)) (lo hi : Int) (h : ∀ p ∈ spans,lo<=p.1/\p.2<=hi) : spanLists spans (ps.filter (fun q=>isIn q.1 lo hi)) = spanLists spans ps:=by
 unfold spanLists;apply List.map_congr_left;intro p hp;rw [List.filter_filter];apply List.filter_congr;intro q _;obtain ⟨h1,h2⟩:=h p hp;unfold inSpan;by_cases hq : isIn q.1 p.1 p.2 = true
 ·have:=isIn_iff.1 hq
  rw [hq,isIn_true (by omega)]; rfl
 ·simp [hq]
theorem spansOk_mem : ∀ {l : List (Int × Int)},spansOkX l = true->∀ p ∈ l,p.2<=1099511627776
 | [],_,p,hp=>by cases hp
 | x :: r,h,p,hp=>by
  simp only [spansOkX,Bool.and_eq_true,isIn_iff] at h;rcases List.mem_cons.1 hp with rfl | hp
  ·have:=h.2.1.2; omega
  ·exact spansOk_mem h.2.2.2 p hp
theorem hull_answer {spans : List (Int × Int)} (hs : spansOkX spans = true) (ps : List (Int × Int)) (c : Int) : answerOf spans (ps.filter (fun q=>isIn q.1 (leastLo spans) (greatestHi spans))) c = answerOf spans ps c/\greatestHi spans<=1099511627776:=by
 obtain ⟨_,h2,h3⟩:=great_fold spans 0 1099511627776 (by omega) (spansOk_mem hs);have h1:=(least_fold spans (2 ^ 40)).2;refine ⟨?_,h3⟩;unfold answerOf;rw [hull_lists spans ps (leastLo spans) (greatestHi spans) (fun p hp=>⟨h1 p hp,h2 p hp⟩)]
theorem split_at (key : Int) : ∀ (ch : List Spot3),ch.Pairwise (fun a b=>a.2.1 < b.2.1)->∃ a b,ch = a ++ b/\(∀ q ∈ a,q.2.1 < key)/\(∀ q ∈ b,key<=q.2.1)
 | [],_=>⟨[],[],rfl,by simp,by simp⟩
 | y :: r,h=>by
  obtain ⟨h1,h2⟩:=List.pairwise_cons.1 h;by_cases hy : y.2.1 < key
  ·obtain ⟨a,b,rfl,ha,hb⟩:=split_at key r h2;refine ⟨y :: a,b,rfl,?_,hb⟩;intro q hq;rcases List.mem_cons.1 hq with rfl | hq
   ·exact hy
   ·exact ha q hq
  ·refine ⟨[],y :: r,rfl,by simp,?_⟩;intro q hq;rcases List.mem_cons.1 hq with rfl | hq
   ·omega
   ·have:=h1 q hq; omega
section
variable {a b : List Spot3} {key : Int}
theorem filter_all {l : List Spot3} {p : Int × Int->Bool} (h : ∀ q ∈ l,p q.2 = true) : (l.map (·.2)).filter p = l.map (·.2):=by
 rw [List.filter_eq_self];intro x hx;obtain ⟨q,hq,rfl⟩:=List.mem_map.1 hx;exact h q hq
theorem filter_no {l : List Spot3} {p : Int × Int->Bool} (h : ∀ q ∈ l,p q.2 = false) : (l.map (·.2)).filter p = []:=by
 rw [List.filter_eq_nil_iff];intro x hx;obtain ⟨q,hq,rfl⟩:=List.mem_map.1 hx;simp [h q hq]
theorem sheet_miss (ha : ∀ q ∈ a,q.2.1 < key) (hb : ∀ q ∈ b,key < q.2.1) : shVal ((a ++ b).map (·.2)) key = (0,false)/\shLo ((a ++ b).map (·.2)) key = a.map (·.2)/\shHi ((a ++ b).map (·.2)) key = b.map (·.2):=by
 refine ⟨shVal_miss ?_,?_,?_⟩
 ·intro p hp;obtain ⟨q,hq,rfl⟩:=List.mem_map.1 hp;rcases List.mem_append.1 hq with hq | hq
  ·have:=ha q hq; omega
  ·have:=hb q hq; omega
 ·unfold shLo;rw [List.map_append,List.filter_append,filter_all (fun q hq=>by have:=ha q hq; simp [shSide]; omega),filter_no (fun q hq=>by have:=hb q hq; simp [shSide]; omega),List.append_nil]
 ·unfold shHi;rw [List.map_append,List.filter_append,filter_no (fun q hq=>by have:=ha q hq; simp [shSide]; omega),filter_all (fun q hq=>by have:=hb q hq; simp [shSide]; omega),List.nil_append]
theorem sheet_hit {w : Spot3} (hw : w.2.1 = key) (ha : ∀ q ∈ a,q.2.1 < key) (hb : ∀ q ∈ b,key < q.2.1) : shVal ((a ++ w :: b).map (·.2)) key = (w.2.2,true)/\shLo ((a ++ w :: b).map (·.2)) key = a.map (·.2)/\shHi ((a ++ w :: b).map (·.2)) key = b.map (·.2):=by
 refine ⟨?_,?_,?_⟩
 ·refine shVal_hit (j:=a.length) (x:=w.2) ?_ (by simp) hw;intro p hp;rw [List.map_append,List.take_append_of_le_length (by simp)] at hp;obtain ⟨q,hq,rfl⟩:=List.mem_map.1 (List.mem_of_mem_take hp)
  have:=ha q hq
  omega
 ·unfold shLo;rw [List.map_append,List.map_cons,List.filter_append,List.filter_cons,if_neg (by simp [shSide]; omega),filter_all (fun q hq=>by have:=ha q hq; simp [shSide]; omega),filter_no (fun q hq=>by have:=hb q hq; simp [shSide]; omega),List.append_nil]
 ·unfold shHi;rw [List.map_append,List.map_cons,List.filter_append,List.filter_cons,if_neg (by simp [shSide]; omega),filter_no (fun q hq=>by have:=ha q hq; simp [shSide]; omega),filter_all (fun q hq=>by have:=hb q hq; simp [shSide]; omega),List.nil_append]
end
end
end Go.Proofs.YtfccelbmacjifaaGreat
