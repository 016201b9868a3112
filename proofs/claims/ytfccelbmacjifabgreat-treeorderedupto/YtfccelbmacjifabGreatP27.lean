import Derived.Test.YtfccelbmacjifabGreatP0
import Derived.Test.YtfccelbmacjifabGreatP26
import Derived.Test.YtfccelbmacjifabGreatP10
set_option linter.unusedSimpArgs false
set_option maxRecDepth 100000
set_option maxHeartbeats 4000000
namespace Go.Proofs.YtfccelbmacjifabGreat
section
def Srt (R : List (Int × Int)) : Prop:=R.Pairwise (fun p q=>p.1 < q.1)
theorem mem_shPut {R : List (Int × Int)} {k v : Int} {p : Int × Int} : p ∈ shPut R k v ↔ (p ∈ R/\p.1≠k)\/p = (k,v):=by
 unfold shPut shLo shHi shSide;simp only [List.mem_append,List.mem_filter,List.mem_singleton,if_true,decide_eq_true_eq,Bool.false_eq_true,if_false];constructor
 ·rintro ((⟨h1,h2⟩ | h1) | ⟨h1,h2⟩)
  ·exact .inl ⟨h1,by omega⟩
  ·exact .inr h1
  ·exact .inl ⟨h1,by omega⟩
 ·rintro (⟨h1,h2⟩ | h1)
  ·rcases (show p.1 < k\/k < p.1 by omega) with q | q
   ·exact .inl (.inl ⟨h1,q⟩)
   ·exact .inr ⟨h1,q⟩
  ·exact .inl (.inr h1)
theorem mem_shDel {R : List (Int × Int)} {k : Int} {p : Int × Int} : p ∈ shDel R k ↔ p ∈ R/\p.1≠k:=by
 unfold shDel shLo shHi shSide;simp only [List.mem_append,List.mem_filter,if_true,decide_eq_true_eq,Bool.false_eq_true,if_false];constructor
 ·rintro (⟨h1,h2⟩ | ⟨h1,h2⟩)
  ·exact ⟨h1,by omega⟩
  ·exact ⟨h1,by omega⟩
 ·rintro ⟨h1,h2⟩;rcases (show p.1 < k\/k < p.1 by omega) with q | q
  ·exact .inl ⟨h1,q⟩
  ·exact .inr ⟨h1,q⟩
theorem Srt.put {R : List (Int × Int)} (h : Srt R) (k v : Int) : Srt (shPut R k v):=by
 unfold Srt shPut;rw [List.append_assoc,List.pairwise_append];have hlo : ∀ p ∈ shLo R k,p.1 < k:=by intro p hp; unfold shLo shSide at hp; simp at hp; exact hp.2
 have hhi : ∀ p ∈ shHi R k,k < p.1:=by intro p hp; unfold shHi shSide at hp; simp at hp; exact hp.2
 refine ⟨h.filter _,List.pairwise_append.2 ⟨List.pairwise_singleton _ _,h.filter _,?_⟩,?_⟩
 ·intro p hp q hq;simp at hp; subst hp;exact hhi q hq
 ·intro p hp q hq;have h1:=hlo p hp;rcases List.mem_append.1 hq with hq | hq
  ·simp at hq; subst hq; exact h1
  ·have:=hhi q hq; omega
theorem Srt.del {R : List (Int × Int)} (h : Srt R) (k : Int) : Srt (shDel R k):=by
 unfold Srt shDel;rw [List.pairwise_append];have hlo : ∀ p ∈ shLo R k,p.1 < k:=by intro p hp; unfold shLo shSide at hp; simp at hp; exact hp.2
 have hhi : ∀ p ∈ shHi R k,k < p.1:=by intro p hp; unfold shHi shSide at hp; simp at hp; exact hp.2
 refine ⟨h.filter _,h.filter _,?_⟩;intro p hp q hq;have h1:=hlo p hp;have h2:=hhi q hq;omega
theorem shVal_in {R : List (Int × Int)} (h : Srt R) {k v : Int} (hp : (k,v) ∈ R) : shVal R k = (v,true):=by
 obtain ⟨j,hj⟩:=List.mem_iff_getElem?.1 hp;refine shVal_hit ?_ hj rfl;intro p hp2 e;obtain ⟨i,hi⟩:=List.mem_iff_getElem?.1 hp2;have hlt : i < j:=by
  have:=(List.getElem?_eq_some_iff.1 hi).1
  rw [List.length_take] at this; omega
 rw [List.getElem?_take] at hi;rw [if_pos hlt] at hi;obtain ⟨hi1,hi2⟩:=List.getElem?_eq_some_iff.1 hi;obtain ⟨hj1,hj2⟩:=List.getElem?_eq_some_iff.1 hj
 have:=List.pairwise_iff_getElem.1 h i j hi1 hj1 hlt
 rw [hi2,hj2] at this;simp only at this;omega
theorem shVal_out {R : List (Int × Int)} {k : Int} (h : ∀ p ∈ R,p.1≠k) : shVal R k = (0,false):=shVal_miss h
end
section
namespace T
namespace Tr
@[grind] def rows : Tr->List (Int × Int)
 | lf _ k v=>[(k,v)]
 | nd _ _ l r=>l.rows ++ r.rows
@[grind] def size : Tr->Nat
 | lf _ _ _=>1
 | nd _ _ l r=>1 + l.size + r.size
@[grind] def ns : Tr->List Int
 | lf p _ _=>[p]
 | nd p _ l r=>p :: (l.ns ++ r.ns)
@[grind] def Su : Int->Bool->Tr->Int->Bool->Tr->Prop
 | u,b,lf p k v,x,s,w=>x = u/\s = b/\w = lf p k v
 | u,b,nd p q l r,x,s,w=>(x = u/\s = b/\w = nd p q l r)\/Su p false l x s w\/Su p true r x s w
@[grind] def len (k : Int) : Tr->Nat
 | lf _ _ _=>0
 | nd _ q l r=>1 + (if q<=k then r.len k else l.len k)
@[grind] def rem (k : Int) : Tr->Int->Nat
 | lf _ _ _,_=>0
 | nd p q l r,x=>if x = p then 1 + (if q<=k then r.len k else l.len k) else (if q<=k then r.rem k x else l.rem k x)
variable {t w : Tr} {u x y d k q v : Int} {b s : Bool}
theorem su_ed {t : Tr} : ∀ {u b},Su u b t x s w->Ed u b t x s w.pl:=by
 induction t with
 | lf=>intro u b; simp [Su,Ed]; rintro rfl rfl rfl; exact ⟨rfl,rfl,rfl⟩
 | nd p k l r h1 h2 =>
  intro u b h;rcases h with ⟨rfl,rfl,rfl⟩ | h | h
  ·exact .inl ⟨rfl,rfl,rfl⟩
  ·exact .inr (.inl (h1 h))
  ·exact .inr (.inr (h2 h))
theorem su_root (u b) (t : Tr) : Su u b t u b t:=by cases t <;> simp [Su]
theorem su_ok {t : Tr} : ∀ {u b},t.Ok->Su u b t x s w->w.Ok:=by
 induction t with
 | lf=>intro u b ho h; simp [Su] at h; rw [h.2.2]; exact ho
 | nd p k l r h1 h2 =>
  intro u b ho h;rcases h with ⟨rfl,rfl,rfl⟩ | h | h
  ·exact ho
  ·exact h1 ho.2.2.1 h
  ·exact h2 ho.2.2.2 h
theorem su_lf {t : Tr} {p : Int} : ∀ {u b},Su u b t x s (lf p k v)->t.Lea p k v:=by
 induction t with
 | lf=>intro u b h; simp [Su] at h; simp [Lea,h]
 | nd p' k' l r h1 h2 =>
  intro u b h;rcases h with ⟨_,_,h⟩ | h | h
  ·cases h
  ·exact .inl (h1 h)
  ·exact .inr (h2 h)
theorem su_nd {t l r : Tr} {p : Int} : ∀ {u b},Su u b t x s (nd p q l r)->t.Nod p q/\Su u b t p false l/\Su u b t p true r:=by
 induction t with
 | lf=>intro u b h; simp [Su] at h
 | nd p' k' l' r' h1 h2 =>
  intro u b h;rcases h with ⟨_,_,h⟩ | h | h
  ·cases h;exact ⟨.inl ⟨rfl,rfl⟩,.inr (.inl (su_root _ _ _)),.inr (.inr (su_root _ _ _))⟩
  ·obtain ⟨a1,a2,a3⟩:=h1 h;exact ⟨.inr (.inl a1),.inr (.inl a2),.inr (.inl a3)⟩
  ·obtain ⟨a1,a2,a3⟩:=h2 h;exact ⟨.inr (.inr a1),.inr (.inr a2),.inr (.inr a3)⟩
theorem mem_rows {t : Tr} : (k,v) ∈ t.rows ↔ ∃ x,t.Lea x k v:=by
 induction t with
 | lf p q w=>simp [rows,Lea]
 | nd p q l r h1 h2 =>
  simp only [rows,List.mem_append,h1,h2,Lea];constructor
  ·rintro (⟨x,h⟩ | ⟨x,h⟩)
   ·exact ⟨x,.inl h⟩
   ·exact ⟨x,.inr h⟩
  ·rintro ⟨x,h | h⟩
   ·exact .inl ⟨x,h⟩
   ·exact .inr ⟨x,h⟩
theorem rows_srt {t : Tr} (ho : t.Ok) : Srt t.rows:=by
 induction t with
 | lf=>simp [rows,Srt]
 | nd p q l r h1 h2 =>
  obtain ⟨o1,o2,o3,o4⟩:=ho;refine List.pairwise_append.2 ⟨h1 o3,h2 o4,?_⟩;rintro ⟨k1,v1⟩ m1 ⟨k2,v2⟩ m2;obtain ⟨x,e1⟩:=mem_rows.1 m1;obtain ⟨y,e2⟩:=mem_rows.1 m2
  have:=o1 _ _ _ e1
  have:=o2 _ _ _ e2
  show k1 < k2;omega
theorem rem_lt {t : Tr} : ∀ {u b},t.Dj->¬ t.Has u->t.Pth k x->t.Nod x q->Ed u b t x (decide (q<=k)) d->t.Pth k d->t.rem k d < t.rem k x:=by
 have root : ∀ w : Tr,w.Pth k w.pl->w.rem k w.pl = w.len k:=by
  intro w hw; cases w <;> simp_all [Pth,pl,rem,len]
 induction t with
 | lf=>simp [Pth]
 | nd p q' l r h1 h2 =>
  intro u b hd hu hp hn he hpd;have a1:=@ed_has; have a2:=@inn_has; have a3:=@ed_root; have a4:=@nod_has; have a5:=@pth_has; have r1:=root l; have r2:=root r;have a8:=@has_pl;by_cases hx : x = p
  ·subst hx;have hq : q = q':=nod_fn hd hn (.inl ⟨rfl,rfl⟩);subst hq;have hdx : d≠x:=fun e=>ed_ne hd hu he e.symm
   by_cases hk : q<=k
   ·have e1 : Ed x true r x true d:=by simp [hk] at he; grind
    have e2:=(ed_root (by grind) (by grind) e1).2;have e3 : r.Pth k d:=by grind
    simp only [rem,if_neg hdx,if_pos hk,if_true];rw [e2] at e3 ⊢; rw [r2 e3]; omega
   ·have e1 : Ed x false l x false d:=by simp [hk] at he; grind
    have e2:=(ed_root (by grind) (by grind) e1).2;have e3 : l.Pth k d:=by grind
    simp only [rem,if_neg hdx,if_neg hk,if_true];rw [e2] at e3 ⊢; rw [r1 e3]; omega
  ·have hdp : d≠p:=by
    rintro rfl
    have:=ed_par hd hu he (ed_pl u b _)
    have hux : x = u:=this.1;exact hu (hux ▸ pth_has hp)
   by_cases hk : q'<=k
   ·simp only [rem,if_neg hdp,if_neg hx,if_pos hk];exact @h2 p true (by grind) (by grind) (by grind) (by grind) (by grind) (by grind)
   ·simp only [rem,if_neg hdp,if_neg hx,if_neg hk];exact @h1 p false (by grind) (by grind) (by grind) (by grind) (by grind) (by grind)
theorem rem_len (t : Tr) (x : Int) : t.rem k x<=t.len k:=by
 induction t with
 | lf=>simp [rem]
 | nd p q l r h1 h2=>simp only [rem,len]; split <;> split <;> omega
theorem rem_pos {t : Tr} (h : t.Pth k x) : 1<=t.rem k x:=by
 induction t with
 | lf=>simp [Pth] at h
 | nd p q l r h1 h2 =>
  simp only [rem];split
  ·omega
  ·next hx =>
   rcases h with e | ⟨e1,e2⟩ | ⟨e1,e2⟩
   ·exact absurd e hx
   ·rw [if_pos e1]; exact h2 e2
   ·rw [if_neg (by omega)]; exact h1 e2
theorem len_size (t : Tr) : t.len k + 1<=t.size:=by
 induction t with
 | lf=>simp [len,size]
 | nd p q l r h1 h2=>simp only [len,size]; split <;> omega
theorem ns_len (t : Tr) : t.ns.length = t.size:=by
 induction t with
 | lf=>simp [ns,size]
 | nd p q l r h1 h2=>simp [ns,size,h1,h2]; omega
theorem mem_ns {t : Tr} : x ∈ t.ns ↔ t.Has x:=by
 induction t with
 | lf=>simp [ns,Has]
 | nd p q l r h1 h2=>simp [ns,Has,h1,h2]
theorem ns_nodup {t : Tr} (hd : t.Dj) : t.ns.Nodup:=by
 induction t with
 | lf=>simp [ns]
 | nd p q l r h1 h2 =>
  obtain ⟨d1,d2,d3,d4,d5⟩:=hd;simp only [ns,List.nodup_cons,List.mem_append,mem_ns];refine ⟨fun e=>e.elim d1 d2,List.nodup_append.2 ⟨h1 d4,h2 d5,?_⟩⟩;intro a ha b hb e;rw [mem_ns] at ha hb;subst e; exact d3 a ha hb
end Tr
theorem nodup_le : ∀ {l m : List Int},l.Nodup->(∀ x ∈ l,x ∈ m)->l.length<=m.length
 | [],_,_,_=>by simp
 | x :: l,m,hn,hs=>by
  obtain ⟨h1,h2⟩:=List.nodup_cons.1 hn;have hx:=hs x (by simp)
  have:=nodup_le (l:=l) (m:=m.erase x) h2 (fun y hy=>by
   refine (List.mem_erase_of_ne ?_).2 (hs y (by simp [hy]));rintro rfl; exact h1 hy)
  rw [List.length_erase_of_mem hx] at this;have : 0 < m.length:=List.length_pos_of_mem hx
  simp; omega
theorem Ver.size {M : PMem} {ts : List PThread} {t : Tr} {T : Int} (hR : Ver M ts t T) (hd : t.Dj) (hz : ¬ t.Has 0) : t.size + 1<=M.ns.length:=by
 have h1:=nodup_le (l:=0 :: t.ns) (m:=(List.range M.ns.length).map (fun (n : Nat)=>(n : Int))) (by
  refine List.nodup_cons.2 ⟨fun e=>hz (Tr.mem_ns.1 e),Tr.ns_nodup hd⟩) ?_
 ·simp only [List.length_cons,Tr.ns_len,List.length_map,List.length_range] at h1; exact h1
 ·intro x hx;rw [List.mem_map];have hin : 0<=x/\x < M.ns.length\/(x = 0/\M.ns.length = 0):=by
   rcases List.mem_cons.1 hx with rfl | hx
   ·by_cases e : M.ns.length = 0
    ·exact .inr ⟨rfl,e⟩
    ·exact .inl (by omega)
   ·left;have hh:=Tr.mem_ns.1 hx;have hu : Us M x:=by
     rcases Tr.has_or hh with ⟨q,hq⟩ | ⟨q,w,hq⟩
     ·exact (hR.a.n x q hq).1
     ·exact (hR.a.l x q w hq).1
    exact hasN_iff.1 (hasN_used hu)
  rcases hin with e | ⟨_,e⟩
  ·exact ⟨x.toNat,by simp; omega,by omega⟩
  ·exfalso;have hp:=Tr.has_pl t;have hu : Us M t.pl:=by
    rcases Tr.has_or hp with ⟨q,hq⟩ | ⟨q,w,hq⟩
    ·exact (hR.a.n _ q hq).1
    ·exact (hR.a.l _ q w hq).1
   have:=hasN_iff.1 (hasN_used hu)
   omega
end T
end
section
namespace T
def readAns (R : List (Int × Int)) (k : PWork) : BAns:=if k.kind = 3 then { stamp:=k.time,did:=(shVal R k.key).2,value:=(shVal R k.key).1 } else answerOf k.spans R k.time
def Rt (g : Gh) (T : Int) : List (Int × Int):=((g.V T).rows).filter (fun p=>decide (p.1<=1099511627776))
def Stk (tr : Tr) : List (Int × Bool)->List Tr->Prop
 | [],[]=>True
 | p :: L,w :: W=>Tr.Su 0 false tr p.1 p.2 w/\Stk tr L W
 | _,_=>False
def hull (k : PWork) (p : Int × Int) : Bool:=isIn p.1 (leastLo k.spans) (greatestHi k.spans)
def wsz (W : List Tr) : Nat:=(W.map Tr.size).sum
structure RPos (g : Gh) (t : PThread) : Prop where
 sp : t.busy = true->t.work.kind = 4->spansOkX t.work.spans = true
 no : t.busy = true->t.work.kind = 4->t.work.next<=3->t.work.noted = []
 lo : t.busy = true->t.work.kind = 3->t.work.next = 4->t.work.stand = 0\/(g.V t.work.time).Pth t.work.key t.work.stand
 sc : t.busy = true->t.work.kind = 4->t.work.next = 4->∃ W,Stk (g.V t.work.time) t.work.links W/\t.work.links≠[]/\wsz W<=(g.V t.work.time).size/\t.work.noted ++ (W.flatMap Tr.rows).filter (hull t.work) = (g.V t.work.time).rows.filter (hull t.work)
 an : t.busy = true->(t.work.kind = 3\/t.work.kind = 4)->t.work.next = 13->t.work.ans = readAns (Rt g t.work.time) t.work
def InvR (g : Gh) (P : PSt) : Prop:=∀ (i : Nat) t,P.ts[i]? = some t->RPos g t
section
variable {g g' : Gh} {M M' : PMem} {c c' T : Int} {r r' : PSweep} {i j : Nat} {t t' u : PThread} {ts ts' : List PThread} {P P' : PSt} {x d st : Int} {s : Bool} {key : Int} {k : PWork} {n : Int} {tr : Tr}
theorem Rt_srt (h : Gt (g.V T)) : Srt (Rt g T):=List.Pairwise.filter _ (Tr.rows_srt h.ok)
theorem Rt_mem (h : Gt (g.V T)) {v : Int} : (key,v) ∈ Rt g T ↔ ∃ x,(g.V T).Lea x key v/\x≠1:=by
 unfold Rt;rw [List.mem_filter,Tr.mem_rows];constructor
 ·rintro ⟨⟨x,h1⟩,h2⟩;refine ⟨x,h1,?_⟩;rintro rfl;have e1:=Tr.goal_key h.ok h1;have e2:=h.one;have e3:=Tr.goal_key h.ok e2
  -- one place,one key
  have : key = 1099511627777:=by
   have hd:=h.dj;exact lea_fn hd h1 e2
  simp at h2; omega
 ·rintro ⟨x,h1,h2⟩;exact ⟨⟨x,h1⟩,by have:=h.kr x key v h1 h2; simpa using this.2⟩
where
 lea_fn {t : Tr} (hd : t.Dj) {x q w q' w' : Int} : t.Lea x q w->t.Lea x q' w'->q = q':=by
  induction t with
  | lf=>simp [Tr.Lea]; grind
  | nd p k l r h1 h2=>have a1:=@Tr.lea_has; grind
theorem Rt_val (h : Gt (g.V T)) (hk : key<=1099511627776) : shVal (Rt g T) key = (if ((g.V T).goal key).2.1 = key then (((g.V T).goal key).2.2,true) else (0,false)):=by
 have hl:=Tr.goal_lea (k:=key) (g.V T);split
 ·next e =>
  refine shVal_in (Rt_srt h) ((Rt_mem h).2 ⟨((g.V T).goal key).1,?_,?_⟩)
  ·rw [e] at hl; exact hl
  ·intro e1;rw [e1] at hl
   have:=Rt_mem.lea_fn h.dj hl h.one
   omega
 ·next e =>
  refine shVal_out ?_;rintro ⟨k1,v1⟩ hp he;have he : k1 = key:=he;subst he;obtain ⟨x,h1,_⟩:=(Rt_mem h).1 hp
  have:=Tr.goal_key h.ok h1
  rw [this] at e; exact e rfl
theorem RPos.upd (h : t.busy = true->t.work.kind = 1\/t.work.kind = 2) : RPos g t :=
 ⟨fun b e=>by have:=h b; omega,fun b e=>by have:=h b; omega,fun b e=>by have:=h b; omega,fun b e=>by have:=h b; omega,fun b e=>by have:=h b; omega⟩
theorem RPos.at3 (h : RPos g t) (hn : t.work.next<=3) (h1 : t'.busy = t.busy) (h2 : t'.work.kind = t.work.kind) (h3 : t'.work.spans = t.work.spans) (h4 : t'.work.noted = t.work.noted) (h5 : t'.work.next<=3) : RPos g t':=by
 refine ⟨?_,?_,?_,?_,?_⟩
 ·rw [h1,h2,h3]; exact h.sp
 ·rw [h1,h2,h4]; intro b k _; exact h.no b k hn
 ·intro _ _ e; omega
 ·intro _ _ e; omega
 ·intro _ _ e; omega
theorem Stk.rows_nil {L : List (Int × Bool)} {W : List Tr} (h : Stk tr L W) (hL : L = []) : W = []:=by
 subst hL; cases W
 ·rfl
 ·exact h.elim
theorem scan_step (hP : P.kind = 1) (ha : Ag P.mem tr) (ho : tr.Ok) {x : Int} {s : Bool} {L : List (Int × Bool)} {w : Tr} {W : List Tr} (hl : k.links = (x,s) :: L) (hw : Tr.Su 0 false tr x s w) (hW : Stk tr L W) :
  ∃ W',Stk tr (P.linksWithin w.pl (leastLo k.spans) (greatestHi k.spans) ++ k.links.drop 1) W'/\wsz W' < wsz (w :: W) /\
   (if !((P.mem.node w.pl).links == 2) && isIn (P.mem.node w.pl).key (leastLo k.spans) (greatestHi k.spans) then k.noted ++ [((P.mem.node w.pl).key,(P.mem.node w.pl).value)] else k.noted) ++ (W'.flatMap Tr.rows).filter (hull k) = k.noted ++ ((w :: W).flatMap Tr.rows).filter (hull k):=by
 rw [hl];simp only [List.drop_succ_cons,List.drop_zero];have hok:=Tr.su_ok ho hw;cases w with
 | lf p q v =>
  have hle:=ha.l p q v (Tr.su_lf hw);have e1 : (P.mem.node p).links = 0:=hle.2.1;have e2 : (P.mem.node p).key = q:=hle.2.2.1;have e3 : (P.mem.node p).value = v:=hle.2.2.2;refine ⟨W,?_,?_,?_⟩
  ·unfold PSt.linksWithin;rw [if_neg (show ¬ P.kind = 0 by rw [hP]; decide)];simp only [Tr.pl,e1];simpa using hW
  ·simp [wsz,Tr.size]
  ·simp only [Tr.pl,e1,e2,e3];simp only [List.flatMap_cons,Tr.rows,List.cons_append,List.nil_append,List.filter_cons];have : hull k (q,v) = isIn q (leastLo k.spans) (greatestHi k.spans):=rfl;rw [this];cases isIn q (leastLo k.spans) (greatestHi k.spans) <;> simp
 | nd p q l r =>
  obtain ⟨hN,hsl,hsr⟩:=Tr.su_nd hw;have hn:=ha.n p q hN;have e1 : (P.mem.node p).links = 2:=hn.2.1;have e2 : (P.mem.node p).key = q:=hn.2.2;obtain ⟨o1,o2,_,_⟩:=hok;have hL : P.linksWithin p (leastLo k.spans) (greatestHi k.spans) = (if leastLo k.spans < q then [(p,false)] else []) ++ (if q<=greatestHi k.spans then [(p,true)] else []):=by
   unfold PSt.linksWithin;rw [if_neg (show ¬ P.kind = 0 by rw [hP]; decide)];simp only [e1,e2]; simp
  have fl : ¬ leastLo k.spans < q->l.rows.filter (hull k) = []:=by
   intro hh;rw [List.filter_eq_nil_iff];rintro ⟨k1,v1⟩ hm;obtain ⟨y,hy⟩:=Tr.mem_rows.1 hm
   have:=o1 _ _ _ hy
   simp only [hull];rw [isIn_false (by omega)]; simp
  have fr : ¬ q<=greatestHi k.spans->r.rows.filter (hull k) = []:=by
   intro hh;rw [List.filter_eq_nil_iff];rintro ⟨k1,v1⟩ hm;obtain ⟨y,hy⟩:=Tr.mem_rows.1 hm
   have:=o2 _ _ _ hy
   simp only [hull];rw [isIn_false (by omega)]; simp
  refine ⟨(if leastLo k.spans < q then [l] else []) ++ (if q<=greatestHi k.spans then [r] else []) ++ W,?_,?_,?_⟩
  ·show Stk tr (P.linksWithin p _ _ ++ L) _;rw [hL];by_cases h1 : leastLo k.spans < q <;> by_cases h2 : q<=greatestHi k.spans <;> simp only [h1,h2,if_true,if_false,List.nil_append,List.cons_append,List.append_nil]
   ·exact ⟨hsl,hsr,hW⟩
   ·exact ⟨hsl,hW⟩
   ·exact ⟨hsr,hW⟩
   ·exact hW
  ·by_cases h1 : leastLo k.spans < q <;> by_cases h2 : q<=greatestHi k.spans <;> simp [h1,h2,wsz,Tr.size] <;> omega
  ·have e1' : (!((P.mem.node (Tr.nd p q l r).pl).links == 2)) = false:=by simp [Tr.pl,e1]
   rw [e1'];simp only [Bool.false_and,Bool.false_eq_true,if_false,List.flatMap_append,List.flatMap_cons,Tr.rows,List.filter_append]
   congr 1
   by_cases h1 : leastLo k.spans < q <;> by_cases h2 : q<=greatestHi k.spans
   ·simp [h1,h2]
   ·rw [fr h2]; simp [h1,h2]
   ·rw [fl h1]; simp [h1,h2]
   ·rw [fl h1,fr h2]; simp [h1,h2]
end
end T
end
section
namespace T
namespace Tr
def hang : Int->Bool->Tr->Int->Bool->Nat
 | u,b,lf _ _ _,x,s=>if x = u/\s = b then 1 else 0
 | u,b,nd p q l r,x,s=>(if x = u/\s = b then (nd p q l r).size else 0) + (hang p false l x s + hang p true r x s)
theorem hang0 {t : Tr} {x : Int} {s : Bool} : ∀ {u b},¬ (x = u/\s = b)->¬ t.Inn x->hang u b t x s = 0:=by
 induction t with
 | lf=>intro u b h1 h2; simp [hang,h1]
 | nd p q l r h1 h2 =>
  intro u b h3 h4;have e : x≠p:=fun e=>h4 (.inl e)
  simp only [hang,if_neg h3];rw [h1 (fun q=>e q.1) (fun q=>h4 (.inr (.inl q))),h2 (fun q=>e q.1) (fun q=>h4 (.inr (.inr q)))]
theorem hang_su {t w : Tr} {x : Int} {s : Bool} : ∀ {u b},t.Dj->¬ t.Has u->Su u b t x s w->hang u b t x s = w.size:=by
 induction t with
 | lf p k v=>intro u b _ _ h; obtain ⟨rfl,rfl,rfl⟩:=h; simp [hang,size]
 | nd p q l r h1 h2 =>
  intro u b hd hu h;obtain ⟨d1,d2,d3,d4,d5⟩:=hd;have uL : ¬ l.Has u:=fun e=>hu (.inr (.inl e))
  have uR : ¬ r.Has u:=fun e=>hu (.inr (.inr e))
  have up : u≠p:=fun e=>hu (.inl e)
  rcases h with ⟨rfl,rfl,rfl⟩ | h | h
  ·simp only [hang];rw [hang0 (fun e=>up e.1) (fun e=>uL (inn_has e)),hang0 (fun e=>up e.1) (fun e=>uR (inn_has e))]
   simp
  ·have hx:=(ed_has (su_ed h)).2;have xu : ¬ (x = u/\s = b):=by
    rintro ⟨rfl,_⟩;rcases hx with e | e
    ·exact up e
    ·exact uL (inn_has e)
   have xr : ¬ r.Inn x:=by
    rcases hx with e | e
    ·rw [e]; exact fun q=>d2 (inn_has q)
    ·exact fun q=>d3 x (inn_has e) (inn_has q)
   have xs : ¬ (x = p/\s = true):=by
    rintro ⟨rfl,rfl⟩
    have:=(ed_root d4 d1 (su_ed h)).1
    cases this
   simp only [hang];rw [if_neg xu,h1 d4 d1 h,hang0 xs xr]; omega
  ·have hx:=(ed_has (su_ed h)).2;have xu : ¬ (x = u/\s = b):=by
    rintro ⟨rfl,_⟩;rcases hx with e | e
    ·exact up e
    ·exact uR (inn_has e)
   have xr : ¬ l.Inn x:=by
    rcases hx with e | e
    ·rw [e]; exact fun q=>d1 (inn_has q)
    ·exact fun q=>d3 x (inn_has q) (inn_has e)
   have xs : ¬ (x = p/\s = false):=by
    rintro ⟨rfl,rfl⟩
    have:=(ed_root d5 d2 (su_ed h)).1
    cases this
   simp only [hang];rw [if_neg xu,h2 d5 d2 h,hang0 xs xr]; omega
end Tr
def lsz (tr : Tr) (L : List (Int × Bool)) : Nat:=(L.map (fun p=>Tr.hang 0 false tr p.1 p.2)).sum
theorem Stk.lsz {tr : Tr} (hd : tr.Dj) (hz : ¬ tr.Has 0) : ∀ {L : List (Int × Bool)} {W : List Tr},Stk tr L W->T.lsz tr L = wsz W
 | [],[],_=>rfl
 | [],_ :: _,h=>h.elim
 | _ :: _,[],h=>h.elim
 | p :: L,w :: W,h=>by
  have:=Stk.lsz hd hz h.2
  unfold T.lsz wsz at *;simp only [List.map_cons,List.sum_cons];rw [this,Tr.hang_su hd hz h.1]
def rs (g : Gh) (k : PWork) : Nat:=if k.kind = 3 then (if k.stand = 0 then (g.V k.time).len k.key + 1 else (g.V k.time).rem k.key k.stand) else lsz (g.V k.time) k.links
section
variable {g g' : Gh} {M M' : PMem} {c c' T : Int} {r r' : PSweep} {i j : Nat} {t t' u : PThread} {ts ts' : List PThread} {P P' : PSt} {x d st : Int} {s : Bool} {key : Int} {k : PWork} {n : Int} {tr : Tr}
theorem Inv.linkNext3 (h : Inv g P) (ht : P.ts[i]? = some t) (hb : t.busy = true) (hk : t.work.kind = 3) : P.linkNext t.work = (t.work.stand,sd P.mem t.work.stand t.work.key):=by
 have:=(h.th i t ht).l3 hb (by omega)
 unfold PSt.linkNext;rw [this]; rfl
theorem Inv.readStep (h : Inv g P) (hV : InvV g P) (hR : InvR g P) (ht : P.ts[i]? = some t) (hb : t.busy = true) (hn : t.work.next = 4) (hk : t.work.kind = 3\/t.work.kind = 4) (hp : Pd P.mem (P.linkNext t.work).1 (P.linkNext t.work).2 = [])
  (ek : k = if t.work.kind = 3 then P.lookUp t.work (P.mem.ledTo (P.linkNext t.work).1 (P.linkNext t.work).2 t.work.time) else P.scan t.work (P.mem.ledTo (P.linkNext t.work).1 (P.linkNext t.work).2 t.work.time)) :
  RPos g { t with work:=k }/\(k.next = 4->rs g k < rs g t.work)/\1<=rs g t.work:=by
 have hT:=h.th i t ht;have hrd : Rdr t:=⟨hb,hk,by omega,by omega⟩;obtain ⟨hv,t0,t1⟩:=hV.rd i t ht hrd;have hg:=hV.gts _ t0 t1;have hP:=hR i t ht;rcases hk with hk | hk
 ·-- a Lookup
  rw [if_pos hk] at ek;rw [h.linkNext3 ht hb hk] at hp ek;simp only at hp ek;have hst:=hP.lo hb hk hn;have hky:=hT.ky hb (by omega)
  -- its link
  obtain ⟨d,hA,hs⟩ : ∃ d,A (g.V t.work.time) t.work.stand (sd P.mem t.work.stand t.work.key) d/\((g.V t.work.time).Pth t.work.key d\/((g.V t.work.time).goal t.work.key).1 = d):=by
   rcases hst with e | e
   ·rw [e,sd0 h.n.n0.2.1];refine ⟨_,Tr.ed_pl 0 false _,?_⟩;rcases Tr.pth_root (k:=t.work.key) (g.V t.work.time) with q | q
    ·exact .inl q
    ·exact .inr q.1
   ·obtain ⟨q,hq⟩:=Tr.pth_nod e;have hsd : sd P.mem t.work.stand t.work.key = decide (q<=t.work.key):=by
     have:=hv.a.n _ q hq
     unfold sd PMem.sideFor;simp only [Ln,Ky] at this;rw [this.2.1,this.2.2]; simp
    rw [hsd];obtain ⟨d,hA⟩:=Tr.inn_ed 0 false (decide (q<=t.work.key)) (Tr.pth_inn e);exact ⟨d,hA,Tr.pth_step hg.dj hg.z e hq hA⟩
  have hld:=h.ledIs hv hA hp;rw [hld] at ek;have hpos : 1<=rs g t.work:=by
   unfold rs;rw [if_pos hk];rcases hst with e | e
   ·rw [if_pos e]; omega
   ·rw [if_neg (fun (e0 : t.work.stand = 0)=>hg.z (e0 ▸ Tr.pth_has e))]; exact Tr.rem_pos e
  have hpass : P.isPassed d t.work.key = decide (Ln P.mem d = 2):=by unfold PSt.isPassed; rw [if_pos h.kind]; rfl
  by_cases hi : (g.V t.work.time).Inn d
  ·obtain ⟨q,hq⟩:=Tr.inn_nod hi;have hl:=(hv.a.n d q hq).2.1;have hpd : (g.V t.work.time).Pth t.work.key d:=by
    rcases hs with e | e
    ·exact e
    ·exact absurd (Tr.goal_lea (k:=t.work.key) (g.V t.work.time)) (by rw [e]; exact Tr.inn_lea hg.dj hi _ _)
   have ek' : k = { t.work with stand:=d }:=by
    rw [ek]; unfold PSt.lookUp; rw [hpass,if_pos (by simpa using hl)]
   have hd0 : d≠0:=fun e=>hg.z (e ▸ Tr.inn_has hi)
   refine ⟨⟨?_,?_,?_,?_,?_⟩,?_,hpos⟩
   ·rw [ek']; exact hP.sp
   ·rw [ek']; intro _ e; have : t.work.kind = 4:=e; omega
   ·rw [ek']; intro _ _ _; exact .inr hpd
   ·rw [ek']; intro _ e; have : t.work.kind = 4:=e; omega
   ·rw [ek']; intro _ _ e; have : t.work.next = 13:=e; omega
   ·intro _;have e1 : rs g k = (g.V t.work.time).rem t.work.key d:=by
     rw [ek']; unfold rs;show (if t.work.kind = 3 then (if d = 0 then _ else (g.V t.work.time).rem t.work.key d) else _) = _;rw [if_pos hk,if_neg hd0]
    rw [e1];unfold rs;rw [if_pos hk];rcases hst with e | e
    ·rw [if_pos e]
     have:=Tr.rem_len (k:=t.work.key) (g.V t.work.time) d
     omega
    ·rw [if_neg (fun (e0 : t.work.stand = 0)=>hg.z (e0 ▸ Tr.pth_has e))];obtain ⟨q',hq'⟩:=Tr.pth_nod e;have hsd : sd P.mem t.work.stand t.work.key = decide (q'<=t.work.key):=by
      have:=hv.a.n _ q' hq'
      unfold sd PMem.sideFor;simp only [Ln,Ky] at this;rw [this.2.1,this.2.2]; simp
     rw [hsd] at hA;exact Tr.rem_lt hg.dj hg.z e hq' hA hpd
  ·have hgo : ((g.V t.work.time).goal t.work.key).1 = d:=by
    rcases hs with e | e
    ·exact absurd (Tr.pth_inn e) hi
    ·exact e
   have hle:=hv.a.l _ _ _ (Tr.goal_lea (k:=t.work.key) (g.V t.work.time));rw [hgo] at hle;obtain ⟨l1,l2,l3,l4⟩:=hle;have ek' : k = t.work.conclude (if (P.mem.node d).key = t.work.key then { stamp:=t.work.time,did:=true,value:=(P.mem.node d).value } else { stamp:=t.work.time }):=by
    rw [ek]; unfold PSt.lookUp; rw [hpass,if_neg (by simp; omega)]
   have kn : k.next = 13:=by rw [ek']; rfl
   refine ⟨⟨?_,?_,?_,?_,?_⟩,fun e=>by omega,hpos⟩
   ·rw [ek']; exact hP.sp
   ·intro _ _ e; have : k.next<=3:=e; omega
   ·intro _ _ e; have : k.next = 4:=e; omega
   ·intro _ _ e; have : k.next = 4:=e; omega
   ·intro _ _ _;have hval:=Rt_val hg hky.2;have k3 : k.kind = 3:=by rw [ek']; exact hk
    have ktm : k.time = t.work.time:=by rw [ek']; rfl
    have kky : k.key = t.work.key:=by rw [ek']; rfl
    show k.ans = readAns (Rt g k.time) k;unfold readAns;rw [if_pos k3,ktm,kky,hval];have ka : k.ans = (if (P.mem.node d).key = t.work.key then { stamp:=t.work.time,did:=true,value:=(P.mem.node d).value } else { stamp:=t.work.time }):=by rw [ek']; rfl
    simp only [Ky] at l3;rw [ka,l3,l4];split <;> rfl
 ·-- a Scan
  rw [if_neg (by omega)] at ek;obtain ⟨W,s1,s2,s4,s3⟩:=hP.sc hb hk hn;obtain ⟨p,L,hL⟩ : ∃ p L,t.work.links = p :: L:=by
   cases hl : t.work.links with
   | nil=>exact absurd hl s2
   | cons p L=>exact ⟨p,L,rfl⟩
  obtain ⟨w,W0,rfl⟩ : ∃ w W0,W = w :: W0:=by
   cases W with
   | nil=>rw [hL] at s1; exact s1.elim
   | cons w W0=>exact ⟨w,W0,rfl⟩
  rw [hL] at s1;obtain ⟨hw,hW⟩:=s1;have hln : P.linkNext t.work = p:=by unfold PSt.linkNext; rw [hL]
  rw [hln] at hp ek;have hld:=h.ledIs hv (Tr.su_ed hw) hp;rw [hld] at ek;obtain ⟨W',z1,z2,z3⟩:=scan_step (k:=t.work) h.kind hv.a hg.ok (x:=p.1) (s:=p.2) (L:=L) hL hw hW;have hlz : lsz (g.V t.work.time) t.work.links = wsz (w :: W0):=by
   rw [hL]; exact Stk.lsz hg.dj hg.z (L:=p :: L) (W:=w :: W0) ⟨hw,hW⟩
  have hsz : 1<=wsz (w :: W0):=by
   simp only [wsz,List.map_cons,List.sum_cons];have : 1<=w.size:=by cases w <;> simp [Tr.size] <;> omega
   omega
  have hrs : rs g t.work = wsz (w :: W0):=by unfold rs; rw [if_neg (by omega)]; exact hlz
  -- what it is then
  obtain ⟨nt,hnt⟩ : ∃ nt,nt = (if !((P.mem.node w.pl).links == 2) && isIn (P.mem.node w.pl).key (leastLo t.work.spans) (greatestHi t.work.spans) then t.work.noted ++ [((P.mem.node w.pl).key,(P.mem.node w.pl).value)] else t.work.noted):=⟨_,rfl⟩;obtain ⟨ls,hls⟩ : ∃ ls,ls = P.linksWithin w.pl (leastLo t.work.spans) (greatestHi t.work.spans) ++ t.work.links.drop 1:=⟨_,rfl⟩;rw [<- hnt] at z3;rw [<- hls] at z1;have ek' : k = if ls.length = 0 then ({ t.work with noted:=nt,links:=ls } : PWork).conclude (answerOf t.work.spans nt t.work.time) else { t.work with noted:=nt,links:=ls }:=by
   rw [ek,hnt,hls]; rfl
  by_cases he : ls.length = 0
  ·rw [if_pos he] at ek';have hls0 : ls = []:=List.length_eq_zero_iff.1 he;have hW0:=z1.rows_nil hls0;subst hW0;have kn : k.next = 13:=by rw [ek']; rfl
   refine ⟨⟨?_,?_,?_,?_,?_⟩,fun e=>by omega,by omega⟩
   ·rw [ek']; exact hP.sp
   ·intro _ _ e; have : k.next<=3:=e; omega
   ·intro _ _ e; have : k.next = 4:=e; omega
   ·intro _ _ e; have : k.next = 4:=e; omega
   ·intro _ _ _;have hso:=hP.sp hb hk;have hnote : nt = (g.V t.work.time).rows.filter (hull t.work):=by
     have:=z3.trans s3
     simpa using this
    have k4 : ¬ k.kind = 3:=by
     have : k.kind = t.work.kind:=by rw [ek']; rfl
     omega
    have ktm : k.time = t.work.time:=by rw [ek']; rfl
    have ksp : k.spans = t.work.spans:=by rw [ek']; rfl
    have ka : k.ans = answerOf t.work.spans nt t.work.time:=by rw [ek']; rfl
    show k.ans = readAns (Rt g k.time) k;unfold readAns;rw [if_neg k4,ktm,ksp,ka,hnote];rw [<- (hull_answer hso (Rt g t.work.time) t.work.time).1]
    congr 1
    unfold Rt;rw [List.filter_filter];apply List.filter_congr;rintro ⟨k1,v1⟩ _;have hhi:=(hull_answer hso (Rt g t.work.time) t.work.time).2;simp only [hull];by_cases hin : isIn k1 (leastLo t.work.spans) (greatestHi t.work.spans) = true
    ·rw [hin]
     have:=isIn_iff.1 hin
     have h2 : k1<=1099511627776:=by omega
     simp [h2]
    ·simp only [Bool.not_eq_true] at hin; rw [hin]; simp
  ·rw [if_neg he] at ek';have kn : k.next = 4:=by rw [ek']; exact hn
   have kk : k.kind = 4:=by rw [ek']; exact hk
   refine ⟨⟨?_,?_,?_,?_,?_⟩,?_,by omega⟩
   ·rw [ek']; exact hP.sp
   ·intro _ _ e; have : k.next<=3:=e; omega
   ·intro _ e; have : k.kind = 3:=e; omega
   ·intro _ _ _;rw [ek'];refine ⟨W',z1,fun e=>he (by have e : ls = []:=e; rw [e]; rfl),by show wsz W'<=(g.V t.work.time).size; omega,?_⟩;exact z3.trans s3
   ·intro _ _ e; have : k.next = 13:=e; omega
   ·intro _;have : rs g k = wsz W':=by
     unfold rs;rw [if_neg (by omega),ek'];exact Stk.lsz hg.dj hg.z z1
    omega
end
end T
end
section
namespace T
section
variable {g g' : Gh} {M M' : PMem} {c c' T : Int} {r r' : PSweep} {i j : Nat} {t t' u : PThread} {ts ts' : List PThread} {P P' : PSt} {x d st : Int} {s : Bool} {key : Int} {k : PWork} {n : Int} {tr : Tr}
theorem RPos.congr (h : RPos g t) (hv : t.busy = true->3<=t.work.next->g'.V t.work.time = g.V t.work.time) : RPos g' t:=by
 refine ⟨h.sp,h.no,?_,?_,?_⟩
 ·intro b hk hn; rw [hv b (by omega)]; exact h.lo b hk hn
 ·intro b hk hn; rw [hv b (by omega)]; exact h.sc b hk hn
 ·intro b hk hn; unfold Rt; rw [hv b (by omega)]; exact h.an b hk hn
theorem InvR.step (hR : InvR g P) (hV : InvV g P) (h : Inv g P) (ht : P.ts[i]? = some t) (hb : t.busy = true) : InvR (nextG g P i t) (P.step i t).1:=by
 have hi:=(List.getElem?_eq_some_iff.1 ht).1;have hT:=h.th i t ht;have hP:=hR i t ht;have oth : ∀ (j : Nat) u,P.ts[j]? = some u->RPos (nextG g P i t) u:=by
  intro j u hj;refine (hR j u hj).congr (fun b h3=>nextG_V P t i ?_);exact ((h.th j u hj).tm b h3).1
 have own : ∀ t',(P.step i t).1.ts = P.ts.set i t'->RPos g t'->(t'.busy = true->3<=t'.work.next->t'.work.time<=P.clock)->InvR (nextG g P i t) (P.step i t).1:=by
  intro t' e1 e2 e3 j u hj;rw [e1,List.getElem?_set] at hj;by_cases ej : i = j
  ·subst ej;simp [hi] at hj; subst hj;exact e2.congr (fun b h3=>nextG_V P t i (e3 b h3))
  ·rw [if_neg ej] at hj; exact oth j u hj
 have htm:=hT.tm hb;have up : ∀ {k : PWork},(k.kind = 1\/k.kind = 2)->RPos g { t with work:=k }:=fun hk=>RPos.upd (fun _=>hk)
 obtain ⟨P',n,hs,ho⟩:=h.out ht hb;have hs1 : (P.step i t).1 = P':=by rw [hs]
 cases ho with
 | come1 hn=>exact own _ (congrArg PSt.ts hs1) (hP.at3 (by omega) rfl rfl rfl rfl (by show 2<=3; omega)) (fun _ h3=>by have : 3<=2:=h3; omega)
 | come2 hn=>exact own _ (congrArg PSt.ts hs1) (hP.at3 (by omega) rfl rfl rfl rfl (by show 3<=3; omega)) (fun _ _=>Int.le_refl _)
 | come3 hn =>
  refine own _ (congrArg PSt.ts hs1) ?_ (fun _ _=>(htm (by omega)).1);refine ⟨hP.sp,fun _ _ e=>?_,fun _ _ _=>.inl rfl,fun _ hk _=>?_,fun _ _ e=>?_⟩
  ·have : 4<=3:=e; omega
  ·have hk : t.work.kind = 4:=hk;refine ⟨[g.V t.work.time],?_,?_,by simp [wsz]; exact Nat.le_refl _,?_⟩
   ·show Stk (g.V t.work.time) t.work.links _;rw [hT.lk hb hk (by omega)]; exact ⟨Tr.su_root 0 false _,trivial⟩
   ·show t.work.links≠[];rw [hT.lk hb hk (by omega)]; simp
   ·show t.work.noted ++ _ = _;rw [hP.no hb hk (by omega)]; simp; rfl
  ·have : 4 = 13:=e; omega
 | leave hn=>exact own _ (congrArg PSt.ts hs1) ⟨(fun b=>nomatch b),(fun b=>nomatch b),(fun b=>nomatch b),(fun b=>nomatch b),(fun b=>nomatch b)⟩ (fun b=>nomatch b)
 | rwait=>rw [hs1]; exact oth
 | lwait=>rw [hs1]; exact oth
 | rgo hn hk hp k ek hsk=>exact own _ (congrArg PSt.ts hs1) (h.readStep hV hR ht hb hn hk hp ek).1 (fun _ _=>by show k.time<=_; rw [hsk.2.2.1]; exact (htm (by omega)).1)
 | walkOn hn hk=>exact own _ (congrArg PSt.ts hs1) (up hk) (fun _ _=>(htm (by omega)).1)
 | walkEnd hn hk=>exact own _ (congrArg PSt.ts hs1) (up hk) (fun _ _=>(htm (by omega)).1)
 | lock hn hk=>exact own _ (congrArg PSt.ts hs1) (up hk) (fun _ _=>(htm (by omega)).1)
 | home hn hk=>exact own _ (congrArg PSt.ts hs1) (up hk) (fun _ _=>(htm (by omega)).1)
 | same hn hk=>exact own _ (congrArg PSt.ts hs1) (up hk) (fun _ _=>(htm (by omega)).1)
 | right hn hk=>exact own _ (congrArg PSt.ts hs1) (up hk) (fun _ _=>(htm (by omega)).1)
 | full hn hk=>exact own _ (congrArg PSt.ts hs1) (up hk) (fun _ _=>(htm (by omega)).1)
 | prepI hn hk=>exact own _ (congrArg PSt.ts hs1) (up (.inl hk)) (fun _ _=>(htm (by omega)).1)
 | prepR hn hk=>exact own _ (congrArg PSt.ts hs1) (up (.inr hk)) (fun _ _=>(htm (by omega)).1)
 | late hn hk=>exact own _ (congrArg PSt.ts hs1) (up hk) (fun _ _=>(htm (by omega)).1)
 | takeI hn hk=>exact own _ (congrArg PSt.ts hs1) (up (.inl hk)) (fun _ _=>(htm (by omega)).1)
 | takeR hn hk=>exact own _ (congrArg PSt.ts hs1) (up (.inr hk)) (fun _ _=>(htm (by omega)).1)
 | kill hn hk=>exact own _ (congrArg PSt.ts hs1) (up (.inr hk)) (fun _ _=>(htm (by omega)).1)
 | link hn hk=>exact own _ (congrArg PSt.ts hs1) (up hk) (fun _ _=>(htm (by omega)).1)
 | stamp hn hk=>exact own _ (congrArg PSt.ts hs1) (up hk) (fun _ _=>(htm (by omega)).1)
 | unlock hn hk=>exact own _ (congrArg PSt.ts hs1) (up hk) (fun _ _=>(htm (by omega)).1)
theorem sweep_ts (P : PSt) : P.doSweep.1.ts = P.ts:=by
 unfold PSt.doSweep;simp only;split
 ·rfl
 ·split
  ·split <;> rfl
  ·split <;> rfl
theorem InvR.sweep (hR : InvR g P) : InvR (sweepG g P) P.doSweep.1:=by
 intro i t ht;rw [sweep_ts] at ht;exact (hR i t ht).congr (fun _ _=>by rw [sweepG_V])
theorem InvV.begin (hV : InvV g P) (ht : P.ts[i]? = some t) (hb : t.busy = false) (hn : t'.work.next = 1) : InvV g { P with ts:=P.ts.set i t' }:=by
 have hi:=(List.getElem?_eq_some_iff.1 ht).1;have n8 : ∀ x,¬ Fr8 x t:=by rintro x ⟨e,_⟩; rw [hb] at e; cases e
 have n8' : ∀ x,¬ Fr8 x t':=by rintro x ⟨_,_,e,_⟩; omega
 have nv : ∀ x s st,¬ Vs x s st t:=by rintro x s st ⟨e,_⟩; rw [hb] at e; cases e
 have nv' : ∀ x s st,¬ Vs x s st t':=by rintro x s st ⟨_,_,e,_⟩; omega
 have ve : ∀ x s st d,VE P.mem (P.ts.set i t') x s st d ↔ VE P.mem P.ts x s st d:=by
  intro x s st d;unfold VE;rw [ex_iff ht (iff_of_false (nv' x s st) (nv x s st))]
 have ver : ∀ tr T,Ver P.mem P.ts tr T->Ver P.mem (P.ts.set i t') tr T:=by
  intro tr T hR;refine ⟨hR.a,hR.r,?_,?_⟩
  ·intro x hx;rw [ex_iff ht (iff_of_false (n8' x) (n8 x))]; exact hR.f x hx
  ·intro x s d hd;obtain ⟨st,e1,e2,e3⟩:=hR.e x s d hd;exact ⟨st,(ve _ _ _ _).2 e1,e2,fun st' d' q1 q2=>e3 st' d' ((ve _ _ _ _).1 q1) q2⟩
 refine ⟨ver _ _ hV.now,hV.gts,?_⟩;intro j u hj hr;have hj : (P.ts.set i t')[j]? = some u:=hj;rw [List.getElem?_set] at hj;by_cases ej : i = j
 ·subst ej;simp [hi] at hj; subst hj
  have:=hr.2.2.1; omega
 ·rw [if_neg ej] at hj
  have:=hV.rd j u hj hr
  exact ⟨ver _ _ this.1,this.2⟩
theorem InvR.begin (hR : InvR g P) (ht : P.ts[i]? = some t) (hn : t'.work.next = 1) (h1 : t'.busy = true->t'.work.kind = 4->spansOkX t'.work.spans = true) (h2 : t'.work.kind = 4->t'.work.noted = []) : InvR g { P with ts:=P.ts.set i t' }:=by
 have hi:=(List.getElem?_eq_some_iff.1 ht).1;intro j u hj;have hj : (P.ts.set i t')[j]? = some u:=hj;rw [List.getElem?_set] at hj;by_cases ej : i = j
 ·subst ej;simp [hi] at hj; subst hj;exact ⟨h1,fun _ k _=>h2 k,fun _ _ e=>by omega,fun _ _ e=>by omega,fun _ _ e=>by omega⟩
 ·rw [if_neg ej] at hj;exact hR j u hj
end
end T
end
end Go.Proofs.YtfccelbmacjifabGreat
