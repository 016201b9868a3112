import Derived.Test.YtfccelbmacjifabGreatP0
import Derived.Test.YtfccelbmacjifabGreatP26
set_option linter.unusedSimpArgs false
set_option maxRecDepth 100000
set_option maxHeartbeats 4000000
namespace Go.Proofs.YtfccelbmacjifabGreat
section
namespace T
def readAns (R : List (Int × Int)) (k : PWork) : BAns:=if k.kind = 3 then { stamp:=k.time,did:=(shVal R k.key).2,value:=(shVal R k.key).1 } else answerOf k.spans R k.time
def Rt (g : Gh) (T : Int) : List (Int × Int):=((g.V T).rows).filter (fun p=>decide (p.1<=1099511627776))
def Stk (tr : Tr) : List (Int × Bool)->List Tr->Prop
 | [],[]=>True
 | p :: L,w :: W=>Tr.Su 0 false tr p.1 p.2 w/\Stk tr L W
 | _,_=>False
def hull (k : PWork) (p : Int × Int) : Bool:=isIn p.1 (leastLo k.spans) (greatestHi k.spans)
def wsz (W : List Tr) : Nat:=(W.map Tr.size).sum
structure RPos (g : Gh) (t : PThread) : Prop where
 sp : t.busy = true->t.work.kind = 4->spansOkX t.work.spans = true
 no : t.busy = true->t.work.kind = 4->t.work.next<=3->t.work.noted = []
 lo : t.busy = true->t.work.kind = 3->t.work.next = 4->t.work.stand = 0\/(g.V t.work.time).Pth t.work.key t.work.stand
 sc : t.busy = true->t.work.kind = 4->t.work.next = 4->∃ W,Stk (g.V t.work.time) t.work.links W/\t.work.links≠[]/\wsz W<=(g.V t.work.time).size/\t.work.noted ++ (W.flatMap Tr.rows).filter (hull t.work) = (g.V t.work.time).rows.filter (hull t.work)
 an : t.busy = true->(t.work.kind = 3\/t.work.kind = 4)->t.work.next = 13->t.work.ans = readAns (Rt g t.work.time) t.work
def InvR (g : Gh) (P : PSt) : Prop:=∀ (i : Nat) t,P.ts[i]? = some t->RPos g t
section
variable {g g' : Gh} {M M' : PMem} {c c' T : Int} {r r' : PSweep} {i j : Nat} {t t' u : PThread} {ts ts' : List PThread} {P P' : PSt} {x d st : Int} {s : Bool} {key : Int} {k : PWork} {n : Int} {tr : Tr}
theorem Rt_srt (h : Gt (g.V T)) : Srt (Rt g T):=List.Pairwise.filter _ (Tr.rows_srt h.ok)
theorem Rt_mem (h : Gt (g.V T)) {v : Int} : (key,v) ∈ Rt g T ↔ ∃ x,(g.V T).Lea x key v/\x≠1:=by
 unfold Rt;rw [List.mem_filter,Tr.mem_rows];constructor
 ·rintro ⟨⟨x,h1⟩,h2⟩;refine ⟨x,h1,?_⟩;rintro rfl;have e1:=Tr.goal_key h.ok h1;have e2:=h.one;have e3:=Tr.goal_key h.ok e2
  -- one place,one key
  have : key = 1099511627777:=by
   have hd:=h.dj;exact lea_fn hd h1 e2
  simp at h2; omega
 ·rintro ⟨x,h1,h2⟩;exact ⟨⟨x,h1⟩,by have:=h.kr x key v h1 h2; simpa using this.2⟩
where
 lea_fn {t : Tr} (hd : t.Dj) {x q w q' w' : Int} : t.Lea x q w->t.Lea x q' w'->q = q':=by
  induction t with
  | lf=>simp [Tr.Lea]; grind
  | nd p k l r h1 h2=>have a1:=@Tr.lea_has; grind
theorem Rt_val (h : Gt (g.V T)) (hk : key<=1099511627776) : shVal (Rt g T) key = (if ((g.V T).goal key).2.1 = key then (((g.V T).goal key).2.2,true) else (0,false)):=by
 have hl:=Tr.goal_lea (k:=key) (g.V T);split
 ·next e =>
  refine shVal_in (Rt_srt h) ((Rt_mem h).2 ⟨((g.V T).goal key).1,?_,?_⟩)
  ·rw [e] at hl; exact hl
  ·intro e1;rw [e1] at hl
   have:=Rt_mem.lea_fn h.dj hl h.one
   omega
 ·next e =>
  refine shVal_out ?_;rintro ⟨k1,v1⟩ hp he;have he : k1 = key:=he;subst he;obtain ⟨x,h1,_⟩:=(Rt_mem h).1 hp
  have:=Tr.goal_key h.ok h1
  rw [this] at e; exact e rfl
theorem RPos.upd (h : t.busy = true->t.work.kind = 1\/t.work.kind = 2) : RPos g t :=
 ⟨fun b e=>by have:=h b; omega,fun b e=>by have:=h b; omega,fun b e=>by have:=h b; omega,fun b e=>by have:=h b; omega,fun b e=>by have:=h b; omega⟩
theorem RPos.at3 (h : RPos g t) (hn : t.work.next<=3) (h1 : t'.busy = t.busy) (h2 : t'.work.kind = t.work.kind) (h3 : t'.work.spans = t.work.spans) (h4 : t'.work.noted = t.work.noted) (h5 : t'.work.next<=3) : RPos g t':=by
 refine ⟨?_,?_,?_,?_,?_⟩
 ·rw [h1,h2,h3]; exact h.sp
 ·rw [h1,h2,h4]; intro b k _; exact h.no b k hn
 ·intro _ _ e; omega
 ·intro _ _ e; omega
 ·intro _ _ e; omega
theorem Stk.rows_nil {L : List (Int × Bool)} {W : List Tr} (h : Stk tr L W) (hL : L = []) : W = []:=by
 subst hL; cases W
 ·rfl
 ·exact h.elim
theorem scan_step (hP : P.kind = 1) (ha : Ag P.mem tr) (ho : tr.Ok) {x : Int} {s : Bool} {L : List (Int × Bool)} {w : Tr} {W : List Tr} (hl : k.links = (x,s) :: L) (hw : Tr.Su 0 false tr x s w) (hW : Stk tr L W) :
  ∃ W',Stk tr (P.linksWithin w.pl (leastLo k.spans) (greatestHi k.spans) ++ k.links.drop 1) W'/\wsz W' < wsz (w :: W) /\
   (if !((P.mem.node w.pl).links == 2) && isIn (P.mem.node w.pl).key (leastLo k.spans) (greatestHi k.spans) then k.noted ++ [((P.mem.node w.pl).key,(P.mem.node w.pl).value)] else k.noted) ++ (W'.flatMap Tr.rows).filter (hull k) = k.noted ++ ((w :: W).flatMap Tr.rows).filter (hull k):=by
 rw [hl];simp only [List.drop_succ_cons,List.drop_zero];have hok:=Tr.su_ok ho hw;cases w with
 | lf p q v =>
  have hle:=ha.l p q v (Tr.su_lf hw);have e1 : (P.mem.node p).links = 0:=hle.2.1;have e2 : (P.mem.node p).key = q:=hle.2.2.1;have e3 : (P.mem.node p).value = v:=hle.2.2.2;refine ⟨W,?_,?_,?_⟩
  ·unfold PSt.linksWithin;rw [if_neg (show ¬ P.kind = 0 by rw [hP]; decide)];simp only [Tr.pl,e1];simpa using hW
  ·simp [wsz,Tr.size]
  ·simp only [Tr.pl,e1,e2,e3];simp only [List.flatMap_cons,Tr.rows,List.cons_append,List.nil_append,List.filter_cons];have : hull k (q,v) = isIn q (leastLo k.spans) (greatestHi k.spans):=rfl;rw [this];cases isIn q (leastLo k.spans) (greatestHi k.spans) <;> simp
 | nd p q l r =>
  obtain ⟨hN,hsl,hsr⟩:=Tr.su_nd hw;have hn:=ha.n p q hN;have e1 : (P.mem.node p).links = 2:=hn.2.1;have e2 : (P.mem.node p).key = q:=hn.2.2;obtain ⟨o1,o2,_,_⟩:=hok;have hL : P.linksWithin p (leastLo k.spans) (greatestHi k.spans) = (if leastLo k.spans < q then [(p,false)] else []) ++ (if q<=greatestHi k.spans then [(p,true)] else []):=by
   unfold PSt.linksWithin;rw [if_neg (show ¬ P.kind = 0 by rw [hP]; decide)];simp only [e1,e2]; simp
  have fl : ¬ leastLo k.spans < q->l.rows.filter (hull k) = []:=by
   intro hh;rw [List.filter_eq_nil_iff];rintro ⟨k1,v1⟩ hm;obtain ⟨y,hy⟩:=Tr.mem_rows.1 hm
   have:=o1 _ _ _ hy
   simp only [hull];rw [isIn_false (by omega)]; simp
  have fr : ¬ q<=greatestHi k.spans->r.rows.filter (hull k) = []:=by
   intro hh;rw [List.filter_eq_nil_iff];rintro ⟨k1,v1⟩ hm;obtain ⟨y,hy⟩:=Tr.mem_rows.1 hm
   have:=o2 _ _ _ hy
   simp only [hull];rw [isIn_false (by omega)]; simp
  refine ⟨(if leastLo k.spans < q then [l] else []) ++ (if q<=greatestHi k.spans then [r] else []) ++ W,?_,?_,?_⟩
  ·show Stk tr (P.linksWithin p _ _ ++ L) _;rw [hL];by_cases h1 : leastLo k.spans < q <;> by_cases h2 : q<=greatestHi k.spans <;> simp only [h1,h2,if_true,if_false,List.nil_append,List.cons_append,List.append_nil]
   ·exact ⟨hsl,hsr,hW⟩
   ·exact ⟨hsl,hW⟩
   ·exact ⟨hsr,hW⟩
   ·exact hW
  ·by_cases h1 : leastLo k.spans < q <;> by_cases h2 : q<=greatestHi k.spans <;> simp [h1,h2,wsz,Tr.size] <;> omega
  ·have e1' : (!((P.mem.node (Tr.nd p q l r).pl).links == 2)) = false:=by simp [Tr.pl,e1]
   rw [e1'];simp only [Bool.false_and,Bool.false_eq_true,if_false,List.flatMap_append,List.flatMap_cons,Tr.rows,List.filter_append]
   congr 1
   by_cases h1 : leastLo k.spans < q <;> by_cases h2 : q<=greatestHi k.spans
   ·simp [h1,h2]
   ·rw [fr h2]; simp [h1,h2]
   ·rw [fl h1]; simp [h1,h2]
   ·rw [fl h1,fr h2]; simp [h1,h2]
end
end T
end
section
namespace T
namespace Tr
def hang : Int->Bool->Tr->Int->Bool->Nat
 | u,b,lf _ _ _,x,s=>if x = u/\s = b then 1 else 0
 | u,b,nd p q l r,x,s=>(if x = u/\s = b then (nd p q l r).size else 0) + (hang p false l x s + hang p true r x s)
theorem hang0 {t : Tr} {x : Int} {s : Bool} : ∀ {u b},¬ (x = u/\s = b)->¬ t.Inn x->hang u b t x s = 0:=by
 induction t with
 | lf=>intro u b h1 h2; simp [hang,h1]
 | nd p q l r h1 h2 =>
  intro u b h3 h4;have e : x≠p:=fun e=>h4 (.inl e)
  simp only [hang,if_neg h3];rw [h1 (fun q=>e q.1) (fun q=>h4 (.inr (.inl q))),h2 (fun q=>e q.1) (fun q=>h4 (.inr (.inr q)))]
theorem hang_su {t w : Tr} {x : Int} {s : Bool} : ∀ {u b},t.Dj->¬ t.Has u->Su u b t x s w->hang u b t x s = w.size:=by
 induction t with
 | lf p k v=>intro u b _ _ h; obtain ⟨rfl,rfl,rfl⟩:=h; simp [hang,size]
 | nd p q l r h1 h2 =>
  intro u b hd hu h;obtain ⟨d1,d2,d3,d4,d5⟩:=hd;have uL : ¬ l.Has u:=fun e=>hu (.inr (.inl e))
  have uR : ¬ r.Has u:=fun e=>hu (.inr (.inr e))
  have up : u≠p:=fun e=>hu (.inl e)
  rcases h with ⟨rfl,rfl,rfl⟩ | h | h
  ·simp only [hang];rw [hang0 (fun e=>up e.1) (fun e=>uL (inn_has e)),hang0 (fun e=>up e.1) (fun e=>uR (inn_has e))]
   simp
  ·have hx:=(ed_has (su_ed h)).2;have xu : ¬ (x = u/\s = b):=by
    rintro ⟨rfl,_⟩;rcases hx with e | e
    ·exact up e
    ·exact uL (inn_has e)
   have xr : ¬ r.Inn x:=by
    rcases hx with e | e
    ·rw [e]; exact fun q=>d2 (inn_has q)
    ·exact fun q=>d3 x (inn_has e) (inn_has q)
   have xs : ¬ (x = p/\s = true):=by
    rintro ⟨rfl,rfl⟩
    have:=(ed_root d4 d1 (su_ed h)).1
    cases this
   simp only [hang];rw [if_neg xu,h1 d4 d1 h,hang0 xs xr]; omega
  ·have hx:=(ed_has (su_ed h)).2;have xu : ¬ (x = u/\s = b):=by
    rintro ⟨rfl,_⟩;rcases hx with e | e
    ·exact up e
    ·exact uR (inn_has e)
   have xr : ¬ l.Inn x:=by
    rcases hx with e | e
    ·rw [e]; exact fun q=>d1 (inn_has q)
    ·exact fun q=>d3 x (inn_has q) (inn_has e)
   have xs : ¬ (x = p/\s = false):=by
    rintro ⟨rfl,rfl⟩
    have:=(ed_root d5 d2 (su_ed h)).1
    cases this
   simp only [hang];rw [if_neg xu,h2 d5 d2 h,hang0 xs xr]; omega
end Tr
def lsz (tr : Tr) (L : List (Int × Bool)) : Nat:=(L.map (fun p=>Tr.hang 0 false tr p.1 p.2)).sum
theorem Stk.lsz {tr : Tr} (hd : tr.Dj) (hz : ¬ tr.Has 0) : ∀ {L : List (Int × Bool)} {W : List Tr},Stk tr L W->T.lsz tr L = wsz W
 | [],[],_=>rfl
 | [],_ :: _,h=>h.elim
 | _ :: _,[],h=>h.elim
 | p :: L,w :: W,h=>by
  have:=Stk.lsz hd hz h.2
  unfold T.lsz wsz at *;simp only [List.map_cons,List.sum_cons];rw [this,Tr.hang_su hd hz h.1]
def rs (g : Gh) (k : PWork) : Nat:=if k.kind = 3 then (if k.stand = 0 then (g.V k.time).len k.key + 1 else (g.V k.time).rem k.key k.stand) else lsz (g.V k.time) k.links
section
variable {g g' : Gh} {M M' : PMem} {c c' T : Int} {r r' : PSweep} {i j : Nat} {t t' u : PThread} {ts ts' : List PThread} {P P' : PSt} {x d st : Int} {s : Bool} {key : Int} {k : PWork} {n : Int} {tr : Tr}
theorem Inv.linkNext3 (h : Inv g P) (ht : P.ts[i]? = some t) (hb : t.busy = true) (hk : t.work.kind = 3) : P.linkNext t.work = (t.work.stand,sd P.mem t.work.stand t.work.key):=by
 have:=(h.th i t ht).l3 hb (by omega)
 unfold PSt.linkNext;rw [this]; rfl
theorem Inv.readStep (h : Inv g P) (hV : InvV g P) (hR : InvR g P) (ht : P.ts[i]? = some t) (hb : t.busy = true) (hn : t.work.next = 4) (hk : t.work.kind = 3\/t.work.kind = 4) (hp : Pd P.mem (P.linkNext t.work).1 (P.linkNext t.work).2 = [])
  (ek : k = if t.work.kind = 3 then P.lookUp t.work (P.mem.ledTo (P.linkNext t.work).1 (P.linkNext t.work).2 t.work.time) else P.scan t.work (P.mem.ledTo (P.linkNext t.work).1 (P.linkNext t.work).2 t.work.time)) :
  RPos g { t with work:=k }/\(k.next = 4->rs g k < rs g t.work)/\1<=rs g t.work:=by
 have hT:=h.th i t ht;have hrd : Rdr t:=⟨hb,hk,by omega,by omega⟩;obtain ⟨hv,t0,t1⟩:=hV.rd i t ht hrd;have hg:=hV.gts _ t0 t1;have hP:=hR i t ht;rcases hk with hk | hk
 ·-- a Lookup
  rw [if_pos hk] at ek;rw [h.linkNext3 ht hb hk] at hp ek;simp only at hp ek;have hst:=hP.lo hb hk hn;have hky:=hT.ky hb (by omega)
  -- its link
  obtain ⟨d,hA,hs⟩ : ∃ d,A (g.V t.work.time) t.work.stand (sd P.mem t.work.stand t.work.key) d/\((g.V t.work.time).Pth t.work.key d\/((g.V t.work.time).goal t.work.key).1 = d):=by
   rcases hst with e | e
   ·rw [e,sd0 h.n.n0.2.1];refine ⟨_,Tr.ed_pl 0 false _,?_⟩;rcases Tr.pth_root (k:=t.work.key) (g.V t.work.time) with q | q
    ·exact .inl q
    ·exact .inr q.1
   ·obtain ⟨q,hq⟩:=Tr.pth_nod e;have hsd : sd P.mem t.work.stand t.work.key = decide (q<=t.work.key):=by
     have:=hv.a.n _ q hq
     unfold sd PMem.sideFor;simp only [Ln,Ky] at this;rw [this.2.1,this.2.2]; simp
    rw [hsd];obtain ⟨d,hA⟩:=Tr.inn_ed 0 false (decide (q<=t.work.key)) (Tr.pth_inn e);exact ⟨d,hA,Tr.pth_step hg.dj hg.z e hq hA⟩
  have hld:=h.ledIs hv hA hp;rw [hld] at ek;have hpos : 1<=rs g t.work:=by
   unfold rs;rw [if_pos hk];rcases hst with e | e
   ·rw [if_pos e]; omega
   ·rw [if_neg (fun (e0 : t.work.stand = 0)=>hg.z (e0 ▸ Tr.pth_has e))]; exact Tr.rem_pos e
  have hpass : P.isPassed d t.work.key = decide (Ln P.mem d = 2):=by unfold PSt.isPassed; rw [if_pos h.kind]; rfl
  by_cases hi : (g.V t.work.time).Inn d
  ·obtain ⟨q,hq⟩:=Tr.inn_nod hi;have hl:=(hv.a.n d q hq).2.1;have hpd : (g.V t.work.time).Pth t.work.key d:=by
    rcases hs with e | e
    ·exact e
    ·exact absurd (Tr.goal_lea (k:=t.work.key) (g.V t.work.time)) (by rw [e]; exact Tr.inn_lea hg.dj hi _ _)
   have ek' : k = { t.work with stand:=d }:=by
    rw [ek]; unfold PSt.lookUp; rw [hpass,if_pos (by simpa using hl)]
   have hd0 : d≠0:=fun e=>hg.z (e ▸ Tr.inn_has hi)
   refine ⟨⟨?_,?_,?_,?_,?_⟩,?_,hpos⟩
   ·rw [ek']; exact hP.sp
   ·rw [ek']; intro _ e; have : t.work.kind = 4:=e; omega
   ·rw [ek']; intro _ _ _; exact .inr hpd
   ·rw [ek']; intro _ e; have : t.work.kind = 4:=e; omega
   ·rw [ek']; intro _ _ e; have : t.work.next = 13:=e; omega
   ·intro _;have e1 : rs g k = (g.V t.work.time).rem t.work.key d:=by
     rw [ek']; unfold rs;show (if t.work.kind = 3 then (if d = 0 then _ else (g.V t.work.time).rem t.work.key d) else _) = _;rw [if_pos hk,if_neg hd0]
    rw [e1];unfold rs;rw [if_pos hk];rcases hst with e | e
    ·rw [if_pos e]
     have:=Tr.rem_len (k:=t.work.key) (g.V t.work.time) d
     omega
    ·rw [if_neg (fun (e0 : t.work.stand = 0)=>hg.z (e0 ▸ Tr.pth_has e))];obtain ⟨q',hq'⟩:=Tr.pth_nod e;have hsd : sd P.mem t.work.stand t.work.key = decide (q'<=t.work.key):=by
      have:=hv.a.n _ q' hq'
      unfold sd PMem.sideFor;simp only [Ln,Ky] at this;rw [this.2.1,this.2.2]; simp
     rw [hsd] at hA;exact Tr.rem_lt hg.dj hg.z e hq' hA hpd
  ·have hgo : ((g.V t.work.time).goal t.work.key).1 = d:=by
    rcases hs with e | e
    ·exact absurd (Tr.pth_inn e) hi
    ·exact e
   have hle:=hv.a.l _ _ _ (Tr.goal_lea (k:=t.work.key) (g.V t.work.time));rw [hgo] at hle;obtain ⟨l1,l2,l3,l4⟩:=hle;have ek' : k = t.work.conclude (if (P.mem.node d).key = t.work.key then { stamp:=t.work.time,did:=true,value:=(P.mem.node d).value } else { stamp:=t.work.time }):=by
    rw [ek]; unfold PSt.lookUp; rw [hpass,if_neg (by simp; omega)]
   have kn : k.next = 13:=by rw [ek']; rfl
   refine ⟨⟨?_,?_,?_,?_,?_⟩,fun e=>by omega,hpos⟩
   ·rw [ek']; exact hP.sp
   ·intro _ _ e; have : k.next<=3:=e; omega
   ·intro _ _ e; have : k.next = 4:=e; omega
   ·intro _ _ e; have : k.next = 4:=e; omega
   ·intro _ _ _;have hval:=Rt_val hg hky.2;have k3 : k.kind = 3:=by rw [ek']; exact hk
    have ktm : k.time = t.work.time:=by rw [ek']; rfl
    have kky : k.key = t.work.key:=by rw [ek']; rfl
    show k.ans = readAns (Rt g k.time) k;unfold readAns;rw [if_pos k3,ktm,kky,hval];have ka : k.ans = (if (P.mem.node d).key = t.work.key then { stamp:=t.work.time,did:=true,value:=(P.mem.node d).value } else { stamp:=t.work.time }):=by rw [ek']; rfl
    simp only [Ky] at l3;rw [ka,l3,l4];split <;> rfl
 ·-- a Scan
  rw [if_neg (by omega)] at ek;obtain ⟨W,s1,s2,s4,s3⟩:=hP.sc hb hk hn;obtain ⟨p,L,hL⟩ : ∃ p L,t.work.links = p :: L:=by
   cases hl : t.work.links with
   | nil=>exact absurd hl s2
   | cons p L=>exact ⟨p,L,rfl⟩
  obtain ⟨w,W0,rfl⟩ : ∃ w W0,W = w :: W0:=by
   cases W with
   | nil=>rw [hL] at s1; exact s1.elim
   | cons w W0=>exact ⟨w,W0,rfl⟩
  rw [hL] at s1;obtain ⟨hw,hW⟩:=s1;have hln : P.linkNext t.work = p:=by unfold PSt.linkNext; rw [hL]
  rw [hln] at hp ek;have hld:=h.ledIs hv (Tr.su_ed hw) hp;rw [hld] at ek;obtain ⟨W',z1,z2,z3⟩:=scan_step (k:=t.work) h.kind hv.a hg.ok (x:=p.1) (s:=p.2) (L:=L) hL hw hW;have hlz : lsz (g.V t.work.time) t.work.links = wsz (w :: W0):=by
   rw [hL]; exact Stk.lsz hg.dj hg.z (L:=p :: L) (W:=w :: W0) ⟨hw,hW⟩
  have hsz : 1<=wsz (w :: W0):=by
   simp only [wsz,List.map_cons,List.sum_cons];have : 1<=w.size:=by cases w <;> simp [Tr.size] <;> omega
   omega
  have hrs : rs g t.work = wsz (w :: W0):=by unfold rs; rw [if_neg (by omega)]; exact hlz
  -- what it is then
  obtain ⟨nt,hnt⟩ : ∃ nt,nt = (if !((P.mem.node w.pl).links == 2) && isIn (P.mem.node w.pl).key (leastLo t.work.spans) (greatestHi t.work.spans) then t.work.noted ++ [((P.mem.node w.pl).key,(P.mem.node w.pl).value)] else t.work.noted):=⟨_,rfl⟩;obtain ⟨ls,hls⟩ : ∃ ls,ls = P.linksWithin w.pl (leastLo t.work.spans) (greatestHi t.work.spans) ++ t.work.links.drop 1:=⟨_,rfl⟩;rw [<- hnt] at z3;rw [<- hls] at z1;have ek' : k = if ls.length = 0 then ({ t.work with noted:=nt,links:=ls } : PWork).conclude (answerOf t.work.spans nt t.work.time) else { t.work with noted:=nt,links:=ls }:=by
   rw [ek,hnt,hls]; rfl
  by_cases he : ls.length = 0
  ·rw [if_pos he] at ek';have hls0 : ls = []:=List.length_eq_zero_iff.1 he;have hW0:=z1.rows_nil hls0;subst hW0;have kn : k.next = 13:=by rw [ek']; rfl
   refine ⟨⟨?_,?_,?_,?_,?_⟩,fun e=>by omega,by omega⟩
   ·rw [ek']; exact hP.sp
   ·intro _ _ e; have : k.next<=3:=e; omega
   ·intro _ _ e; have : k.next = 4:=e; omega
   ·intro _ _ e; have : k.next = 4:=e; omega
   ·intro _ _ _;have hso:=hP.sp hb hk;have hnote : nt = (g.V t.work.time).rows.filter (hull t.work):=by
     have:=z3.trans s3
     simpa using this
    have k4 : ¬ k.kind = 3:=by
     have : k.kind = t.work.kind:=by rw [ek']; rfl
     omega
    have ktm : k.time = t.work.time:=by rw [ek']; rfl
    have ksp : k.spans = t.work.spans:=by rw [ek']; rfl
    have ka : k.ans = answerOf t.work.spans nt t.work.time:=by rw [ek']; rfl
    show k.ans = readAns (Rt g k.time) k;unfold readAns;rw [if_neg k4,ktm,ksp,ka,hnote];rw [<- (hull_answer hso (Rt g t.work.time) t.work.time).1]
    congr 1
    unfold Rt;rw [List.filter_filter];apply List.filter_congr;rintro ⟨k1,v1⟩ _;have hhi:=(hull_answer hso (Rt g t.work.time) t.work.time).2;simp only [hull];by_cases hin : isIn k1 (leastLo t.work.spans) (greatestHi t.work.spans) = true
    ·rw [hin]
     have:=isIn_iff.1 hin
     have h2 : k1<=1099511627776:=by omega
     simp [h2]
    ·simp only [Bool.not_eq_true] at hin; rw [hin]; simp
  ·rw [if_neg he] at ek';have kn : k.next = 4:=by rw [ek']; exact hn
   have kk : k.kind = 4:=by rw [ek']; exact hk
   refine ⟨⟨?_,?_,?_,?_,?_⟩,?_,by omega⟩
   ·rw [ek']; exact hP.sp
   ·intro _ _ e; have : k.next<=3:=e; omega
   ·intro _ e; have : k.kind = 3:=e; omega
   ·intro _ _ _;rw [ek'];refine ⟨W',z1,fun e=>he (by have e : ls = []:=e; rw [e]; rfl),by show wsz W'<=(g.V t.work.time).size; omega,?_⟩;exact z3.trans s3
   ·intro _ _ e; have : k.next = 13:=e; omega
   ·intro _;have : rs g k = wsz W':=by
     unfold rs;rw [if_neg (by omega),ek'];exact Stk.lsz hg.dj hg.z z1
    omega
end
end T
end
section
namespace T
section
variable {g g' : Gh} {M M' : PMem} {c c' T : Int} {r r' : PSweep} {i j : Nat} {t t' u : PThread} {ts ts' : List PThread} {P P' : PSt} {x d st : Int} {s : Bool} {key : Int} {k : PWork} {n : Int} {tr : Tr}
theorem RPos.congr (h : RPos g t) (hv : t.busy = true->3<=t.work.next->g'.V t.work.time = g.V t.work.time) : RPos g' t:=by
 refine ⟨h.sp,h.no,?_,?_,?_⟩
 ·intro b hk hn; rw [hv b (by omega)]; exact h.lo b hk hn
 ·intro b hk hn; rw [hv b (by omega)]; exact h.sc b hk hn
 ·intro b hk hn; unfold Rt; rw [hv b (by omega)]; exact h.an b hk hn
theorem InvR.step (hR : InvR g P) (hV : InvV g P) (h : Inv g P) (ht : P.ts[i]? = some t) (hb : t.busy = true) : InvR (nextG g P i t) (P.step i t).1:=by
 have hi:=(List.getElem?_eq_some_iff.1 ht).1;have hT:=h.th i t ht;have hP:=hR i t ht;have oth : ∀ (j : Nat) u,P.ts[j]? = some u->RPos (nextG g P i t) u:=by
  intro j u hj;refine (hR j u hj).congr (fun b h3=>nextG_V P t i ?_);exact ((h.th j u hj).tm b h3).1
 have own : ∀ t',(P.step i t).1.ts = P.ts.set i t'->RPos g t'->(t'.busy = true->3<=t'.work.next->t'.work.time<=P.clock)->InvR (nextG g P i t) (P.step i t).1:=by
  intro t' e1 e2 e3 j u hj;rw [e1,List.getElem?_set] at hj;by_cases ej : i = j
  ·subst ej;simp [hi] at hj; subst hj;exact e2.congr (fun b h3=>nextG_V P t i (e3 b h3))
  ·rw [if_neg ej] at hj; exact oth j u hj
 have htm:=hT.tm hb;have up : ∀ {k : PWork},(k.kind = 1\/k.kind = 2)->RPos g { t with work:=k }:=fun hk=>RPos.upd (fun _=>hk)
 obtain ⟨P',n,hs,ho⟩:=h.out ht hb;have hs1 : (P.step i t).1 = P':=by rw [hs]
 cases ho with
 | come1 hn=>exact own _ (congrArg PSt.ts hs1) (hP.at3 (by omega) rfl rfl rfl rfl (by show 2<=3; omega)) (fun _ h3=>by have : 3<=2:=h3; omega)
 | come2 hn=>exact own _ (congrArg PSt.ts hs1) (hP.at3 (by omega) rfl rfl rfl rfl (by show 3<=3; omega)) (fun _ _=>Int.le_refl _)
 | come3 hn =>
  refine own _ (congrArg PSt.ts hs1) ?_ (fun _ _=>(htm (by omega)).1);refine ⟨hP.sp,fun _ _ e=>?_,fun _ _ _=>.inl rfl,fun _ hk _=>?_,fun _ _ e=>?_⟩
  ·have : 4<=3:=e; omega
  ·have hk : t.work.kind = 4:=hk;refine ⟨[g.V t.work.time],?_,?_,by simp [wsz]; exact Nat.le_refl _,?_⟩
   ·show Stk (g.V t.work.time) t.work.links _;rw [hT.lk hb hk (by omega)]; exact ⟨Tr.su_root 0 false _,trivial⟩
   ·show t.work.links≠[];rw [hT.lk hb hk (by omega)]; simp
   ·show t.work.noted ++ _ = _;rw [hP.no hb hk (by omega)]; simp; rfl
  ·have : 4 = 13:=e; omega
 | leave hn=>exact own _ (congrArg PSt.ts hs1) ⟨(fun b=>nomatch b),(fun b=>nomatch b),(fun b=>nomatch b),(fun b=>nomatch b),(fun b=>nomatch b)⟩ (fun b=>nomatch b)
 | rwait=>rw [hs1]; exact oth
 | lwait=>rw [hs1]; exact oth
 | rgo hn hk hp k ek hsk=>exact own _ (congrArg PSt.ts hs1) (h.readStep hV hR ht hb hn hk hp ek).1 (fun _ _=>by show k.time<=_; rw [hsk.2.2.1]; exact (htm (by omega)).1)
 | walkOn hn hk=>exact own _ (congrArg PSt.ts hs1) (up hk) (fun _ _=>(htm (by omega)).1)
 | walkEnd hn hk=>exact own _ (congrArg PSt.ts hs1) (up hk) (fun _ _=>(htm (by omega)).1)
 | lock hn hk=>exact own _ (congrArg PSt.ts hs1) (up hk) (fun _ _=>(htm (by omega)).1)
 | home hn hk=>exact own _ (congrArg PSt.ts hs1) (up hk) (fun _ _=>(htm (by omega)).1)
 | same hn hk=>exact own _ (congrArg PSt.ts hs1) (up hk) (fun _ _=>(htm (by omega)).1)
 | right hn hk=>exact own _ (congrArg PSt.ts hs1) (up hk) (fun _ _=>(htm (by omega)).1)
 | full hn hk=>exact own _ (congrArg PSt.ts hs1) (up hk) (fun _ _=>(htm (by omega)).1)
 | prepI hn hk=>exact own _ (congrArg PSt.ts hs1) (up (.inl hk)) (fun _ _=>(htm (by omega)).1)
 | prepR hn hk=>exact own _ (congrArg PSt.ts hs1) (up (.inr hk)) (fun _ _=>(htm (by omega)).1)
 | late hn hk=>exact own _ (congrArg PSt.ts hs1) (up hk) (fun _ _=>(htm (by omega)).1)
 | takeI hn hk=>exact own _ (congrArg PSt.ts hs1) (up (.inl hk)) (fun _ _=>(htm (by omega)).1)
 | takeR hn hk=>exact own _ (congrArg PSt.ts hs1) (up (.inr hk)) (fun _ _=>(htm (by omega)).1)
 | kill hn hk=>exact own _ (congrArg PSt.ts hs1) (up (.inr hk)) (fun _ _=>(htm (by omega)).1)
 | link hn hk=>exact own _ (congrArg PSt.ts hs1) (up hk) (fun _ _=>(htm (by omega)).1)
 | stamp hn hk=>exact own _ (congrArg PSt.ts hs1) (up hk) (fun _ _=>(htm (by omega)).1)
 | unlock hn hk=>exact own _ (congrArg PSt.ts hs1) (up hk) (fun _ _=>(htm (by omega)).1)
theorem sweep_ts (P : PSt) : P.doSweep.1.ts = P.ts:=by
 unfold PSt.doSweep;simp only;split
 ·rfl
 ·split
  ·split <;> rfl
  ·split <;> rfl
theorem InvR.sweep (hR : InvR g P) : InvR (sweepG g P) P.doSweep.1:=by
 intro i t ht;rw [sweep_ts] at ht;exact (hR i t ht).congr (fun _ _=>by rw [sweepG_V])
theorem InvV.begin (hV : InvV g P) (ht : P.ts[i]? = some t) (hb : t.busy = false) (hn : t'.work.next = 1) : InvV g { P with ts:=P.ts.set i t' }:=by
 have hi:=(List.getElem?_eq_some_iff.1 ht).1;have n8 : ∀ x,¬ Fr8 x t:=by rintro x ⟨e,_⟩; rw [hb] at e; cases e
 have n8' : ∀ x,¬ Fr8 x t':=by rintro x ⟨_,_,e,_⟩; omega
 have nv : ∀ x s st,¬ Vs x s st t:=by rintro x s st ⟨e,_⟩; rw [hb] at e; cases e
 have nv' : ∀ x s st,¬ Vs x s st t':=by rintro x s st ⟨_,_,e,_⟩; omega
 have ve : ∀ x s st d,VE P.mem (P.ts.set i t') x s st d ↔ VE P.mem P.ts x s st d:=by
  intro x s st d;unfold VE;rw [ex_iff ht (iff_of_false (nv' x s st) (nv x s st))]
 have ver : ∀ tr T,Ver P.mem P.ts tr T->Ver P.mem (P.ts.set i t') tr T:=by
  intro tr T hR;refine ⟨hR.a,hR.r,?_,?_⟩
  ·intro x hx;rw [ex_iff ht (iff_of_false (n8' x) (n8 x))]; exact hR.f x hx
  ·intro x s d hd;obtain ⟨st,e1,e2,e3⟩:=hR.e x s d hd;exact ⟨st,(ve _ _ _ _).2 e1,e2,fun st' d' q1 q2=>e3 st' d' ((ve _ _ _ _).1 q1) q2⟩
 refine ⟨ver _ _ hV.now,hV.gts,?_⟩;intro j u hj hr;have hj : (P.ts.set i t')[j]? = some u:=hj;rw [List.getElem?_set] at hj;by_cases ej : i = j
 ·subst ej;simp [hi] at hj; subst hj
  have:=hr.2.2.1; omega
 ·rw [if_neg ej] at hj
  have:=hV.rd j u hj hr
  exact ⟨ver _ _ this.1,this.2⟩
theorem InvR.begin (hR : InvR g P) (ht : P.ts[i]? = some t) (hn : t'.work.next = 1) (h1 : t'.busy = true->t'.work.kind = 4->spansOkX t'.work.spans = true) (h2 : t'.work.kind = 4->t'.work.noted = []) : InvR g { P with ts:=P.ts.set i t' }:=by
 have hi:=(List.getElem?_eq_some_iff.1 ht).1;intro j u hj;have hj : (P.ts.set i t')[j]? = some u:=hj;rw [List.getElem?_set] at hj;by_cases ej : i = j
 ·subst ej;simp [hi] at hj; subst hj;exact ⟨h1,fun _ k _=>h2 k,fun _ _ e=>by omega,fun _ _ e=>by omega,fun _ _ e=>by omega⟩
 ·rw [if_neg ej] at hj;exact hR j u hj
end
end T
end
section
namespace T
theorem filt_le {α : Type} (p q : α->Bool) : ∀ (l : List α),(∀ a ∈ l,q a = true->p a = true)->(l.filter q).length<=(l.filter p).length
 | [],_=>by simp
 | a :: l,h=>by
  have ih:=filt_le p q l (fun b hb=>h b (by simp [hb]));have ha:=h a (by simp);rw [List.filter_cons,List.filter_cons];by_cases hq : q a = true
  ·rw [if_pos hq,if_pos (ha hq)]; simpa using ih
  ·rw [if_neg hq];split
   ·simp; omega
   ·exact ih
theorem filt_lt {α : Type} (p q : α->Bool) : ∀ (l : List α),(∀ a ∈ l,q a = true->p a = true)->(∃ a ∈ l,p a = true/\q a = false)->(l.filter q).length < (l.filter p).length
 | [],_,h=>by obtain ⟨a,ha,_⟩:=h; cases ha
 | a :: l,h,hx=>by
  have hle:=filt_le p q l (fun b hb=>h b (by simp [hb]));have ha:=h a (by simp);rw [List.filter_cons,List.filter_cons];obtain ⟨b,hb,h1,h2⟩:=hx;rcases List.mem_cons.1 hb with rfl | hb
  ·rw [if_pos h1,if_neg (by rw [h2]; decide)]; simp; omega
  ·have ih:=filt_lt p q l (fun c hc=>h c (by simp [hc])) ⟨b,hb,h1,h2⟩;by_cases hq : q a = true
   ·rw [if_pos hq,if_pos (ha hq)]; simpa using ih
   ·rw [if_neg hq];split
    ·simp; omega
    ·exact ih
theorem sum_set (f g : PThread->Nat) : ∀ (ts : List PThread) (i : Nat) (t t' : PThread),ts[i]? = some t->(∀ j u,j≠i->ts[j]? = some u->g u<=f u)->g t' < f t->((ts.set i t').map g).sum < (ts.map f).sum
 | [],i,t,t',h,_,_=>by simp at h
 | a :: l,0,t,t',h,ho,hi=>by
  simp at h; subst h;have hl : (l.map g).sum<=(l.map f).sum:=by
   have : ∀ (m : List PThread),(∀ u ∈ m,g u<=f u)->(m.map g).sum<=(m.map f).sum:=by
    intro m
    induction m with
    | nil=>simp
    | cons b m ih =>
     intro hm;have h1:=hm b (by simp);have h2:=ih (fun u hu=>hm u (by simp [hu]));simp only [List.map_cons,List.sum_cons]; omega
   apply this;intro u hu;obtain ⟨j,hj⟩:=List.mem_iff_getElem?.1 hu;exact ho (j + 1) u (by omega) (by simpa using hj)
  simp only [List.set_cons_zero,List.map_cons,List.sum_cons]; omega
 | a :: l,i + 1,t,t',h,ho,hi=>by
  have ih:=sum_set f g l i t t' (by simpa using h) (fun j u hj hu=>ho (j + 1) u (by omega) (by simpa using hu)) hi;have h0:=ho 0 a (by omega) rfl;simp only [List.set_cons_succ,List.map_cons,List.sum_cons]; omega
theorem count_set_le (p : PThread->Bool) : ∀ {ts : List PThread} {i : Nat} {t t' : PThread},ts[i]? = some t->(p t' = true->p t = true)->count p (ts.set i t')<=count p ts
 | [],i,t,t',h=>by simp at h
 | a :: l,0,t,t',h=>by
  intro hp;simp at h; subst h;unfold count;rw [List.set_cons_zero,List.filter_cons,List.filter_cons];by_cases hq : p t' = true
  ·rw [if_pos hq,if_pos (hp hq)]; simp
  ·rw [if_neg hq]; split <;> simp
 | a :: l,i + 1,t,t',h=>by
  intro hp;have ih:=count_set_le p (ts:=l) (i:=i) (t:=t) (t':=t') (by simpa using h) hp;unfold count at *;rw [List.set_cons_succ,List.filter_cons,List.filter_cons];split <;> simp <;> omega
def Passed (g : Gh) (M : PMem) (c : Int) (ts : List PThread) (x p : Int) : Prop:=p = 0\/(x≠0/\Ln M p = 2/\Gd g c ts p/\g.B p<=g.B x)
open Classical in
noncomputable def wp (L : Nat) (g : Gh) (M : PMem) (c : Int) (ts : List PThread) (x : Int) : Nat:=((List.range L).filter (fun p=>decide (¬ Passed g M c ts x ((p : Nat) : Int)))).length
def Ahd (x : Int) (u : PThread) : Prop:=u.busy = true/\u.work.kind = 2/\(u.work.next = 9\/u.work.next = 10)/\u.work.stand = x
def Lk (g : Gh) (M : PMem) (c : Int) (ts : List PThread) (x : Int) : Prop:=x = 0\/(Ln M x = 2/\Gd g c ts x/\(¬ g.O x\/Ex ts (Ahd x)))
structure Okk (g : Gh) (M : PMem) (c : Int) (ts : List PThread) (k : PWork) : Prop where
 s : Lk g M c ts k.stand
 a : k.stand≠0->Lk g M c ts k.above/\Ld M k.above (sd M k.above k.key) = k.stand
 h : 5<=k.next->Ld M k.stand (sd M k.stand k.key) = k.ahead
open Classical in
noncomputable def stale (g : Gh) (M : PMem) (c : Int) (ts : List PThread) (k : PWork) : Nat:=if Okk g M c ts k then 0 else 1
def unl (t : PThread) : Bool:=t.busy && (decide (t.work.kind = 1\/t.work.kind = 2) && decide (t.work.next<=10))
noncomputable def phi (L : Nat) (g : Gh) (M : PMem) (c : Int) (ts : List PThread) (n : Nat) (t : PThread) : Nat :=
 if t.busy = false then 0
 else if t.work.kind = 3\/t.work.kind = 4 then (if t.work.next = 13 then 1 else if t.work.next = 4 then 2 + rs g t.work else L + 7 - t.work.next)
 else if 7<=t.work.next then 14 - t.work.next
 else (if t.work.next = 6 then 9 else if t.work.next = 5 then 11 - t.work.locks else if t.work.next = 4 then 11 + wp L g M c ts t.work.stand else L + 15 - t.work.next) + (n + (if 4<=t.work.next then stale g M c ts t.work else 0)) * (L + 2)
noncomputable def Phi (L : Nat) (g : Gh) (P : PSt) : Nat:=(P.ts.map (phi L g P.mem P.clock P.ts (count unl P.ts))).sum
section
variable {g g' : Gh} {M M' : PMem} {c c' T : Int} {r r' : PSweep} {i j : Nat} {t t' u : PThread} {ts ts' : List PThread} {P P' : PSt} {x d st : Int} {s : Bool} {key : Int} {k : PWork} {n : Int} {tr : Tr} {L : Nat}
open Classical in
theorem wp_mono (h : ∀ p,Passed g M c ts x p->Passed g' M' c' ts' x p) : wp L g' M' c' ts' x<=wp L g M c ts x:=by
 refine filt_le _ _ _ ?_;intro a _ hq;simp only [decide_eq_true_eq] at hq ⊢;exact fun hp=>hq (h _ hp)
open Classical in
theorem wp_le (hL : 1<=L) (g : Gh) (M : PMem) (c : Int) (ts : List PThread) (x : Int) : wp L g M c ts x + 1<=L:=by
 have h:=filt_lt (fun _ : Nat=>true) (fun p=>decide (¬ Passed g M c ts x ((p : Nat) : Int))) (List.range L) (fun _ _ _=>rfl) ⟨0,by simp; omega,rfl,by simp; exact .inl rfl⟩;have h2:=List.length_filter_le (fun _ : Nat=>true) (List.range L);rw [List.length_range] at h2;exact Nat.le_trans h h2
open Classical in
theorem Inv.wp_pos (h : Inv g P) (hL : 2<=L) (x : Int) : 1<=wp L g P.mem P.clock P.ts x:=by
 have h1:=h.n.one.2.2.1;have : 0 < ((List.range L).filter (fun p=>decide (¬ Passed g P.mem P.clock P.ts x ((p : Nat) : Int)))).length:=by
  refine List.length_pos_of_mem (a:=1) (List.mem_filter.2 ⟨by simp; omega,?_⟩);simp only [decide_eq_true_eq];rintro (e | ⟨_,e,_⟩)
  ·exact absurd e (by decide)
  ·have e : Ln P.mem 1 = 2:=e;omega
 exact this
open Classical in
theorem Inv.wp_lt (h : Inv g P) (hL : P.mem.ns.length = L) (hd : Ln P.mem d = 2) (hg : Gd g P.clock P.ts d) (hlt : g.B x < g.B d) : wp L g P.mem P.clock P.ts d < wp L g P.mem P.clock P.ts x:=by
 have hu:=h.usedGd (.inr hg);have hr:=hasN_iff.1 (hasN_used hu);have h0 : d≠0:=fun e=>h.gd0 (e ▸ hg)
 refine filt_lt _ _ _ ?_ ⟨d.toNat,by simp; omega,?_,?_⟩
 ·intro a _ hq;simp only [decide_eq_true_eq] at hq ⊢;rintro (e | ⟨e1,e2,e3,e4⟩)
  ·exact hq (.inl e)
  ·exact hq (.inr ⟨h0,e2,e3,by omega⟩)
 ·simp only [decide_eq_true_eq];have e : ((d.toNat : Nat) : Int) = d:=by omega
  rw [e];rintro (q | ⟨_,_,_,q⟩)
  ·exact h0 q
  ·omega
 ·have e : ((d.toNat : Nat) : Int) = d:=by omega
  rw [e];simp only [decide_eq_false_iff_not,Classical.not_not];exact .inr ⟨h0,hd,hg,Int.le_refl _⟩
theorem stale_le (g : Gh) (M : PMem) (c : Int) (ts : List PThread) (k : PWork) : stale g M c ts k<=1:=by unfold stale; split <;> omega
theorem stale_zero (h : Okk g M c ts k) : stale g M c ts k = 0:=by unfold stale; rw [if_pos h]
theorem stale_mono {k' : PWork} (h : Okk g M c ts k->Okk g' M' c' ts' k') : stale g' M' c' ts' k'<=stale g M c ts k:=by
 unfold stale;split
 ·omega
 ·next h1 =>
  split
  ·next h2=>exact absurd (h h2) h1
  ·omega
theorem Inv.lkOn (h : Inv g P) (hx : Lk g P.mem P.clock P.ts x) (hs : x = 0->s = false) (hl : Ln P.mem (Ld P.mem x s) = 2) : Lk g P.mem P.clock P.ts (Ld P.mem x s):=by
 have hx' : x = 0\/(Ln P.mem x = 2/\Gd g P.clock P.ts x):=by
  rcases hx with e | e
  ·exact .inl e
  ·exact .inr ⟨e.1,e.2.1⟩
 have hg:=(h.n.ph x s hx' hs).1;refine .inr ⟨hl,hg,?_⟩;by_cases hO : g.O (Ld P.mem x s)
 ·right;have viaT : x = 0/\s = false\/(g.V P.clock).Inn x->Ex P.ts (Ahd (Ld P.mem x s)):=by
   intro hi;obtain ⟨j,u,hj,b,hk,hn,e1,_⟩:=h.outLed hi hO;exact ⟨j,u,hj,b,hk,hn,e1⟩
  rcases hx with e | ⟨e1,e2,e3⟩
  ·exact viaT (.inl ⟨e,hs e⟩)
  ·by_cases hOx : g.O x
   ·exfalso;obtain ⟨j,u,hj,b,hk,hn,e⟩:=e3.resolve_left (fun q=>q hOx);have hT:=h.th j u hj;have q:=(hT.q9 b hk (by omega)).1;subst e;by_cases hss : s = sd P.mem u.work.stand u.work.key
    ·rw [hss,q.ld] at hl
     have:=(hT.cs b (by omega) (by omega)).2.2.1; omega
    ·rw [notSide hss] at hO;exact (h.n.ou _ hO).2.1 (Tr.ed_has q.a).1
   ·refine viaT (.inr ?_);have hH:=e2.1.resolve_left hOx;exact (h.n.inn hH).1.1 e1
 ·exact .inl hO
theorem Inv.okPass (h : Inv g P) (ht : P.ts[i]? = some t) (hb : t.busy = true) (hn : t.work.next = 6) (hok : Okk g P.mem P.clock P.ts t.work) : ¬ P.outdated t.work = true:=by
 have hT:=h.th i t ht;have live : ∀ x,Us P.mem x->Ho P.mem x = i->Lk g P.mem P.clock P.ts x->(P.mem.node x).dead = false:=by
  intro x hu hh hl;cases hd : (P.mem.node x).dead
  ·rfl
  ·exfalso;have hO:=h.n.od x hd;rcases hl with e | ⟨_,_,e⟩
   ·subst e;exact (h.n.ou 0 hO).2.2.1 rfl
   ·obtain ⟨j,u,hj,b,hk,hn',e⟩:=e.resolve_left (fun q=>q hO);have hs:=(h.th j u hj).hStand b (by omega) (by omega);rw [e,hh] at hs;have : i = j:=by have:=hs.2; omega
    subst this;rw [ht] at hj; injection hj with hj; subst hj
    omega
 rw [h.outd ht hb (by omega) (by omega)];rw [Classical.not_not];have hS:=hT.hStand hb (by omega) (by omega);refine ⟨live _ hS.1 hS.2 hok.s,hok.h (by omega),?_⟩;intro hm;have hA:=hT.hAbove h.n.one.1 hb (by omega) (by omega) hm;have hz:=hT.ns h.n.one.1 hb (by omega) (by omega) hm
 have:=hok.a hz
 exact ⟨live _ hA.1 hA.2 this.1,this.2⟩
end
end T
end
end Go.Proofs.YtfccelbmacjifabGreat
