import Derived.Test.YtfccelbmacjifabGreatP0
import Derived.Test.YtfccelbmacjifabGreatP3
set_option linter.unusedSimpArgs false
set_option maxRecDepth 100000
set_option maxHeartbeats 4000000
namespace Go.Proofs.YtfccelbmacjifabGreat
section
namespace T
theorem setW_to {i : Nat} {t : PThread} (P : PSt) (ht : P.ts[i]? = some t) (k : PWork) : P.setW i k = { P with ts:=P.ts.set i { t with work:=k } }:=by
 unfold PSt.setW
 congr 1
 apply List.ext_getElem?;intro j;rw [List.getElem?_modify,List.getElem?_set];by_cases e : i = j
 ·subst e;obtain ⟨h1,h2⟩:=List.getElem?_eq_some_iff.1 ht;simp [h1,h2]
 ·simp [e]
theorem setMW_to {i : Nat} {t : PThread} (P : PSt) (ht : P.ts[i]? = some t) (M : PMem) (k : PWork) : (P.setM M).setW i k = { P with mem:=M,ts:=P.ts.set i { t with work:=k } }:=setW_to (P.setM M) ht k
section
variable {g g' : Gh} {M M' : PMem} {c c' : Int} {r : PSweep} {i j : Nat} {t t' u : PThread} {ts ts' : List PThread} {P : PSt} {x : Int} {s : Bool} {key : Int}
theorem Th.of7 (h7 : t.busy = true->t.work.next<=7\/t.work.next = 13\/(t.work.next = 12/\¬ (t.work.kind = 2/\t.work.ans.did = true)))
  (kd : t.busy = true->t.work.kind = 1\/t.work.kind = 2\/t.work.kind = 3\/t.work.kind = 4)
  (nx : t.busy = true->1<=t.work.next/\t.work.next<=13)
  (rd : t.busy = true->(t.work.kind = 3\/t.work.kind = 4)->t.work.next<=4\/t.work.next = 13)
  (sl : t.slot = if t.busy = true/\t.work.next≠1 then (if t.work.next<=3 then 1 else 2) else 0)
  (tm : t.busy = true->3<=t.work.next->t.work.time<=c/\(i + 1 < r.made->(r.hasTime = true/\r.time<=t.work.time)\/r.clock<=t.work.time))
  (hd : ∀ x,Us M x->(Ho M x = i ↔ t.busy = true/\x ∈ (hl M t.work).take t.work.locks))
  (l4 : t.busy = true->t.work.next<=4\/t.work.next = 13->t.work.locks = 0)
  (l5 : t.busy = true->t.work.next = 5->t.work.locks < (hl M t.work).length)
  (l6 : t.busy = true->6<=t.work.next->t.work.next<=12->t.work.locks = (hl M t.work).length)
  (ky : t.busy = true->t.work.kind≠4->0<=t.work.key/\t.work.key<=1099511627776)
  (hi : t.busy = true->t.work.kind = 4->greatestHi t.work.spans<=1099511627776)
  (lk : t.busy = true->t.work.kind = 4->t.work.next<=3->t.work.links = [(0,false)])
  (l3 : t.busy = true->t.work.kind≠4->t.work.links = [])
  (m7 : t.busy = true->t.work.next<=7->t.work.made = [])
  (xs : t.busy = true->t.work.kind = 1\/t.work.kind = 2->4<=t.work.next->t.work.next<=12->Wk g M c ts t.work.key t.work.stand/\Safe M r i t.work.time t.work.stand)
  (xa : t.busy = true->t.work.kind = 1\/t.work.kind = 2->4<=t.work.next->t.work.next<=12->t.work.stand≠0->Wk g M c ts t.work.key t.work.above/\Safe M r i t.work.time t.work.above/\g.B t.work.above < g.B t.work.stand)
  (cs : t.busy = true->5<=t.work.next->t.work.next<=12->Gd g c ts t.work.ahead/\Safe M r i t.work.time t.work.ahead/\Ln M t.work.ahead = 0/\(t.work.stand = 0->t.work.ahead = 1))
  (c7 : t.busy = true->t.work.next = 7->(Ky M t.work.ahead = t.work.key ↔ t.work.kind = 2))
  (e7 : t.busy = true->t.work.next = 7->A (g.V c) t.work.stand (sd M t.work.stand t.work.key) t.work.ahead/\Ld M t.work.stand (sd M t.work.stand t.work.key) = t.work.ahead/\(t.work.kind = 2->A (g.V c) t.work.above (sd M t.work.above t.work.key) t.work.stand/\Ld M t.work.above (sd M t.work.above t.work.key) = t.work.stand)) : Th g M c r ts i t:=by
 refine ⟨kd,nx,rd,sl,tm,hd,l4,l5,l6,ky,hi,lk,l3,m7,xs,xa,cs,?_,?_,?_,?_,?_,?_,?_,?_,?_,?_⟩
 ·intro b h1; have:=h7 b; omega
 ·intro b h1 h2; exact c7 b (by have:=h7 b; omega)
 ·intro b h1 h2; exact e7 b (by have:=h7 b; omega)
 ·intro b h1 h2; have:=h7 b; omega
 ·intro b _ h1; have:=h7 b; omega
 ·intro b _ h1; have:=h7 b; omega
 ·intro b _ h1 h2; have:=h7 b; omega
 ·intro b hk hn; have:=h7 b; grind
 ·intro b h1; have:=h7 b; omega
 ·intro b h1 h2; have:=h7 b; omega
theorem sd0 (h : Ln M 0 = 1) (key : Int) : sd M 0 key = false:=by unfold sd PMem.sideFor; simp only [Ln] at h; rw [h]; rfl
theorem Inv.gdLn (h : Inv g P) (hx : Gd g P.clock P.ts x) : Ln P.mem x = 0\/Ln P.mem x = 2:=by
 rcases hx.1 with hx | hx
 ·exact (h.n.ou x hx).2.2.2
 ·rcases Tr.has_or hx with ⟨q,hq⟩ | ⟨q,w,hq⟩
  ·exact .inr (h.n.ag.n x q hq).2.1
  ·exact .inl (h.n.ag.l x q w hq).2.1
theorem Inv.hasLink (h : Inv g P) (hx : x = 0\/(Ln P.mem x = 2/\Gd g P.clock P.ts x)) (hs : x = 0->s = false) : P.mem.hasLink x s = true:=by
 rw [hasLink_iff];have hu:=h.usedGd (x:=x) (by rcases hx with e | e; exact .inl e; exact .inr e.2);refine ⟨hasN_used hu,?_⟩;rcases hx with rfl | hx
 ·rw [hs rfl]; have:=h.n.n0.2.1; simp only [Ln] at this; rw [this]; simp [b2i]
 ·have:=hx.1; simp only [Ln] at this; rw [this]; cases s <;> simp [b2i]
theorem Inv.leads (h : Inv g P) (hx : x = 0\/(Ln P.mem x = 2/\Gd g P.clock P.ts x)) (key : Int) : P.leadsFrom x key = Ld P.mem x (sd P.mem x key):=by
 unfold PSt.leadsFrom PMem.leadsTo;rw [h.hasLink hx (by rintro rfl; exact sd0 h.n.n0.2.1 key)]; rfl
theorem Wk.sn (h : Wk g M c ts key x) : x = 0\/(Ln M x = 2/\Gd g c ts x):=by
 rcases h with h | h
 ·exact .inl h
 ·exact .inr ⟨h.1,h.2.2⟩
theorem Inv.safeNext (h : Inv g P) (hx : x = 0\/(Ln P.mem x = 2/\Gd g P.clock P.ts x)) (hs : x = 0->s = false) {time : Int} (hS : Safe P.mem P.sweep i time x) : Safe P.mem P.sweep i time (Ld P.mem x s):=by
 obtain ⟨h1,h2,h3,h4⟩:=h.n.ph x s hx hs;refine ⟨h.usedGd (.inr h1),?_,?_⟩
 ·intro hr; have:=h3 hr; have:=hS.2.1 this.1; omega
 ·intro hm;rcases hS.2.2 hm with q | q
  ·exact .inl q
  ·exact .inr ⟨q.1,fun hh=>q.2 (h4 hh)⟩
theorem Inv.first (h : Inv g P) (h0 : Ln P.mem (Ld P.mem 0 false)≠2) : Ld P.mem 0 false = 1:=by
 rcases h.n.lk 0 false _ (Tr.ed_pl 0 false (g.V P.clock)) with e | ⟨j,u,hj,hx⟩
 ·rw [e] at h0 ⊢;have h1:=h.n.gt.one;have h2:=h.n.ag.n;cases hv : g.V P.clock with
  | lf p k v=>rw [hv] at h1; simp [Tr.Lea] at h1; simp [Tr.pl,h1]
  | nd p k l r =>
   rw [hv] at h0 h2;exact absurd (h2 p k (.inl ⟨rfl,rfl⟩)).2.1 h0
 ·obtain ⟨b,hk,hn,e1,e2⟩:=hx;have hT:=h.th j u hj;obtain ⟨q1,q2⟩:=hT.tt b (by omega) (by omega);rcases hk with hk | hk
  ·have hn : u.work.next = 10:=by
    rcases hn with hn | hn
    ·have:=hT.n9 b hn; omega
    ·exact hn
   obtain ⟨a,n,q⟩:=hT.f10 b hk hn;rw [if_neg (by omega)] at q1;have h3:=q.ls;have h4:=(hT.cs b (by omega) (by omega));rw [q1] at e1;rw [e1,sd0 h.n.n0.2.1] at h3;rw [h3]; exact h4.2.2.2 e1
  ·have:=hT.q8 b hk (by omega) (by omega)
   have h5:=(hT.q9 b hk (by omega)).1.ln;rw [if_pos hk] at q1;rw [q1] at e1;rw [e1,sd0 h.n.n0.2.1] at this;rw [this.2.1] at h0; exact absurd h5 h0
theorem Inv.walk (h : Inv g P) (ht : P.ts[i]? = some t) (hb : t.busy = true) (hn : t.work.next = 4) (hk : t.work.kind = 1\/t.work.kind = 2) : Inv g (P.setW i (P.walk t.work)):=by
 have hT:=h.th i t ht;obtain ⟨x1,x2⟩:=hT.xs hb hk (by omega) (by omega);have xz:=x1.sn;have hl0:=hT.l4 hb (.inl (by omega));have hfree:=hT.free (fun _=>by omega);have htm:=hT.tm hb (by omega);have hsl:=hT.sl;rw [hn] at hsl;simp [hb] at hsl;rw [setW_to P ht];have hs0 : t.work.stand = 0->sd P.mem t.work.stand t.work.key = false:=fun e=>by rw [e]; exact sd0 h.n.n0.2.1 _
 obtain ⟨p1,p2,p3,p4⟩:=h.n.ph _ _ xz hs0;have hSn:=h.safeNext xz hs0 x2;have hld:=h.leads xz t.work.key;have hp : P.isPassed (P.leadsFrom t.work.stand t.work.key) t.work.key = decide (Ln P.mem (Ld P.mem t.work.stand (sd P.mem t.work.stand t.work.key)) = 2):=by
  unfold PSt.isPassed;rw [if_pos h.kind,hld]
  rfl
 have hct : Calm t:=calm7 fun _=>by omega
 unfold PSt.walk;rw [hp,hld];by_cases hd : Ln P.mem (Ld P.mem t.work.stand (sd P.mem t.work.stand t.work.key)) = 2
 ·rw [if_pos (by simpa using hd)];have hR:=h.n.pr _ _ t.work.key xz (by rcases x1 with e | e; exact .inl e; exact .inr e.2.1) rfl hd;have hct' : Calm { t with work:={ t.work with above:=t.work.stand,stand:=Ld P.mem t.work.stand (sd P.mem t.work.stand t.work.key) } }:=calm7 fun _=>.inl (by show t.work.next<=7; omega)
  have hs:=Same.calm ht hct hct';refine h.calm ht hct hct' ?_;refine Th.low (fun _=>.inl (by show t.work.next<=4; omega)) hT.kd hT.nx (by show t.slot = if t.busy = true/\t.work.next≠1 then _ else _; rw [hn]; simpa [hb] using hsl) hT.tm hfree (fun _=>hl0) hT.ky hT.hi hT.lk hT.l3 hT.m7 ?_ ?_
  ·intro _ _ _;refine ⟨.inr ⟨hd,hR,(hs.gd _).2 p1⟩,hSn⟩
  ·intro _ _ _ _;refine ⟨?_,x2,p2 hd⟩;rcases x1 with e | e
   ·exact .inl e
   ·exact .inr ⟨e.1,e.2.1,(hs.gd _).2 e.2.2⟩
 ·rw [if_neg (by simpa using hd)];have hct' : Calm { t with work:={ t.work with ahead:=Ld P.mem t.work.stand (sd P.mem t.work.stand t.work.key),next:=5 } }:=calm7 fun _=>.inl (by show 5<=7; omega)
  have hs:=Same.calm ht hct hct';have wk : ∀ y,Wk g P.mem P.clock P.ts t.work.key y->Wk g P.mem P.clock (P.ts.set i { t with work:={ t.work with ahead:=Ld P.mem t.work.stand (sd P.mem t.work.stand t.work.key),next:=5 } }) t.work.key y:=by
   rintro y (e | e)
   ·exact .inl e
   ·exact .inr ⟨e.1,e.2.1,(hs.gd _).2 e.2.2⟩
  refine h.calm ht hct hct' ?_;refine Th.of7 (fun _=>.inl (by show 5<=7; omega)) hT.kd (fun _=>by show 1<=5/\5<=13; omega) (fun _ q=>by have : t.work.kind = 3\/t.work.kind = 4:=q; omega) (by simpa [hb] using hsl) (fun _ _=>htm) ?_ (fun _ _=>hl0) (fun _ _=>by show t.work.locks < _; rw [hl0]; exact (hl_len _ _).1) (fun _ q=>by have : 6<=5:=q; omega) hT.ky hT.hi (fun _ _ q=>by have : 5<=3:=q; omega) hT.l3 (fun _ _=>hT.m7 hb (by omega)) ?_ ?_ ?_ (fun _ q=>by have : 5 = 7:=q; omega) (fun _ q=>by have : 5 = 7:=q; omega)
  ·intro x hx;refine iff_of_false (hfree x hx) ?_;rintro ⟨_,hm⟩;have : t.work.locks = 0:=hl0;rw [this] at hm; simp at hm
  ·intro _ _ _ _; exact ⟨wk _ x1,x2⟩
  ·intro _ _ _ _ hz;obtain ⟨a1,a2,a3⟩:=hT.xa hb hk (by omega) (by omega) hz;exact ⟨wk _ a1,a2,a3⟩
  ·intro _ _ _;refine ⟨(hs.gd _).2 p1,hSn,?_,?_⟩
   ·rcases h.gdLn p1 with e | e
    ·exact e
    ·exact absurd e hd
   ·intro e;have e' : t.work.stand = 0:=e;show Ld P.mem t.work.stand (sd P.mem t.work.stand t.work.key) = 1;rw [e',sd0 h.n.n0.2.1] at hd ⊢;exact h.first hd
end
end T
end
section
namespace T
section
variable {g g' : Gh} {M M' : PMem} {c c' : Int} {r : PSweep} {i j : Nat} {t t' u : PThread} {ts ts' : List PThread} {P : PSt} {x : Int} {s : Bool} {key : Int}
theorem Inv.takes (P : PSt) (k : PWork) : P.takesOut k = decide (Mt P.mem k):=by
 have : P.takesOut k = true ↔ Mt P.mem k:=by unfold PSt.takesOut PSt.meetsKey; simp [Mt]
 rw [Bool.eq_iff_iff,this]; simp
theorem Inv.wanted (h : Inv g P) (k : PWork) : P.wanted k = hl P.mem k:=by
 unfold PSt.wanted hl;rw [Inv.takes,if_pos h.kind];by_cases hm : Mt P.mem k
 ·rw [if_pos hm,if_pos (by simpa using hm)]
 ·rw [if_neg hm,if_neg (by simpa using hm)]
def lockNext (M : PMem) (k : PWork) : Int:=(hl M k)[k.locks]?.getD 0
theorem Th.sap (h : Th g M c r ts i t) (h1 : Ky M 1 = 1099511627777) (hb : t.busy = true) (h5 : 5<=t.work.next) (h12 : t.work.next<=12) (hm : Mt M t.work) : t.work.above≠t.work.stand:=by
 intro e
 have:=(h.xa hb (h.upd hb h5 h12) (by omega) h12 (h.ns h1 hb h5 h12 hm)).2.2
 rw [e] at this; omega
theorem Inv.lockIs (h : Inv g P) (ht : P.ts[i]? = some t) (hb : t.busy = true) (hn : t.work.next = 5) : Us P.mem (lockNext P.mem t.work)/\Wk g P.mem P.clock P.ts t.work.key (lockNext P.mem t.work)/\Ho P.mem (lockNext P.mem t.work)≠i/\(∀ x,x ∈ (hl P.mem t.work).take (t.work.locks + 1) ↔ x ∈ (hl P.mem t.work).take t.work.locks\/x = lockNext P.mem t.work)/\(t.work.kind = 1\/t.work.kind = 2)/\t.work.locks < (hl P.mem t.work).length:=by
 have hT:=h.th i t ht;have hk:=hT.upd hb (by omega) (by omega);have hlt:=hT.l5 hb hn;have hln:=hl_len P.mem t.work;have h1:=h.n.one.1;obtain ⟨x1,x2⟩:=hT.xs hb hk (by omega) (by omega);have key : Us P.mem (lockNext P.mem t.work)/\Wk g P.mem P.clock P.ts t.work.key (lockNext P.mem t.work)/\¬ lockNext P.mem t.work ∈ (hl P.mem t.work).take t.work.locks:=by
  unfold lockNext hl at *;by_cases hm : Mt P.mem t.work
  ·rw [if_pos hm] at hlt ⊢;have hne:=hT.sap h1 hb (by omega) (by omega) hm;obtain ⟨y1,y2,y3⟩:=hT.xa hb hk (by omega) (by omega) (hT.ns h1 hb (by omega) (by omega) hm);rcases (show t.work.locks = 0\/t.work.locks = 1 by simp at hlt; omega) with e | e
   ·rw [e]; simp; exact ⟨y2.1,y1⟩
   ·rw [e]; simp; exact ⟨x2.1,x1,fun e=>hne e.symm⟩
  ·rw [if_neg hm] at hlt ⊢;have e : t.work.locks = 0:=by simp at hlt; omega
   rw [e]; simp; exact ⟨x2.1,x1⟩
 refine ⟨key.1,key.2.1,fun hh=>key.2.2 ((hT.hd _ key.1).1 hh).2,?_,hk,hlt⟩;intro x;rw [List.take_add_one];unfold lockNext;rw [List.getElem?_eq_getElem hlt];simp only [List.mem_append,Option.toList_some,List.mem_singleton,Option.getD_some]
theorem Safe.hold {time : Int} (hh : HoldEq M M') (hs : Safe M r i time x) : Safe M' r i time x:=by
 have q:=hh.to x;refine ⟨by simp only [Us]; rw [q.1]; exact hs.1,?_,hs.2.2⟩;simp only [Re,Ra]; rw [q.2.2.1,q.2.2.2.1]; exact hs.2.1
theorem Wk.hold (hh : HoldEq M M') (hs : Same ts ts') (h : Wk g M c ts key x) : Wk g M' c ts' key x:=by
 rcases h with e | e
 ·exact .inl e
 ·exact .inr ⟨by simp only [Ln]; rw [(hh.to x).2.2.2.2.2.2.1]; exact e.1,e.2.1,(hs.gd _).2 e.2.2⟩
theorem hl_hold (hh : HoldEq M M') (k : PWork) : hl M' k = hl M k:=hl_congr (hh.to _).2.2.2.2.1
theorem Inv.lock (h : Inv g P) (ht : P.ts[i]? = some t) (hb : t.busy = true) (hn : t.work.next = 5) :
  (Ho P.mem (lockNext P.mem t.work) = -1/\P.lock i t.work = ((P.setM (P.mem.modN (lockNext P.mem t.work) fun x=>{ x with holder:=i })).setW i { t.work with locks:=t.work.locks + 1,next:=if (hl P.mem t.work).length<=t.work.locks + 1 then 6 else 5 },1)/\Inv g (P.lock i t.work).1) \/
  (Ho P.mem (lockNext P.mem t.work)≠-1/\P.lock i t.work = (P,2)):=by
 have hT:=h.th i t ht;obtain ⟨l1,l2,l3,l4,hk,l6⟩:=h.lockIs ht hb hn;have hlk:=lock_eq (M:=P.mem) (t:=(i : Int)) l1;unfold PSt.lock;rw [h.wanted,if_pos l6,show (hl P.mem t.work)[t.work.locks]?.getD 0 = lockNext P.mem t.work from rfl];by_cases hf : Ho P.mem (lockNext P.mem t.work) = -1
 ·left;refine ⟨hf,?_⟩;rw [if_pos (Or.inl hf)] at hlk;rw [hlk,if_pos rfl];simp only;rw [hn];refine ⟨rfl,?_⟩;rw [setMW_to P ht];have hnd:=node_modN (hasN_used l1) (fun x=>{ x with holder:=(i : Int) });have hh : HoldEq P.mem (P.mem.modN (lockNext P.mem t.work) fun x=>{ x with holder:=(i : Int) }):=by
   intro x;rw [hnd];split
   ·next e=>subst e; exact ⟨_,rfl⟩
   ·exact ⟨(P.mem.node x).holder,rfl⟩
  have hw1 : Wm (P.mem.modN (lockNext P.mem t.work) fun x=>{ x with holder:=(i : Int) }):=h.wm.modN l1 _ l1;have hes:=modN_ents P.mem (lockNext P.mem t.work) (fun x=>{ x with holder:=(i : Int) });generalize (P.mem.modN (lockNext P.mem t.work) fun x=>{ x with holder:=(i : Int) }) = M1 at *;have hlen:=hl_len P.mem t.work;generalize hN : (if (hl P.mem t.work).length<=t.work.locks + 1 then 6 else 5) = nn;have hnn : (nn = 6/\(hl P.mem t.work).length = t.work.locks + 1)\/(nn = 5/\t.work.locks + 1 < (hl P.mem t.work).length):=by
   rw [<- hN]; split
   ·left; exact ⟨rfl,by omega⟩
   ·right; exact ⟨rfl,by omega⟩
  have hct : Calm t:=calm7 fun _=>by omega
  have hct' : Calm { t with work:={ t.work with locks:=t.work.locks + 1,next:=nn } }:=calm7 fun _=>.inl (by show nn<=7; omega)
  have hs:=Same.calm ht hct hct';have hhl : hl M1 { t.work with locks:=t.work.locks + 1,next:=nn } = hl P.mem t.work:=hl_hold hh t.work;obtain ⟨x1,x2⟩:=hT.xs hb hk (by omega) (by omega);obtain ⟨c1,c2,c3,c4⟩:=hT.cs hb (by omega) (by omega);refine h.hold (M':=M1) (t':={ t with work:={ t.work with locks:=t.work.locks + 1,next:=nn } }) ht hct hct' hw1 hes hh ?_ ?_
  ·intro x;rw [hnd];split
   ·next e=>subst e; exact .inr ⟨l2.sn,.inl hf,.inr (by show (M1.node _).holder = _; rw [hnd,if_pos rfl])⟩
   ·exact .inl rfl
  ·refine Th.of7 (fun _=>.inl (by show nn<=7; omega)) hT.kd (fun _=>by show 1<=nn/\nn<=13; omega) (fun _ hh=>by have : t.work.kind = 3\/t.work.kind = 4:=hh; omega) ?_ (fun b _=>hT.tm b (by omega)) ?_ (fun _ hh=>by have : nn<=4\/nn = 13:=hh; omega) ?_ ?_ hT.ky hT.hi (fun _ hh=>by have : t.work.kind = 4:=hh; omega) hT.l3 (fun b _=>hT.m7 b (by omega)) (fun _ _ _ _=>⟨x1.hold hh hs,x2.hold hh⟩) ?_ (fun _ _ _=>⟨(hs.gd _).2 c1,c2.hold hh,by show Ln M1 t.work.ahead = 0; simp only [Ln]; rw [(hh.to _).2.2.2.2.2.2.1]; exact c3,c4⟩) (fun _ q=>by have : nn = 7:=q; omega) (fun _ q=>by have : nn = 7:=q; omega)
   ·show t.slot = if t.busy = true/\nn≠1 then (if nn<=3 then 1 else 2) else 0
    rw [hT.sl,hn];have q1 : nn≠1:=by omega
    have q2 : ¬ nn<=3:=by omega
    simp [hb,q1,q2]
   ·intro x hx;show Ho M1 x = i ↔ t.busy = true/\x ∈ (hl M1 { t.work with locks:=t.work.locks + 1,next:=nn }).take (t.work.locks + 1);rw [hhl,l4 x];have hx' : Us P.mem x:=by show (P.mem.node x).used = true; rw [<- (hh.to x).1]; exact hx
    have hold:=hT.hd x hx';show (M1.node x).holder = i ↔ _;rw [hnd];by_cases e : x = lockNext P.mem t.work
    ·rw [if_pos e]; simp [hb,e]
    ·rw [if_neg e];show Ho P.mem x = i ↔ _;rw [hold]; simp [e]
   ·intro _ q;show t.work.locks + 1 < (hl M1 { t.work with locks:=t.work.locks + 1,next:=nn }).length;rw [hhl]; have : nn = 5:=q; omega
   ·intro _ q _;show t.work.locks + 1 = (hl M1 { t.work with locks:=t.work.locks + 1,next:=nn }).length;rw [hhl]; have : 6<=nn:=q; omega
   ·intro _ _ _ _ hz;obtain ⟨y1,y2,y3⟩:=hT.xa hb hk (by omega) (by omega) hz;exact ⟨y1.hold hh hs,y2.hold hh,y3⟩
 ·right;refine ⟨hf,?_⟩;rw [if_neg (by simp only [not_or]; exact ⟨hf,l3⟩)] at hlk;rw [hlk]; rfl
theorem unlock_hold (M : PMem) (i : Int) : HoldEq M (M.unlock i):=by
 intro x;rw [unlock_node];unfold unlocked;split
 ·exact ⟨_,rfl⟩
 ·exact ⟨(M.node x).holder,rfl⟩
theorem unlock_ho (M : PMem) (i x : Int) (hx : Us M x) : Ho (M.unlock i) x = if Ho M x = i then -1 else Ho M x:=by
 simp only [Ho];rw [unlock_node];unfold unlocked;simp only [Us] at hx;rw [hx];by_cases h : (M.node x).holder = i
 ·simp [h]
 ·simp [h]
theorem unlock_free (M : PMem) (i x : Int) (hi : i≠-1) (hx : Us (M.unlock i) x) : ¬ Ho (M.unlock i) x = i:=by
 have hx' : Us M x:=by have:=(unlock_hold M i).to x; simp only [Us] at hx ⊢; rw [<- this.1]; exact hx
 rw [unlock_ho M i x hx'];split <;> omega
theorem Inv.unlocked (h : Inv g P) (ht : P.ts[i]? = some t) (hct : Calm t) (hct' : Calm t') (hth : Th g (P.mem.unlock i) P.clock P.sweep (P.ts.set i t') i t') : Inv g { P with mem:=P.mem.unlock i,ts:=P.ts.set i t' }:=by
 refine h.hold ht hct hct' (h.wm.unlock i) rfl (unlock_hold _ _) ?_ hth;intro x;by_cases hu : Us P.mem x
 ·by_cases hh : Ho P.mem x = i
  ·right;refine ⟨h.heldGd ht hu hh,.inr hh,.inl ?_⟩;rw [unlock_ho _ _ _ hu,if_pos hh]
  ·left;rw [unlock_node];unfold Proofs.YtfccelbmacjifabGreat.unlocked;rw [if_neg];simp only [Ho] at hh;simp [hh]
 ·left;rw [unlock_node];unfold Proofs.YtfccelbmacjifabGreat.unlocked;rw [if_neg];simp only [Us] at hu;simp [hu]
end
end T
end
section
namespace T
section
variable {g g' : Gh} {M M' : PMem} {c c' : Int} {r : PSweep} {i j : Nat} {t t' u : PThread} {ts ts' : List PThread} {P : PSt} {x : Int} {s : Bool} {key : Int} {k : PWork}
structure Gro (g g' : Gh) (M M' : PMem) (c c' : Int) (ts ts' : List PThread) (i : Nat) : Prop where
 cc : c<=c'
 ga : ∀ x,Gd g c ts x->Gd g' c' ts' x
 gn : ∀ x,x = 0\/Gd g c ts x->Us M' x/\Ky M' x = Ky M x/\Ln M' x = Ln M x/\g'.B x = g.B x/\(∀ k,g.R x k->g'.R x k)/\(Re M' x->(Re M x/\Ra M' x = Ra M x)\/c<=Ra M' x)
 gc : ∀ x,Us M' x->(Ho M' x = i ↔ Us M x/\Ho M x = i)
theorem Gro.wk (f : Gro g g' M M' c c' ts ts' i) (h : Wk g M c ts key x) : Wk g' M' c' ts' key x:=by
 rcases h with e | ⟨w1,w2,w3⟩
 ·exact .inl e
 ·have:=f.gn x (.inr w3)
  exact .inr ⟨by rw [this.2.2.1]; exact w1,this.2.2.2.2.1 _ w2,f.ga x w3⟩
theorem Wk.z (h : Wk g M c ts key x) : x = 0\/Gd g c ts x:=by
 rcases h with e | ⟨_,_,e⟩
 ·exact .inl e
 ·exact .inr e
theorem Th.own (h : Th g M c r ts i t) (h1 : Ky M 1 = 1099511627777) (hb : t.busy = true) (h6 : 6<=t.work.next) (h12 : t.work.next<=12) (f : Gro g g' M M' c c' ts ts' i)
  (hk : k.kind = t.work.kind/\k.key = t.work.key/\k.spans = t.work.spans/\k.time = t.work.time/\k.stand = t.work.stand/\k.ahead = t.work.ahead/\k.above = t.work.above/\k.locks = t.work.locks/\k.links = t.work.links)
  (k6 : 6<=k.next) (k12 : k.next<=12) (m7 : k.next<=7->k.made = []) (n9 : k.next = 9->k.kind = 2)
  (c7 : 7<=k.next->k.next<=11->(Ky M' k.ahead = k.key ↔ k.kind = 2))
  (e7 : 7<=k.next->k.next<=8->A (g'.V c') k.stand (sd M' k.stand k.key) k.ahead/\Ld M' k.stand (sd M' k.stand k.key) = k.ahead/\(k.kind = 2->A (g'.V c') k.above (sd M' k.above k.key) k.stand/\Ld M' k.above (sd M' k.above k.key) = k.stand))
  (tt : 8<=k.next->k.next<=11->k.tsrc = (if k.kind = 2 then k.above else k.stand)/\k.tside = sd M' k.tsrc k.key)
  (f8 : k.kind = 1->k.next = 8->∃ a n,New g' M' c' k a n)
  (f10 : k.kind = 1->k.next = 10->∃ a n,Made g' M' c' k a n)
  (q8 : k.kind = 2->8<=k.next->k.next<=10->Pd M' k.above (sd M' k.above k.key) = [Ld M' k.stand (!sd M' k.stand k.key)]/\Ld M' k.above (sd M' k.above k.key) = k.stand/\k.made = [])
  (q9 : k.kind = 2->(k.next = 9\/k.next = 10\/k.next = 11\/(k.next = 12/\k.ans.did = true))->Outs g' M' c' k/\(k.next≠9->De M' k.stand/\De M' k.ahead))
  (p11 : k.next = 11->Pd M' k.tsrc k.tside = [Ld M' k.tsrc k.tside])
  (s9 : 9<=k.next->k.next<=11->k.ans.did = true/\k.time < k.ans.stamp/\0<=k.ans.stamp/\k.ans.stamp<=c'/\∀ s d,Sd M' k.tsrc k.tside s d->s < k.ans.stamp) :
  Th g' M' c' r ts' i { t with work:=k }:=by
 obtain ⟨k1,k2,k3,k4,k5,k7,k8,k9,k10⟩:=hk;have hup:=h.upd hb (by omega) h12;have hah : Ky M' t.work.ahead = Ky M t.work.ahead:=(f.gn _ (.inr (h.cs hb (by omega) h12).1)).2.1;have hhl : hl M' k = hl M t.work:=by
  have : Mt M' k ↔ Mt M t.work:=by unfold Mt; rw [k1,k2,k7,hah]
  unfold hl; simp only [this,k5,k8]
 have htm:=h.tm hb (by omega);constructor
 case kd=>intro _; show k.kind = 1\/_; rw [k1]; exact h.kd hb
 case nx=>intro _; show 1<=k.next/\k.next<=13; omega
 case rd=>intro _ q; have : k.kind = 3\/k.kind = 4:=q; omega
 case sl =>
  show t.slot = if t.busy = true/\k.next≠1 then (if k.next<=3 then 1 else 2) else 0
  have e1 : t.work.next≠1:=by omega
  have e2 : ¬ t.work.next<=3:=by omega
  have e3 : k.next≠1:=by omega
  have e4 : ¬ k.next<=3:=by omega
  rw [h.sl]; simp [hb,e1,e2,e3,e4]
 case tm=>intro _ _; show k.time<=c'/\(_->_\/_<=k.time); have:=f.cc; rw [k4]; exact ⟨by omega,htm.2⟩
 case hd =>
  intro x hx;show Ho M' x = i ↔ t.busy = true/\x ∈ (hl M' k).take k.locks;rw [f.gc x hx,hhl,k9];constructor
  ·rintro ⟨a1,a2⟩; exact (h.hd x a1).1 a2
  ·rintro ⟨a1,a2⟩;have hux : Us M x:=by
    rcases hl_mem a2 with rfl | ⟨hm,rfl⟩
    ·exact (h.xs hb hup (by omega) h12).2.1
    ·exact (h.xa hb hup (by omega) h12 (h.ns h1 hb (by omega) h12 hm)).2.1.1
   exact ⟨hux,(h.hd x hux).2 ⟨a1,a2⟩⟩
 case l4=>intro _ q; have : k.next<=4\/k.next = 13:=q; omega
 case l5=>intro _ q; have : k.next = 5:=q; omega
 case l6=>intro _ _ _; show k.locks = (hl M' k).length; rw [hhl,k9]; exact h.l6 hb h6 h12
 case ky=>intro _ q; show 0<=k.key/\k.key<=_; rw [k2]; exact h.ky hb (by rw [<- k1]; exact q)
 case hi=>intro _ q; have : k.kind = 4:=q; omega
 case lk=>intro _ q; have : k.kind = 4:=q; omega
 case l3=>intro _ q; show k.links = []; rw [k10]; exact h.l3 hb (by rw [<- k1]; exact q)
 case m7=>exact fun _=>m7
 case xs =>
  intro _ _ _ _;obtain ⟨q1,q2⟩:=h.xs hb hup (by omega) h12
  have:=f.gn _ q1.z
  show Wk g' M' c' ts' k.key k.stand/\Safe M' r i k.time k.stand;rw [k2,k4,k5];exact ⟨f.wk q1,q2.rely htm.1 this.1 this.2.2.2.2.2⟩
 case xa =>
  intro _ _ _ _ hs;have hs' : t.work.stand≠0:=by rw [<- k5]; exact hs
  obtain ⟨q1,q2,q3⟩:=h.xa hb hup (by omega) h12 hs';have e1:=f.gn _ q1.z;have e2:=f.gn _ (h.xs hb hup (by omega) h12).1.z;show Wk g' M' c' ts' k.key k.above/\Safe M' r i k.time k.above/\g'.B k.above < g'.B k.stand;rw [k2,k4,k5,k8];exact ⟨f.wk q1,q2.rely htm.1 e1.1 e1.2.2.2.2.2,by rw [e1.2.2.2.1,e2.2.2.2.1]; exact q3⟩
 case cs =>
  intro _ _ _;obtain ⟨q1,q2,q3,q4⟩:=h.cs hb (by omega) h12;have e1:=f.gn _ (.inr q1);show Gd g' c' ts' k.ahead/\Safe M' r i k.time k.ahead/\Ln M' k.ahead = 0/\(k.stand = 0->k.ahead = 1);rw [k4,k5,k7];exact ⟨f.ga _ q1,q2.rely htm.1 e1.1 e1.2.2.2.2.2,by rw [e1.2.2.1]; exact q3,q4⟩
 case n9=>exact fun _=>n9
 case c7=>exact fun _=>c7
 case e7=>exact fun _=>e7
 case tt=>exact fun _=>tt
 case f8=>exact fun _=>f8
 case f10=>exact fun _=>f10
 case q8=>exact fun _=>q8
 case q9=>exact fun _=>q9
 case p11=>exact fun _=>p11
 case s9=>exact fun _=>s9
theorem Inv.groSame (h : Inv g P) (hs : Same P.ts ts') (i : Nat) : Gro g g P.mem P.mem P.clock P.clock P.ts ts' i :=
 ⟨Int.le_refl _,fun x hx=>(hs.gd x).2 hx,fun _ hx=>⟨h.usedGd hx,rfl,rfl,rfl,fun _ q=>q,fun q=>.inl ⟨q,rfl⟩⟩,fun _ hu=>⟨fun h=>⟨hu,h⟩,fun h=>h.2⟩⟩
theorem Inv.settle (h : Inv g P) (ht : P.ts[i]? = some t) (hb : t.busy = true) (hn : t.work.next = 6\/t.work.next = 7) {a : BAns} (hd : a.did = false) : Inv g (P.setW i (t.work.settle a)):=by
 have hT:=h.th i t ht;rw [setW_to P ht];have h12 : (t.work.settle a).next = 12:=rfl
 have hct : Calm t:=calm7 fun _=>by omega
 have hct' : Calm { t with work:=t.work.settle a }:=fun _ _=>.inr (.inr ⟨h12,by rintro ⟨_,h2⟩; have : a.did = true:=h2; rw [hd] at this; cases this⟩)
 refine h.calm ht hct hct' ?_;refine hT.own h.n.one.1 hb (by omega) (by omega) (h.groSame (Same.calm ht hct hct') i) ⟨rfl,rfl,rfl,rfl,rfl,rfl,rfl,rfl,rfl⟩ (by rw [h12]; omega) (by rw [h12]; omega) ?_ ?_ ?_ ?_ ?_ ?_ ?_ ?_ ?_ ?_ ?_
 all_goals (rw [h12])
 ·omega
 ·omega
 ·omega
 ·omega
 ·omega
 ·intros; omega
 ·intros; omega
 ·intros; omega
 ·rintro _ (h2 | h2 | h2 | h2)
  ·omega
  ·omega
  ·omega
  ·have : a.did = true:=h2.2; rw [hd] at this; cases this
 ·omega
 ·omega
theorem Inv.outd (h : Inv g P) (ht : P.ts[i]? = some t) (hb : t.busy = true) (h5 : 5<=t.work.next) (h12 : t.work.next<=12) : P.outdated t.work = true ↔ ¬ ((P.mem.node t.work.stand).dead = false/\Ld P.mem t.work.stand (sd P.mem t.work.stand t.work.key) = t.work.ahead/\(Mt P.mem t.work->(P.mem.node t.work.above).dead = false/\Ld P.mem t.work.above (sd P.mem t.work.above t.work.key) = t.work.stand)):=by
 have hT:=h.th i t ht;have hk:=hT.upd hb h5 h12;have l1:=h.leads (hT.xs hb hk (by omega) h12).1.sn t.work.key;unfold PSt.outdated PSt.asFound;rw [l1,if_neg (show ¬ P.kind = 0 by rw [h.kind]; decide),Inv.takes];by_cases hm : Mt P.mem t.work
 ·have l2:=h.leads (hT.xa hb hk (by omega) h12 (hT.ns h.n.one.1 hb h5 h12 hm)).1.sn t.work.key;rw [l2];simp only [hm,decide_true,Bool.true_and,forall_const];cases (P.mem.node t.work.stand).dead <;> cases (P.mem.node t.work.above).dead <;> simp <;> grind
 ·simp only [hm,decide_false,Bool.false_and,false_implies,and_true];cases (P.mem.node t.work.stand).dead <;> simp
theorem Inv.inTree (h : Inv g P) (ht : P.ts[i]? = some t) (hx : Us P.mem x) (hh : Ho P.mem x = i) (h8 : t.work.next<=8) (hd : (P.mem.node x).dead = false) : x = 0\/((g.V P.clock).Inn x/\∀ k,g.R x k->(g.V P.clock).Pth k x):=by
 rcases h.heldGd ht hx hh with e | ⟨e1,e2⟩
 ·exact .inl e
 ·right;rcases e2.1 with hO | hH
  ·exfalso;rcases h.n.ot x hO with q | ⟨j,u,hj,b,hk,hn,hu⟩
   ·simp only [De] at q; rw [hd] at q; cases q
   ·have hTj:=h.th j u hj;rcases hu with rfl | rfl
    ·have:=(hTj.hStand b (by omega) (by omega)).2
     have hij : i = j:=by rw [hh] at this; omega
     subst hij;rw [ht] at hj; injection hj with hj; subst hj
     omega
    ·have:=(hTj.cs b (by omega) (by omega)).2.2.1; omega
  ·rcases Tr.has_or hH with ⟨q,hq⟩ | ⟨q,w,hq⟩
   ·have hi:=Tr.nod_inn hq;exact ⟨hi,fun k hk=>(h.n.rg x k hi).1 hk⟩
   ·have:=(h.n.ag.l x q w hq).2.1; omega
theorem Inv.edge (h : Inv g P) (ht : P.ts[i]? = some t) (hx : Us P.mem x) (hh : Ho P.mem x = i) (h8 : t.work.next<=8) (hi : x = 0/\s = false\/(g.V P.clock).Inn x) : A (g.V P.clock) x s (Ld P.mem x s):=by
 obtain ⟨d,hd⟩ : ∃ d,A (g.V P.clock) x s d:=by
  rcases hi with ⟨rfl,rfl⟩ | hi
  ·exact ⟨_,Tr.ed_pl 0 false _⟩
  ·exact Tr.inn_ed 0 false s hi
 rcases h.n.lk x s d hd with e | ⟨j,u,hj,b,hk,hn,e1,e2⟩
 ·rw [e]; exact hd
 ·exfalso;have hTj:=h.th j u hj;have q:=(hTj.tt b (by omega) (by omega)).1;have : Ho P.mem x = j:=by
   rw [<- e1,q];split
   ·next hk2=>exact (hTj.hAbove h.n.one.1 b (by omega) (by omega) ⟨hk2,(hTj.c7 b (by omega) (by omega)).2 hk2⟩).2
   ·exact (hTj.hStand b (by omega) (by omega)).2
  have hij : i = j:=by rw [hh] at this; omega
  subst hij;rw [ht] at hj; injection hj with hj; subst hj
  omega
theorem Inv.check (h : Inv g P) (ht : P.ts[i]? = some t) (hb : t.busy = true) (hn : t.work.next = 6) : Inv g (P.check i t.work):=by
 have hT:=h.th i t ht;have hk:=hT.upd hb (by omega) (by omega);have htm:=hT.tm hb (by omega);have hsl:=hT.sl;rw [hn] at hsl;simp [hb] at hsl;have hout:=h.outd ht hb (by omega) (by omega);unfold PSt.check;by_cases ho : P.outdated t.work = true
 ·rw [if_pos ho,setMW_to P ht];refine h.unlocked ht (calm7 fun _=>by omega) (calm7 fun _=>.inl (by show 4<=7; omega)) ?_;refine Th.low (fun _=>.inl (by show 4<=4; omega)) hT.kd (fun _=>by show 1<=4/\4<=13; omega) (by simpa [hb,PWork.home] using hsl) (fun _ _=>htm) (fun x hx=>unlock_free _ _ _ (by omega) hx) (fun _=>rfl) hT.ky hT.hi (fun _ _ q=>by have : 4<=3:=q; omega) hT.l3 (fun _ _=>hT.m7 hb (by omega)) (fun _ _ _=>⟨.inl rfl,(h.safe0 htm.2 (.inl rfl)).hold (unlock_hold _ _)⟩) (fun _ _ _ q=>absurd rfl q)
 ·rw [if_neg ho];have hfi:=Classical.not_not.1 (fun hh=>ho (hout.2 hh));obtain ⟨f1,f2,f3⟩:=hfi;have hmk : P.meetsKey t.work = decide (Ky P.mem t.work.ahead = t.work.key):=by unfold PSt.meetsKey; rw [Bool.eq_iff_iff]; simp
  rw [hmk];by_cases hm : (decide (Ky P.mem t.work.ahead = t.work.key) == (t.work.kind == 1)) = true
  ·rw [if_pos hm];exact h.settle ht hb (.inl hn) rfl
  ·rw [if_neg hm];have hm' : Ky P.mem t.work.ahead = t.work.key ↔ t.work.kind = 2:=by
    rcases hk with e | e <;> rw [e] at hm ⊢ <;> by_cases q : Ky P.mem t.work.ahead = t.work.key <;> simp [q] at hm ⊢
   have hS:=hT.hStand hb (by omega) (by omega);have x0:=h.inTree ht hS.1 hS.2 (by omega) f1;have s0 : t.work.stand = 0->sd P.mem t.work.stand t.work.key = false:=fun e=>by rw [e]; exact sd0 h.n.n0.2.1 _
   have ed1:=h.edge (s:=sd P.mem t.work.stand t.work.key) ht hS.1 hS.2 (by omega) (by rcases x0 with e | e; exact .inl ⟨e,s0 e⟩; exact .inr e.1);rw [f2] at ed1;rw [setW_to P ht];have hct : Calm t:=calm7 fun _=>by omega
   have hct' : Calm { t with work:={ t.work with next:=7 } }:=calm7 fun _=>.inl (by show 7<=7; omega)
   refine h.calm ht hct hct' ?_;refine hT.own (k:={ t.work with next:=7 }) h.n.one.1 hb (by omega) (by omega) (h.groSame (Same.calm ht hct hct') i) ⟨rfl,rfl,rfl,rfl,rfl,rfl,rfl,rfl,rfl⟩ (by show 6<=7; omega) (by show 7<=12; omega) (fun _=>hT.m7 hb (by omega)) (fun q=>by have : 7 = 9:=q; omega) (fun _ _=>hm') ?_ (fun q=>by have : 8<=7:=q; omega) (fun _ q=>by have : 7 = 8:=q; omega) (fun _ q=>by have : 7 = 10:=q; omega) (fun _ q=>by have : 8<=7:=q; omega) (fun _ q=>by have : 7 = 9\/7 = 10\/7 = 11\/(7 = 12/\_):=q; omega) (fun q=>by have : 7 = 11:=q; omega) (fun q=>by have : 9<=7:=q; omega);intro _ _;refine ⟨ed1,f2,?_⟩;intro k2;have hM : Mt P.mem t.work:=⟨k2,hm'.2 k2⟩;obtain ⟨f4,f5⟩:=f3 hM;have hA:=hT.hAbove h.n.one.1 hb (by omega) (by omega) hM;have a0:=h.inTree ht hA.1 hA.2 (by omega) f4;have sa : t.work.above = 0->sd P.mem t.work.above t.work.key = false:=fun e=>by rw [e]; exact sd0 h.n.n0.2.1 _
   have ed2:=h.edge (s:=sd P.mem t.work.above t.work.key) ht hA.1 hA.2 (by omega) (by rcases a0 with e | e; exact .inl ⟨e,sa e⟩; exact .inr e.1);rw [f5] at ed2;exact ⟨ed2,f5⟩
theorem Inv.unlock0 (h : Inv g P) (ht : P.ts[i]? = some t) (hb : t.busy = true) (hn : t.work.next = 12) (hno : ¬ (t.work.kind = 2/\t.work.ans.did = true)) : Inv g { P with mem:=P.mem.unlock i,ts:=P.ts.set i { t with work:={ t.work with locks:=0,next:=13 } } }:=by
 have hT:=h.th i t ht;have hsl:=hT.sl;rw [hn] at hsl;simp [hb] at hsl;have hk:=hT.upd hb (by omega) (by omega);refine h.unlocked ht (fun _ _=>.inr (.inr ⟨hn,hno⟩)) (calm7 fun _=>.inr rfl) ?_;exact Th.low (fun _=>.inr rfl) hT.kd (fun _=>by show 1<=13/\13<=13; omega) (by simpa [hb] using hsl) (fun b _=>hT.tm b (by omega)) (fun x hx=>unlock_free _ _ _ (by omega) hx) (fun _=>rfl) hT.ky hT.hi (fun _ _ q=>by have : 13<=3:=q; omega) hT.l3 (fun _ q=>by have : 13<=7:=q; omega) (fun _ _ q=>by have : 13 = 4:=q; omega) (fun _ _ q=>by have : 13 = 4:=q; omega)
end
end T
end
section
namespace T
section
variable {g g' : Gh} {M M' : PMem} {c c' : Int} {r : PSweep} {i j : Nat} {t t' u : PThread} {ts ts' : List PThread} {P : PSt} {x : Int} {s : Bool} {key : Int} {k : PWork}
theorem Inv.build (h : Inv g P) (ht : P.ts[i]? = some t) (f : ∀ j u,j≠i->P.ts[j]? = some u->Rel g g' P.mem M' P.clock c' P.ts (P.ts.set i t') j u) (hw : Wm M') (hn : InvN g' M' c' P.sweep (P.ts.set i t')) (he : InvE M' c' (P.ts.set i t')) (ho : InvO M' c' P.sweep (P.ts.set i t')) (hth : Th g' M' c' P.sweep (P.ts.set i t') i t') : Inv g' { P with mem:=M',clock:=c',ts:=P.ts.set i t' }:=by
 have hi:=(List.getElem?_eq_some_iff.1 ht).1;refine ⟨h.kind,hw,hn,he,ho,?_⟩;intro j u hj;rw [List.getElem?_set] at hj;by_cases ej : i = j
 ·subst ej; simp [hi] at hj; subst hj; exact hth
 ·rw [if_neg ej] at hj;exact (h.th j u hj).rely h.n.one.1 (f j u (fun e=>ej e.symm) hj)
structure Mine (g : Gh) (P : PSt) (i : Nat) (t : PThread) : Prop where
 kd : t.work.kind = 1\/t.work.kind = 2
 us : Us P.mem t.work.stand
 hs : Ho P.mem t.work.stand = i
 ah : Gd g P.clock P.ts t.work.ahead
 al : Ln P.mem t.work.ahead = 0
 a0 : t.work.ahead≠0
 mt : t.work.kind = 2->t.work.next<=11\/t.work.ans.did = true->Mt P.mem t.work
 ab : Mt P.mem t.work->Us P.mem t.work.above/\Ho P.mem t.work.above = i/\t.work.stand≠0/\t.work.above≠t.work.stand/\Ln P.mem t.work.stand = 2
 ts : t.work.next<=11->8<=t.work.next->Us P.mem t.work.tsrc/\Ho P.mem t.work.tsrc = i/\t.work.tsrc≠t.work.ahead/\t.work.tside = sd P.mem t.work.tsrc t.work.key/\(t.work.kind = 1->t.work.tsrc = t.work.stand)/\(t.work.kind = 2->t.work.tsrc = t.work.above)
theorem Inv.mine (h : Inv g P) (ht : P.ts[i]? = some t) (hb : t.busy = true) (h7 : 7<=t.work.next) (h12 : t.work.next<=12) : Mine g P i t:=by
 have hT:=h.th i t ht;have hk:=hT.upd hb (by omega) h12;have h1:=h.n.one.1;obtain ⟨c1,c2,c3,c4⟩:=hT.cs hb (by omega) h12;have a0 : t.work.ahead≠0:=fun e=>h.gd0 (e ▸ c1)
 have hS:=hT.hStand hb (by omega) h12;have mt : t.work.kind = 2->t.work.next<=11\/t.work.ans.did = true->Mt P.mem t.work:=by
  intro k2 hn;by_cases h11 : t.work.next<=11
  ·exact ⟨k2,(hT.c7 hb h7 h11).2 k2⟩
  ·exact ⟨k2,(hT.q9 hb k2 (.inr (.inr (.inr ⟨by omega,by rcases hn with q | q; omega; exact q⟩)))).1.ky⟩
 have hh : ∀ x,Us P.mem x->Ho P.mem x = i->x≠t.work.ahead:=by
  intro x hu hx e;rcases h.heldGd ht hu hx with q | q
  ·exact a0 (e.symm.trans q)
  ·rw [e,c3] at q; omega
 refine ⟨hk,hS.1,hS.2,c1,c3,a0,mt,?_,?_⟩
 ·intro hm;have hA:=hT.hAbove h1 hb (by omega) h12 hm;have hz:=hT.ns h1 hb (by omega) h12 hm;refine ⟨hA.1,hA.2,hz,hT.sap h1 hb (by omega) h12 hm,?_⟩;rcases (hT.xs hb hk (by omega) h12).1 with e | e
  ·exact absurd e hz
  ·exact e.1
 ·intro h11 h8;obtain ⟨q1,q2⟩:=hT.tt hb h8 h11;by_cases k2 : t.work.kind = 2
  ·rw [if_pos k2] at q1;have hA:=hT.hAbove h1 hb (by omega) h12 (mt k2 (.inl h11));rw [q1];exact ⟨hA.1,hA.2,hh _ hA.1 hA.2,by rw [<- q1]; exact q2,by omega,fun _=>rfl⟩
  ·rw [if_neg k2] at q1;rw [q1];exact ⟨hS.1,hS.2,hh _ hS.1 hS.2,by rw [<- q1]; exact q2,fun _=>rfl,by omega⟩
theorem Inv.notOther (h : Inv g P) (_ht : P.ts[i]? = some t) (hj : P.ts[j]? = some u) (hne : j≠i) (hx : Us P.mem x/\Ho P.mem x = i) : ¬ ((Us P.mem x/\Ho P.mem x = j)\/Fr x u):=by
 rintro (q | q)
 ·rw [hx.2] at q; omega
 ·have:=(h.freshUs hj q).2.2
  rw [hx.2] at this; omega
theorem Inv.leafNot (h : Inv g P) (hj : P.ts[j]? = some u) (hx : Gd g P.clock P.ts x) (hl : Ln P.mem x = 0) : ¬ ((Us P.mem x/\Ho P.mem x = j)\/Fr x u):=by
 rintro (q | q)
 ·rcases h.heldGd hj q.1 q.2 with e | e
  ·exact h.gd0 (e ▸ hx)
  ·omega
 ·exact hx.2 ⟨j,u,hj,q⟩
theorem Inv.freshNot (h : Inv g P) (ht : P.ts[i]? = some t) (hj : P.ts[j]? = some u) (hne : j≠i) (hx : Fr x t) : ¬ ((Us P.mem x/\Ho P.mem x = j)\/Fr x u):=by
 rintro (q | q)
 ·have:=(h.freshUs ht hx).2.2
  rw [q.2] at this; omega
 ·exact hne (h.o.pw j i u t x hj ht q hx)
theorem Inv.pairNot (h : Inv g P) (ht : P.ts[i]? = some t) (hj : P.ts[j]? = some u) {y z : Int} (hp : Pair y z u) : ¬ (Us P.mem z/\Ho P.mem z = i)/\¬ Fr z t/\Gd g P.clock P.ts z/\Ln P.mem z = 0/\g.O z/\Us P.mem z:=by
 obtain ⟨b,hk,hn,e1,e2⟩:=hp;have hT:=h.th j u hj;obtain ⟨c1,c2,c3,c4⟩:=hT.cs b (by omega) (by omega);rw [e2] at c1 c2 c3;have ho:=(hT.q9 b hk hn).1.o.2;rw [e2] at ho;refine ⟨?_,?_,c1,c3,ho,c2.1⟩
 ·rintro ⟨h1,h2⟩;rcases h.heldGd ht h1 h2 with e | e
  ·exact h.gd0 (e ▸ c1)
  ·omega
 ·intro hf; exact c1.2 ⟨i,t,ht,hf⟩
theorem Inv.rel (h : Inv g P) (hj : P.ts[j]? = some u) (hfr : ∀ x,Ex ts' (Fr x)->Ex P.ts (Fr x)\/¬ Us P.mem x)
  (gn : ∀ x,x = 0\/Gd g P.clock P.ts x->Us M' x/\Ky M' x = Ky P.mem x/\Ln M' x = Ln P.mem x/\(Re M' x->(Re P.mem x/\Ra M' x = Ra P.mem x)\/P.clock<=Ra M' x))
  (gb : ∀ x,(Us P.mem x/\Ho P.mem x = j)\/Fr x u->M'.node x = P.mem.node x/\(∀ s,Pd M' x s = Pd P.mem x s)/\(∀ s st d,Sd M' x s st d->Sd P.mem x s st d))
  (gp : ∀ x y,Pair x y u->M'.node y = P.mem.node y)
  (gc : ∀ x,Us M' x->(Ho M' x = j ↔ Us P.mem x/\Ho P.mem x = j)) : Rel g g P.mem M' P.clock P.clock P.ts ts' j u:=by
 refine ⟨Int.le_refl _,?_,?_,fun _ h=>h,?_,?_,gp,gc,h.n.gt.z⟩
 ·intro x hx;refine ⟨hx.1,fun hh=>?_⟩;rcases hfr x hh with q | q
  ·exact hx.2 q
  ·exact q (h.usedGd (.inr hx))
 ·intro x hx;obtain ⟨a1,a2,a3,a4⟩:=gn x hx;exact ⟨a1,a2,a3,rfl,fun _ h=>h,a4⟩
 ·intro x hx;obtain ⟨a1,a2,a3⟩:=gb x hx;exact ⟨a1,a2,a3,fun _ _ h=>h,rfl⟩
 ·rintro x ⟨b,hk,hn,hm⟩;obtain ⟨a,n,q⟩:=(h.th j u hj).f8 b hk hn;rw [q.md] at hm
  have:=q.h
  simp at hm; grind
theorem InvO.keep (h : InvO M c r ts) (ht : ts[i]? = some t) (hc : c<=c') (h1 : ∀ x,Fr x t'->Fr x t\/∀ (j : Nat) u,ts[j]? = some u->¬ Fr x u) (h2 : ∀ x y,Pair x y t'->Pair x y t\/∀ (j : Nat) u x',ts[j]? = some u->¬ Pair x' y u)
  (hu : ∀ x,Us M' x->Ho M' x = -1\/(Us M x/\Ho M' x = Ho M x)) (hr : ∀ x,InSw r x->Re M x->Re M' x/\Ra M' x = Ra M x) : InvO M' c' r (ts.set i t'):=by
 have hi:=(List.getElem?_eq_some_iff.1 ht).1;obtain ⟨ho,pw,pq,sw,sc,sm,sz⟩:=h;refine ⟨?_,?_,?_,?_,by omega,by simpa using sm,sz⟩
 ·intro x hx;rcases hu x hx with q | ⟨q1,q2⟩
  ·exact .inl q
  ·rw [q2,List.length_set]; exact ho x q1
 ·intro a b u v x ha hb hu hv;rw [List.getElem?_set] at ha hb
  have:=h1 x
  grind
 ·intro a b u v x x' y ha hb hu hv;rw [List.getElem?_set] at ha hb
  have:=h2 x y
  have:=h2 x' y
  grind
 ·intro x hx
  have:=sw x hx
  have:=hr x hx this.1
  grind
end
end T
end
end Go.Proofs.YtfccelbmacjifabGreat
