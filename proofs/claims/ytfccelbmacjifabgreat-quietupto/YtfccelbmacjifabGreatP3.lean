import Derived.Test.YtfccelbmacjifabGreatP0
import Derived.Test.YtfccelbmacjifabGreatP2
set_option linter.unusedSimpArgs false
set_option maxRecDepth 100000
set_option maxHeartbeats 4000000
namespace Go.Proofs.YtfccelbmacjifabGreat
section
section
variable {C C' : Int->Prop} {M M' : PMem} {c c' : Int} {r : PSweep} {i j : Nat} {t t' : PThread} {ts : List PThread} {P : PSt} {x : Int} {k : PWork}
theorem Th.own (h : Th C M c r i t) (hb : t.busy = true) (h6 : 6<=t.work.next) (h12 : t.work.next<=12) (hcc : c<=c')
  (ha : ∀ x,x = 1\/Gd M C x->Us M' x/\Ky M' x = Ky M x/\(Gd M C x->Gd M' C' x)/\(Re M' x->(Re M x/\Ra M' x = Ra M x)\/c<=Ra M' x))
  (hc : ∀ x,Us M' x->(Ho M' x = i ↔ Us M x/\Ho M x = i))
  (e : k.kind = t.work.kind/\k.key = t.work.key/\k.stand = t.work.stand/\k.ahead = t.work.ahead/\k.time = t.work.time/\k.locks = t.work.locks/\k.links = t.work.links) (n6 : 6<=k.next) (n12 : k.next<=12)
  (m7 : k.next<=7->k.made = [])
  (c7 : 7<=k.next->k.next<=11->C' k.stand/\(M'.node k.stand).dead = false/\(Ky M' k.ahead = k.key ↔ k.kind = 2))
  (c10 : 7<=k.next->k.next<=10->Ld M' k.stand = k.ahead)
  (d9 : k.kind = 2->7<=k.next->k.next<=9->(M'.node k.ahead).dead = false)
  (d10 : k.kind = 2->k.next = 10->De M' k.ahead)
  (n9 : k.next = 9->k.kind = 2)
  (ot : k.kind = 2->(k.next = 11\/(k.next = 12/\k.ans.did = true))->C' k.stand/\Ld M' k.stand = Ld M' k.ahead/\De M' k.ahead/\¬ C' k.ahead/\(M'.node k.ahead).retired = false/\Ky M' k.ahead = k.key)
  (ts : 8<=k.next->k.next<=11->k.tsrc = k.stand/\k.tside = false)
  (f8 : k.kind = 1->(k.next = 8\/k.next = 10)->∃ n,k.made = [n]/\n≠0/\n≠1/\Us M' n/\¬ C' n/\(M'.node n).dead = false/\Ky M' n = k.key/\(M'.node n).links = 1/\Ld M' n = k.ahead/\Pd M' k.stand = [n]/\(k.next = 8->Pd M' n = [k.ahead]/\∀ s d,¬ Sd M' n s d))
  (p2 : k.kind = 2->8<=k.next->k.next<=10->Pd M' k.stand = [Ld M' k.ahead]/\k.made = [])
  (p11 : k.next = 11->Pd M' k.stand = [Ld M' k.stand])
  (s9 : 9<=k.next->k.next<=11->k.ans.did = true/\k.time < k.ans.stamp/\(0<=k.ans.stamp/\k.ans.stamp<=c')/\∀ s d,Sd M' k.stand s d->s < k.ans.stamp) : Th C' M' c' r i { t with work:=k }:=by
 obtain ⟨e1,e2,e3,e4,e5,e6,e7⟩:=e;have hkd:=h.kd hb;have hrd:=h.rd hb;have htm:=h.tm hb (by omega);have hk12 : k.kind = 1\/k.kind = 2:=by
  rcases hkd with q | q | q
  ·exact .inl (e1.trans q)
  ·exact .inr (e1.trans q)
  ·have:=hrd q; omega
 have hwl : wl M' k = wl M t.work:=by
  have:=(ha _ (h.cs hb (by omega) h12).1).2.1
  unfold wl; rw [e1,e2,e4,this]
 refine ⟨fun _=>by show k.kind = 1\/k.kind = 2\/k.kind = 3\/k.kind = 4; omega,fun _=>by show 1<=k.next/\k.next<=13; omega,fun _ hh=>by have : k.kind = 3\/k.kind = 4:=hh; omega,?_,?_,?_,?_,?_,?_,?_,?_,?_,?_,?_,?_,fun _=>m7,fun _=>c7,fun _=>c10,fun _=>d9,fun _=>d10,fun _=>n9,?_,fun _=>ts,fun _=>f8,fun _=>p2,fun _=>p11,fun _=>s9,fun _ h4=>by show k.links = []; rw [e7]; exact h.l3 hb (by rw [<- e1]; exact h4)⟩
 ·show t.slot = if t.busy = true/\k.next≠1 then (if k.next<=3 then 1 else 2) else 0
  rw [h.sl];have q1 : t.work.next≠1:=by omega
  have q2 : ¬ t.work.next<=3:=by omega
  have q3 : k.next≠1:=by omega
  have q4 : ¬ k.next<=3:=by omega
  simp [hb,q1,q2,q3,q4]
 ·intro _ _;show k.time<=c'/\(_->_\/_<=k.time);rw [e5]; exact ⟨by omega,htm.2⟩
 ·intro x hu;show Ho M' x = i ↔ t.busy = true/\x ∈ [k.stand,k.ahead].take k.locks;rw [e3,e4,e6,hc x hu];constructor
  ·rintro ⟨h1,h2⟩; exact (h.hd x h1).1 h2
  ·rintro ⟨h1,h2⟩
   have:=(h.heldUs h1 h2).1
   exact ⟨this,(h.hd x this).2 ⟨h1,h2⟩⟩
 ·intro _ hh; have : k.next<=4\/k.next = 13:=hh; omega
 ·intro _ hh; have : k.next = 5:=hh; omega
 ·intro _ _ _;show k.locks = wl M' k;rw [hwl,e6]; exact h.l6 hb h6 h12
 ·intro _ _;show 0<=k.key/\k.key<=_;rw [e2]; exact h.ky hb (by omega)
 ·intro _ hh; have : k.kind = 4:=hh; omega
 ·intro _ hh; have : k.kind = 4:=hh; omega
 ·intro _ _ _ _;show Gd M' C' k.stand/\Safe M' r i k.time k.stand/\(k.stand = 0\/Ky M' k.stand < k.key);rw [e2,e3,e5];obtain ⟨h1,h2,h3⟩:=h.xs hb (by omega) (by omega) h12;obtain ⟨g1,g2,g3,g4⟩:=ha _ (.inr h1);exact ⟨g3 h1,h2.rely htm.1 g1 g4,by rw [g2]; exact h3⟩
 ·intro _ hh; have : k.kind = 4:=hh; omega
 ·intro _ _ _;show (k.ahead = 1\/Gd M' C' k.ahead)/\Safe M' r i k.time k.ahead/\k.ahead≠0/\k.key<=Ky M' k.ahead;rw [e2,e4,e5];obtain ⟨h1,h2,h3,h4⟩:=h.cs hb (by omega) h12;obtain ⟨g1,g2,g3,g4⟩:=ha _ h1;exact ⟨h1.imp id g3,h2.rely htm.1 g1 g4,h3,by rw [g2]; exact h4⟩
 ·rintro ⟨_,hk,hn,_⟩;exact ot hk hn
theorem Inv.haSame (h : Inv C P) : ∀ x,x = 1\/Gd P.mem C x->Us P.mem x/\Ky P.mem x = Ky P.mem x/\(Gd P.mem C x->Gd P.mem C x)/\(Re P.mem x->(Re P.mem x/\Ra P.mem x = Ra P.mem x)\/P.clock<=Ra P.mem x) :=
 fun _ hx=>⟨h.gdUs hx,rfl,id,fun hr=>.inl ⟨hr,rfl⟩⟩
theorem hcSame (M : PMem) (i : Nat) : ∀ x,Us M x->(Ho M x = i ↔ Us M x/\Ho M x = i):=fun _ hu=>⟨fun h=>⟨hu,h⟩,fun h=>h.2⟩
theorem Inv.settle (h : Inv C P) (ht : P.ts[i]? = some t) (hb : t.busy = true) (hn : t.work.next = 6\/t.work.next = 7) {a : BAns} (hd : a.did = false) : Inv C (P.setW i (t.work.settle a)):=by
 have hT:=h.th i t ht;rw [setW_to P ht];have h12 : (t.work.settle a).next = 12:=rfl
 refine h.calm ht (calm6 fun _=>by omega) (calm6 fun _=>.inr (.inr ⟨h12,by rintro ⟨_,h2⟩; have : a.did = true:=h2; rw [hd] at this; cases this⟩)) ?_;refine hT.own hb (by omega) (by omega) (Int.le_refl _) h.haSame (hcSame _ _) ⟨rfl,rfl,rfl,rfl,rfl,rfl,rfl⟩ (by rw [h12]; omega) (by rw [h12]; omega) ?_ ?_ ?_ ?_ ?_ ?_ ?_ ?_ ?_ ?_ ?_ ?_
 all_goals (rw [h12])
 ·omega
 ·omega
 ·omega
 ·intros; omega
 ·intros; omega
 ·omega
 ·rintro _ (h2 | h2)
  ·omega
  ·have : a.did = true:=h2.2; rw [hd] at this; cases this
 ·omega
 ·intros; omega
 ·intros; omega
 ·omega
 ·omega
theorem Inv.meets (P : PSt) (k : PWork) : P.meetsKey k = decide (Ky P.mem k.ahead = k.key):=by
 unfold PSt.meetsKey;by_cases h : (P.mem.node k.ahead).key = k.key
 ·simp [h]
 ·simp [h]
theorem Inv.takes (P : PSt) (k : PWork) : P.takesOut k = decide (k.kind = 2/\Ky P.mem k.ahead = k.key):=by
 unfold PSt.takesOut;rw [Inv.meets];by_cases h : k.kind = 2 <;> simp [h]
theorem Inv.wanted (h : Inv C P) (k : PWork) : P.wanted k = [k.stand,k.ahead].take (wl P.mem k):=by
 unfold PSt.wanted wl;rw [Inv.takes];by_cases hh : k.kind = 2/\Ky P.mem k.ahead = k.key
 ·rw [if_pos (by simpa using hh),if_pos hh,if_neg (by rw [h.kind]; decide)]; rfl
 ·rw [if_neg (by simpa using hh),if_neg hh]; rfl
theorem Inv.wantedLen (h : Inv C P) (k : PWork) : (P.wanted k).length = wl P.mem k:=by
 rw [h.wanted]
 have:=wl_pos P.mem k
 rw [List.length_take]; simp; omega
theorem Th.apart (h : Th C M c r i t) (hb : t.busy = true) (hk : t.work.kind≠4) (h5 : 5<=t.work.next) (h12 : t.work.next<=12) : t.work.stand≠t.work.ahead:=by
 intro e;obtain ⟨_,_,h1⟩:=h.xs hb hk (by omega) h12;obtain ⟨_,_,h2,h3⟩:=h.cs hb h5 h12;rcases h1 with h1 | h1
 ·exact h2 (e.symm.trans h1)
 ·rw [e] at h1; omega
def lockNext (k : PWork) : Int:=if k.locks = 0 then k.stand else k.ahead
theorem Inv.lockIs (h : Inv C P) (ht : P.ts[i]? = some t) (hb : t.busy = true) (hn : t.work.next = 5) : (P.wanted t.work)[t.work.locks]?.getD 0 = lockNext t.work/\t.work.locks < (P.wanted t.work).length/\Us P.mem (lockNext t.work)/\(lockNext t.work = 1\/Gd P.mem C (lockNext t.work))/\Ho P.mem (lockNext t.work)≠i/\(t.work.locks = 0\/t.work.locks = 1)/\(t.work.kind = 1\/t.work.kind = 2):=by
 have hT:=h.th i t ht;have hl:=hT.l5 hb hn;have hw:=wl_pos P.mem t.work;have hk : t.work.kind = 1\/t.work.kind = 2:=by
  have h1:=hT.kd hb;have h2:=hT.rd hb;omega
 have hap:=hT.apart hb (by omega) (by omega) (by omega);obtain ⟨x1,x2,x3⟩:=hT.xs hb (by omega) (by omega) (by omega);obtain ⟨c1,c2,c3,c4⟩:=hT.cs hb (by omega) (by omega);rw [h.wantedLen,h.wanted];rcases (show t.work.locks = 0\/t.work.locks = 1 by omega) with e | e
 ·have hln : lockNext t.work = t.work.stand:=by unfold lockNext; rw [if_pos e]
  rw [hln];refine ⟨?_,hl,x2.1,.inr x1,?_,.inl e,hk⟩
  ·rw [e];rcases (show wl P.mem t.work = 1\/wl P.mem t.work = 2 by omega) with q | q <;> rw [q] <;> rfl
  ·intro hh
   have:=((hT.hd _ x2.1).1 hh).2
   rw [e] at this; simp at this
 ·have hln : lockNext t.work = t.work.ahead:=by unfold lockNext; rw [if_neg (by omega)]
  rw [hln];refine ⟨?_,hl,c2.1,c1,?_,.inr e,hk⟩
  ·rw [e,show wl P.mem t.work = 2 by omega]; rfl
  ·intro hh
   have:=((hT.hd _ c2.1).1 hh).2
   rw [e] at this; simp at this;exact hap this.symm
theorem Inv.lock (h : Inv C P) (ht : P.ts[i]? = some t) (hb : t.busy = true) (hn : t.work.next = 5) :
  (Ho P.mem (lockNext t.work) = -1/\P.lock i t.work = ((P.setM (P.mem.modN (lockNext t.work) fun x=>{ x with holder:=i })).setW i { t.work with locks:=t.work.locks + 1,next:=if wl P.mem t.work<=t.work.locks + 1 then 6 else 5 },1)/\Inv C (P.lock i t.work).1) \/
  (Ho P.mem (lockNext t.work)≠-1/\P.lock i t.work = (P,2)):=by
 have hT:=h.th i t ht;obtain ⟨l1,l2,l3,l4,l5,l6,l7⟩:=h.lockIs ht hb hn;have hlk:=lock_eq (M:=P.mem) (t:=(i : Int)) l3;unfold PSt.lock;rw [if_pos l2,l1];by_cases hf : Ho P.mem (lockNext t.work) = -1
 ·left;refine ⟨hf,?_⟩;rw [if_pos (Or.inl hf)] at hlk;rw [hlk,if_pos rfl,h.wantedLen];simp only;rw [hn];refine ⟨rfl,?_⟩;rw [setMW_to P ht];have hnd:=node_modN (hasN_used l3) (fun x=>{ x with holder:=(i : Int) });have hh : HoldEq P.mem (P.mem.modN (lockNext t.work) fun x=>{ x with holder:=(i : Int) }):=by
   intro x;rw [hnd];split
   ·next e=>subst e; exact ⟨_,rfl⟩
   ·exact ⟨(P.mem.node x).holder,rfl⟩
  have hto:=hh.to;generalize hM : (P.mem.modN (lockNext t.work) fun x=>{ x with holder:=(i : Int) }) = M1 at *;have hw1 : Wm M1:=by rw [<- hM]; exact h.wm.modN l3 _ l3
  have hes : M1.es = P.mem.es:=by rw [<- hM]; exact modN_ents _ _ _
  have hky : ∀ x,Ky M1 x = Ky P.mem x:=fun x=>(hto x).2.2.2.2.1
  obtain ⟨g1,g2,g3⟩:=hT.xs hb (by omega) (by omega) (by omega);obtain ⟨q1,q2,q3,q4⟩:=hT.cs hb (by omega) (by omega);have hgd : ∀ x,Gd P.mem C x->Gd M1 C x:=fun x hx=>by unfold Gd De; rw [(hto x).2.1]; exact hx
  have hsf : ∀ x,Safe P.mem P.sweep i t.work.time x->Safe M1 P.sweep i t.work.time x:=by
   intro x hx;refine hx.rely (hT.tm hb (by omega)).1 ?_ ?_
   ·show (M1.node x).used = true; rw [(hto x).1]; exact hx.1
   ·intro hr; left;simp only [Re,Ra,(hto x).2.2.1,(hto x).2.2.2.1] at hr ⊢;exact ⟨hr,trivial⟩
  have hwl : ∀ k : PWork,wl M1 k = wl P.mem k:=fun k=>by unfold wl; rw [hky]
  have hw5 : wl P.mem t.work<=2:=(wl_pos P.mem t.work).2;have hlen : t.work.locks < wl P.mem t.work:=hT.l5 hb hn;generalize hN : (if wl P.mem t.work<=t.work.locks + 1 then 6 else 5) = nn;have hnn : (nn = 6/\wl P.mem t.work = t.work.locks + 1)\/(nn = 5/\t.work.locks + 1 < wl P.mem t.work):=by
   rw [<- hN]; split
   ·left; exact ⟨rfl,by omega⟩
   ·right; exact ⟨rfl,by omega⟩
  refine h.hold (M':=M1) (t':={ t with work:={ t.work with locks:=t.work.locks + 1,next:=nn } }) ht (calm6 fun _=>by omega) (calm6 fun _=>.inl (by show nn<=7; omega)) hw1 hes hh ?_ ?_
  ·intro x;rw [hnd];split
   ·next e=>subst e; exact .inr ⟨l4,.inl hf,.inr (by show (M1.node _).holder = _; rw [hnd,if_pos rfl])⟩
   ·exact .inl rfl
  ·refine Th.of6 (fun _=>.inl (by show nn<=6; omega)) hT.kd (fun _=>by show 1<=nn/\nn<=13; omega) (fun _ hh=>by have : t.work.kind = 3\/t.work.kind = 4:=hh; omega) ?_ (fun b _=>hT.tm b (by omega)) ?_ (fun _ hh=>by have : nn<=4\/nn = 13:=hh; omega) ?_ ?_ hT.ky hT.hi (fun _ hh=>by have : t.work.kind = 4:=hh; omega) (fun _ _ _ _=>⟨hgd _ g1,hsf _ g2,by show _\/Ky M1 t.work.stand < _; rw [hky]; exact g3⟩) (fun _ hh=>by have : t.work.kind = 4:=hh; omega) (fun _ _ _=>⟨q1.imp id (hgd _),hsf _ q2,q3,by show _<=Ky M1 t.work.ahead; rw [hky]; exact q4⟩) (fun b _=>hT.m7 b (by omega)) hT.l3
   ·show t.slot = if t.busy = true/\nn≠1 then (if nn<=3 then 1 else 2) else 0
    rw [hT.sl,hn];have q1 : nn≠1:=by omega
    have q2 : ¬ nn<=3:=by omega
    simp [hb,q1,q2]
   ·intro x hx;show Ho M1 x = i ↔ t.busy = true/\x ∈ [t.work.stand,t.work.ahead].take (t.work.locks + 1);have hx' : Us P.mem x:=by show (P.mem.node x).used = true; rw [<- (hto x).1]; exact hx
    have hold:=hT.hd x hx';show (M1.node x).holder = i ↔ _;rw [hnd];by_cases e : x = lockNext t.work
    ·rw [if_pos e];simp only [true_iff];refine ⟨hb,?_⟩;rw [e];unfold lockNext;rcases l6 with l6 | l6
     ·rw [l6]; simp
     ·rw [l6]; simp
    ·rw [if_neg e];show Ho P.mem x = i ↔ _;rw [hold];simp only [hb,true_and];unfold lockNext at e;rcases l6 with l6 | l6
     ·rw [l6] at e ⊢; simp at e ⊢; exact e
     ·rw [l6] at e ⊢; simp at e ⊢; exact fun hh=>absurd hh e
   ·intro _ hh;have hh : nn = 5:=hh;show t.work.locks + 1 < wl M1 _;rw [hwl];show t.work.locks + 1 < wl P.mem t.work;omega
   ·intro _ hh _;have hh : 6<=nn:=hh;show t.work.locks + 1 = wl M1 _;rw [hwl];show t.work.locks + 1 = wl P.mem t.work;omega
 ·right;refine ⟨hf,?_⟩;rw [if_neg (show ¬ (Ho P.mem (lockNext t.work) = -1\/Ho P.mem (lockNext t.work) = i) by rintro (h1 | h1); exact hf h1; exact l5 h1)] at hlk;rw [hlk,if_neg (by simp)]
end
end
section
section
variable {C C' : Int->Prop} {M M' : PMem} {c c' : Int} {r : PSweep} {i j : Nat} {t t' : PThread} {ts : List PThread} {P : PSt} {x : Int} {k : PWork}
theorem unlock_hold (M : PMem) (i : Int) : HoldEq M (M.unlock i):=by
 intro x;rw [unlock_node];unfold unlocked;split
 ·exact ⟨-1,rfl⟩
 ·exact ⟨(M.node x).holder,rfl⟩
theorem unlock_ho (M : PMem) (i x : Int) (hx : Us M x) : Ho (M.unlock i) x = if Ho M x = i then -1 else Ho M x:=by
 show ((M.unlock i).node x).holder = _;rw [unlock_node];unfold unlocked;by_cases h : (M.node x).holder = i
 ·rw [if_pos (by simp [hx,h]),if_pos h]
 ·rw [if_neg (by simp [h]),if_neg h]
theorem Inv.unlocked (h : Inv C P) (ht : P.ts[i]? = some t) (hct : Calm t) (hct' : Calm t') (hth : Th C (P.mem.unlock i) P.clock P.sweep i t') : Inv C { P with mem:=P.mem.unlock i,ts:=P.ts.set i t' }:=by
 have hT:=h.th i t ht;refine h.hold ht hct hct' (h.wm.unlock _) rfl (unlock_hold _ _) ?_ hth;intro x;by_cases hu : Us P.mem x
 ·by_cases hh : Ho P.mem x = i
  ·right;obtain ⟨h1,h2⟩:=(hT.hd x hu).1 hh;exact ⟨(hT.heldUs h1 h2).2.1,.inr hh,.inl (by rw [unlock_ho _ _ _ hu,if_pos hh])⟩
  ·left;rw [unlock_node];unfold Go.Proofs.YtfccelbmacjifabGreat.unlocked;rw [if_neg (by simp; intro _; exact hh)]
 ·left;rw [unlock_node];unfold Go.Proofs.YtfccelbmacjifabGreat.unlocked;rw [if_neg (by simp; intro h; exact absurd h hu)]
theorem unlock_free (M : PMem) (i x : Int) (hi : i≠-1) (hx : Us (M.unlock i) x) : ¬ Ho (M.unlock i) x = i:=by
 have hx' : Us M x:=by show (M.node x).used = true; rw [<- ((unlock_hold M i).to x).1]; exact hx
 rw [unlock_ho _ _ _ hx'];split
 ·intro h; exact hi h.symm
 ·next h=>exact h
theorem Inv.outd (h : Inv C P) (ht : P.ts[i]? = some t) (hb : t.busy = true) (hk : t.work.kind≠4) (h5 : 5<=t.work.next) (h12 : t.work.next<=12) : P.outdated t.work = true ↔ ¬ ((P.mem.node t.work.stand).dead = false/\Ld P.mem t.work.stand = t.work.ahead/\(P.mem.node t.work.ahead).dead = false):=by
 have hT:=h.th i t ht;obtain ⟨g1,g2,g3⟩:=hT.xs hb hk (by omega) h12;unfold PSt.outdated PSt.asFound;rw [(h.side g1 t.work.key).2.2];by_cases h1 : (P.mem.node t.work.stand).dead = true
 ·simp [h1]
 ·have h1' : (P.mem.node t.work.stand).dead = false:=by simpa using h1
  by_cases h2 : Ld P.mem t.work.stand = t.work.ahead
  ·simp [h1',h2,h.kind]
  ·simp [h1',h2]
theorem Inv.check (h : Inv C P) (ht : P.ts[i]? = some t) (hb : t.busy = true) (hn : t.work.next = 6) : Inv C (P.check i t.work):=by
 have hT:=h.th i t ht;have hk : t.work.kind = 1\/t.work.kind = 2:=by
  have h1:=hT.kd hb;have h2:=hT.rd hb;omega
 have htm:=hT.tm hb (by omega);have hout:=h.outd ht hb (by omega) (by omega) (by omega);unfold PSt.check;by_cases ho : P.outdated t.work = true
 ·rw [if_pos ho,setMW_to P ht];have h0:=h.zero (i:=i) htm.2;refine h.unlocked ht (calm6 fun _=>by omega) (calm6 fun _=>.inl (by show 4<=7; omega)) ?_;have hto:=(unlock_hold P.mem i).to;refine Th.of6 (fun _=>.inl (by show 4<=6; omega)) hT.kd (fun _=>by show 1<=4/\4<=13; omega) (fun _ _=>.inl (by show 4<=4; omega)) ?_ (fun _ _=>htm) ?_ (fun b _=>rfl) ?_ ?_ hT.ky hT.hi ?_ ?_ ?_ ?_ (fun b _=>hT.m7 b (by omega)) hT.l3
  ·show t.slot = if t.busy = true/\(4 : Nat)≠1 then (if (4 : Nat)<=3 then 1 else 2) else 0
   rw [hT.sl,hn]; simp [hb]
  ·intro x hx;show _ ↔ t.busy = true/\x ∈ [_,_].take 0;simp only [List.take_zero,List.not_mem_nil,and_false,iff_false];exact unlock_free _ _ _ (by omega) hx
  ·intro b h5; have : (4 : Nat) = 5:=h5; omega
  ·intro b h6; have : 6<=(4 : Nat):=h6; omega
  ·intro b _ h4; have : (4 : Nat)<=3:=h4; omega
  ·intro b _ _ _;refine ⟨.inl h.n.a0.1,?_,.inl rfl⟩;refine h0.2.rely htm.1 ?_ ?_
   ·show ((P.mem.unlock i).node 0).used = true; rw [(hto 0).1]; exact h0.2.1
   ·intro hr; left;simp only [Re,Ra,(hto 0).2.2.1,(hto 0).2.2.2.1] at hr ⊢;exact ⟨hr,trivial⟩
  ·intro b k4; have : t.work.kind = 4:=k4; omega
  ·intro b h5; have : 5<=(4 : Nat):=h5; omega
 ·rw [if_neg ho];have hfi:=Classical.not_not.1 (fun hh=>ho (hout.2 hh));obtain ⟨f1,f2,f3⟩:=hfi;rw [Inv.meets];by_cases hm : (decide (Ky P.mem t.work.ahead = t.work.key) == (t.work.kind == 1)) = true
  ·rw [if_pos hm];exact h.settle ht hb (.inl hn) rfl
  ·rw [if_neg hm];have hm' : Ky P.mem t.work.ahead = t.work.key ↔ t.work.kind = 2:=by
    rcases hk with e | e
    ·rw [e] at hm ⊢;by_cases q : Ky P.mem t.work.ahead = t.work.key
     ·simp [q] at hm
     ·simp [q]
    ·rw [e] at hm ⊢;by_cases q : Ky P.mem t.work.ahead = t.work.key
     ·simp [q]
     ·simp [q] at hm
   have hC : C t.work.stand:=by
    rcases (hT.xs hb (by omega) (by omega) (by omega)).1 with q | q
    ·exact q
    ·simp only [De] at q; rw [f1] at q; cases q
   rw [setW_to P ht];refine h.calm ht (calm6 fun _=>by omega) (calm6 fun _=>.inl (by show 7<=7; omega)) ?_;refine hT.own (k:={ t.work with next:=7 }) hb (by omega) (by omega) (Int.le_refl _) h.haSame (hcSame _ _) ⟨rfl,rfl,rfl,rfl,rfl,rfl,rfl⟩ (by show 6<=7; omega) (by show 7<=12; omega) (fun _=>hT.m7 hb (by omega)) (fun _ _=>⟨hC,f1,hm'⟩) (fun _ _=>f2) (fun _ _ _=>f3) ?_ ?_ ?_ ?_ ?_ ?_ ?_ ?_
   ·intro _ hh; have : (7 : Nat) = 10:=hh; omega
   ·intro hh; have : (7 : Nat) = 9:=hh; omega
   ·intro _ hh; have : (7 : Nat) = 11\/((7 : Nat) = 12/\_):=hh; omega
   ·intro hh; have : 8<=(7 : Nat):=hh; omega
   ·intro _ hh; have : (7 : Nat) = 8\/(7 : Nat) = 10:=hh; omega
   ·intro _ hh; have : 8<=(7 : Nat):=hh; omega
   ·intro hh; have : (7 : Nat) = 11:=hh; omega
   ·intro hh; have : 9<=(7 : Nat):=hh; omega
theorem Inv.unlock0 (h : Inv C P) (ht : P.ts[i]? = some t) (hb : t.busy = true) (hn : t.work.next = 12) (hno : ¬ (t.work.kind = 2/\t.work.ans.did = true)) : Inv C { P with mem:=P.mem.unlock i,ts:=P.ts.set i { t with work:={ t.work with locks:=0,next:=13 } } }:=by
 have hT:=h.th i t ht;refine h.unlocked ht (calm6 fun _=>.inr (.inr ⟨hn,hno⟩)) (calm6 fun _=>.inr (.inl rfl)) ?_;refine Th.of6 (fun _=>.inr (.inl rfl)) hT.kd (fun _=>by show 1<=13/\13<=13; omega) (fun _ _=>.inr rfl) ?_ (fun b _=>hT.tm b (by omega)) ?_ (fun b _=>rfl) ?_ ?_ hT.ky hT.hi ?_ ?_ ?_ ?_ ?_ hT.l3
 ·show t.slot = if t.busy = true/\(13 : Nat)≠1 then (if (13 : Nat)<=3 then 1 else 2) else 0
  rw [hT.sl,hn]; simp [hb]
 ·intro x hx;show _ ↔ t.busy = true/\x ∈ [_,_].take 0;simp only [List.take_zero,List.not_mem_nil,and_false,iff_false];exact unlock_free _ _ _ (by omega) hx
 ·intro b h5; have : (13 : Nat) = 5:=h5; omega
 ·intro b h6 h7; have : (13 : Nat)<=12:=h7; omega
 ·intro b _ h4; have : (13 : Nat)<=3:=h4; omega
 ·intro b _ _ h4; have : (13 : Nat)<=12:=h4; omega
 ·intro b _ h4; have : (13 : Nat) = 4:=h4; omega
 ·intro b _ h4; have : (13 : Nat)<=12:=h4; omega
 ·intro b h4; have : (13 : Nat)<=7:=h4; omega
end
end
section
section
variable {C C' : Int->Prop} {M M' : PMem} {c c' : Int} {r : PSweep} {i j : Nat} {t t' : PThread} {ts : List PThread} {P : PSt} {x : Int} {k : PWork}
structure Frm (C C' : Int->Prop) (M M' : PMem) (c c' : Int) (i : Nat) (t : PThread) : Prop where
 cc : c<=c'
 ga : ∀ x,x = 1\/Gd M C x->Us M' x/\Ky M' x = Ky M x/\(Gd M C x->Gd M' C' x)/\(Re M' x->(Re M x/\Ra M' x = Ra M x)\/c<=Ra M' x)
 gb : ∀ x,Us M x->Ho M x≠i->¬ Fresh x t->M'.node x = M.node x/\Pd M' x = Pd M x/\(∀ s d,Sd M' x s d->Sd M x s d)/\(C' x ↔ C x)
 gc : ∀ x,Us M' x->∀ j : Nat,j≠i->(Ho M' x = j ↔ Us M x/\Ho M x = j)
theorem Inv.heldFresh (h : Inv C P) {u v : PThread} (hj : P.ts[j]? = some u) (hi : P.ts[i]? = some v) (hx : Us P.mem x) (hh : Ho P.mem x = j) : ¬ Fresh x v:=by
 rintro ⟨b,hk,hn,hm⟩;obtain ⟨n,f1,f2,f3,f4,f5,f6,_⟩:=(h.th i v hi).f8 b hk hn;rw [f1] at hm;simp at hm;subst hm;obtain ⟨h1,h2⟩:=((h.th j u hj).hd x hx).1 hh;rcases ((h.th j u hj).heldUs h1 h2).2.1 with e | e | e
 ·exact f3 e
 ·exact f5 e
 ·simp only [De] at e; rw [f6] at e; cases e
theorem Frm.others (f : Frm C C' P.mem M' P.clock c' i t) (h : Inv C P) (ht : P.ts[i]? = some t) {u : PThread} (hj : P.ts[j]? = some u) (hne : j≠i) : Th C' M' c' P.sweep j u:=by
 refine (h.th j u hj).rely f.cc f.ga ?_ (fun x hx=>f.gc x hx j hne);intro x hu hx;rcases hx with hx | hx
 ·refine f.gb x hu ?_ (h.heldFresh hj ht hu hx);intro e;rw [hx] at e; omega
 ·refine f.gb x hu ?_ ?_
  ·intro e; exact h.heldFresh ht hj hu e hx
  ·intro hf; exact hne (h.o.pw j i u t x hj ht hx hf)
theorem Inv.build (h : Inv C P) (ht : P.ts[i]? = some t) (f : Frm C C' P.mem M' P.clock c' i t) (hw : Wm M') (hn : InvN C' M' c' P.sweep) (he : InvE C' M' c' P.sweep (P.ts.set i t')) (ho : InvO C' M' c' P.sweep (P.ts.set i t')) (hth : Th C' M' c' P.sweep i t') : Inv C' { P with mem:=M',clock:=c',ts:=P.ts.set i t' }:=by
 have hi:=(List.getElem?_eq_some_iff.1 ht).1;refine ⟨h.kind,hw,hn,he,ho,?_⟩;intro j u hj;rw [List.getElem?_set] at hj;by_cases ej : i = j
 ·subst ej; simp [hi] at hj; subst hj; exact hth
 ·rw [if_neg ej] at hj;exact f.others h ht hj (fun e=>ej e.symm)
theorem InvN.same (h : InvN C M c r) (hn : ∀ x,M'.node x = M.node x) (hc : c<=c') : InvN C M' c' r:=by
 obtain ⟨a0,a1,mc,kr,mi,md,mr,mo⟩:=h;constructor <;> simp only [Us,De,Re,Ra,Ky,Ld,Lt,hn] at * <;> try assumption
 intro x hx
 have:=mr x hx
 exact ⟨this.1,this.2.1,by omega⟩
theorem InvO.same (h : InvO C M c r ts) (ht : ts[i]? = some t) (hn : ∀ x,M'.node x = M.node x) (hc : c<=c') (h1 : ∀ x,Fresh x t->Fresh x t') (h2 : ∀ x,Killing x t->Killing x t') (h3 : ∀ x,Outing x t->Outing x t') (h4 : ∀ x,Fresh x t'->Fresh x t) : InvO C M' c' r (ts.set i t'):=by
 have hi:=(List.getElem?_eq_some_iff.1 ht).1;obtain ⟨us,ki,ou,ho,pw,sw,sc,sm,sz⟩:=h;refine ⟨?_,?_,?_,?_,?_,?_,by omega,by simpa using sm,sz⟩
 ·intro x hx;simp only [Us,De,hn] at hx ⊢;rcases us x hx with q | q | q | q
  ·exact .inl q
  ·exact .inr (.inl q)
  ·exact .inr (.inr (.inl q))
  ·exact .inr (.inr (.inr (q.set ht (h1 x))))
 ·intro x hx hC;simp only [De,hn] at hx;exact (ki x hx hC).set ht (h2 x)
 ·intro x hx hC hr;simp only [De,hn] at hx;rw [hn] at hr;exact (ou x hx hC hr).set ht (h3 x)
 ·intro x hx;simp only [Us,Ho,hn,List.length_set] at hx ⊢;exact ho x hx
 ·intro a b u v x ha hb hu hv;rw [List.getElem?_set] at ha hb;by_cases ea : i = a
  ·subst ea; simp [hi] at ha; subst ha;by_cases eb : i = b
   ·exact eb
   ·rw [if_neg eb] at hb;exact pw i b t v x ht hb (h4 x hu) hv
  ·rw [if_neg ea] at ha;by_cases eb : i = b
   ·subst eb; simp [hi] at hb; subst hb;exact pw a i u t x ha ht hu (h4 x hv)
   ·rw [if_neg eb] at hb;exact pw a b u v x ha hb hu hv
 ·intro x hx;simp only [Re,Ra,hn];exact sw x hx
theorem Inv.mine (h : Inv C P) (ht : P.ts[i]? = some t) (hb : t.busy = true) (h7 : 7<=t.work.next) (h11 : t.work.next<=11) : (t.work.kind = 1\/t.work.kind = 2)/\C t.work.stand/\Us P.mem t.work.stand/\Ho P.mem t.work.stand = i/\t.work.stand≠t.work.ahead/\P.mem.hasLink t.work.stand false = true/\(t.work.kind = 2->Us P.mem t.work.ahead/\Ho P.mem t.work.ahead = i/\t.work.ahead≠1/\t.work.ahead≠0):=by
 have hT:=h.th i t ht;have hk : t.work.kind = 1\/t.work.kind = 2:=by
  have h1:=hT.kd hb;have h2:=hT.rd hb;omega
 obtain ⟨c1,c2,c3⟩:=hT.c7 hb h7 h11;have hs:=hT.hStand hb (by omega) (by omega);refine ⟨hk,c1,hs.1,hs.2,hT.apart hb (by omega) (by omega) (by omega),(h.side (.inl c1) 0).2.1,?_⟩;intro k2
 have:=hT.hAhead hb (by omega) (by omega) k2 (c3.2 k2)
 refine ⟨this.1,this.2,?_,(hT.cs hb (by omega) (by omega)).2.2.1⟩;intro e;have h1:=c3.2 k2;rw [e,h.n.a1.2.2.2.2.2] at h1
 have:=hT.ky hb (by omega)
 omega
theorem Inv.noPend (h : Inv C P) (ht : P.ts[i]? = some t) (hb : t.busy = true) (hn : t.work.next = 7) : Pd P.mem t.work.stand = []:=by
 cases hp : Pd P.mem t.work.stand with
 | nil=>rfl
 | cons d l =>
  exfalso;obtain ⟨hk,m1,m2,m3,_⟩:=h.mine ht hb (by omega) (by omega);obtain ⟨j,u,hj,hu⟩:=h.e.pd t.work.stand d (by rw [hp]; simp);rcases hu with ⟨b,_,h8,h11,e⟩ | ⟨b,hk1,h8,hm⟩
  ·have h1:=(h.th j u hj).hStand b (by omega) (by omega);rw [e,m3] at h1;have : i = j:=by have:=h1.2; omega
   subst this;rw [ht] at hj; injection hj with hj; subst hj
   omega
  ·obtain ⟨n,f1,f2,f3,f4,f5,f6,_⟩:=(h.th j u hj).f8 b hk1 (.inl h8);rw [f1] at hm;simp at hm;rw [hm] at m1;exact f5 m1
theorem Frm.ents (h : Inv C P) (hn : ∀ x,M'.node x = P.mem.node x) (hc : P.clock<=c') (hp : ∀ x,Us P.mem x->Ho P.mem x≠i->¬ Fresh x t->Pd M' x = Pd P.mem x/\∀ s d,Sd M' x s d->Sd P.mem x s d) : Frm C C P.mem M' P.clock c' i t:=by
 refine ⟨hc,?_,?_,?_⟩
 ·intro x hx;simp only [Us,Ky,Gd,De,Re,Ra,hn];exact ⟨h.gdUs hx,trivial,id,fun hr=>.inl ⟨hr,trivial⟩⟩
 ·intro x hu hh hf;exact ⟨hn x,(hp x hu hh hf).1,(hp x hu hh hf).2,Iff.rfl⟩
 ·intro x hx j hj;simp only [Us,Ho,hn] at hx ⊢;exact ⟨fun h=>⟨hx,h⟩,fun h=>h.2⟩
end
end
section
section
variable {C C' : Int->Prop} {M M' : PMem} {c c' : Int} {r : PSweep} {i j : Nat} {t t' : PThread} {ts : List PThread} {P : PSt} {x : Int} {k : PWork}
theorem node_ns {M M' : PMem} (h : M'.ns = M.ns) (x : Int) : M'.node x = M.node x:=by unfold PMem.node PMem.hasNode; rw [h]
theorem vd_mono {x s : Int} (ht : ts[i]? = some t) (h : Vd M ts x s) (hs : ∀ d,Sd M x s d->Sd M' x s d) (hp : Vs x s t->Vs x s t'\/∃ d,Sd M' x s d) : Vd M' (ts.set i t') x s:=by
 rcases h with ⟨d,h⟩ | h
 ·exact .inl ⟨d,hs d h⟩
 ·rcases h.or ht with h1 | ⟨j,u,hj,h1,h2⟩
  ·rcases hp h1 with h2 | h2
   ·exact .inr (Ex.new ht h2)
   ·exact .inl h2
  ·exact .inr (Ex.other h1 h2 hj)
theorem InvE.ents (h : InvE C M c r ts) (ht : ts[i]? = some t) (hn : ∀ x,M'.node x = M.node x) (hc : c<=c')
  (hsd : ∀ x s d,Sd M x s d->Sd M' x s d) (hvs : ∀ x s,Vs x s t->Vs x s t'\/∃ d,Sd M' x s d)
  (hpd : ∀ x d,d ∈ Pd M' x->Ex (ts.set i t') (fun t=>Pends x t\/Fresh8 x t))
  (hnew : ∀ x s d,Sd M' x s d->Sd M x s d\/(Us M x/\x≠1/\0<=s/\s<=c'/\d≠0/\(d = 1\/C d)/\Lt M x d/\d = Ld M x/\¬ InSw r d/\(M.node d).retired = false)) : InvE C M' c' r (ts.set i t'):=by
 obtain ⟨ms,pd,nw,ol,dr⟩:=h;refine ⟨?_,hpd,?_,?_,?_⟩
 ·intro x s d hs;simp only [Us,De,Lt,Ky,hn];rcases hnew x s d hs with h1 | ⟨q1,q2,q3,q4,q5,q6,q7,_⟩
  ·obtain ⟨q1,q2,q3,q4,q5,q6,q7⟩:=ms x s d h1;exact ⟨q1,q2,q3,by omega,q5,q6,q7⟩
  ·refine ⟨q1,q2,q3,q4,q5,?_,q7⟩;rcases q6 with q | q
   ·exact .inl q
   ·exact .inr (.inl q)
 ·intro x s d hs;simp only [Ld,hn];rcases hnew x s d hs with h1 | ⟨_,_,_,_,_,_,_,q,_⟩
  ·rcases nw x s d h1 with h2 | ⟨s',h2,h3⟩
   ·exact .inl h2
   ·exact .inr ⟨s',h2,vd_mono ht h3 (fun d=>hsd x s' d) (hvs x s')⟩
  ·exact .inl q
 ·intro x s d hs hr;simp only [Re,Ra,hn] at hr ⊢;rcases hnew x s d hs with h1 | ⟨_,_,_,_,_,_,_,_,_,q⟩
  ·rcases ol x s d h1 hr with ⟨s',h2,h3,h4⟩ | h2
   ·exact .inl ⟨s',h2,h3,vd_mono ht h4 (fun d=>hsd x s' d) (hvs x s')⟩
   ·exact .inr h2
  ·rw [q] at hr; cases hr
 ·intro hm x s d hs hin hf;simp only [Ra,hn] at hf ⊢;rcases hnew x s d hs with h1 | ⟨_,_,_,_,_,_,_,_,q,_⟩
  ·exact dr (by simpa using hm) x s d h1 hin hf
  ·exact absurd hin q
theorem Inv.prepR (h : Inv C P) (ht : P.ts[i]? = some t) (hb : t.busy = true) (hn : t.work.next = 7) (hk : t.work.kind = 2) (hr : 0 < P.mem.room.2) : Inv C ((P.setM (P.prepareRemove t.work).1).setW i { (P.prepareRemove t.work).2 with next:=8 }):=by
 have hT:=h.th i t ht;obtain ⟨_,m1,m2,m3,m4,m5,m6⟩:=h.mine ht hb (by omega) (by omega);obtain ⟨a1,a2,a3,a4⟩:=m6 hk;have hp:=h.noPend ht hb hn;obtain ⟨c1,c2,c3⟩:=hT.c7 hb (by omega) (by omega);have c10:=hT.c10 hb (by omega) (by omega);have hga : Gd P.mem C t.work.ahead:=((hT.cs hb (by omega) (by omega)).1).resolve_left a3;have hs1:=(h.side (.inl c1) t.work.key).1;have hs2:=(h.side hga t.work.key).2.2;obtain ⟨e,he,hu⟩:=count_some (l:=P.mem.es) (p:=fun x=>!x.used) (by unfold PMem.room at hr; simpa using hr);obtain ⟨kk,g1,g2,g3,g4,g5⟩:=pend_e (to:=Ld P.mem t.work.ahead) h.wm ⟨e,he,by simpa using hu⟩ m5 hp;unfold PSt.prepareRemove;simp only [if_pos h.kind];rw [hs1,hs2,setMW_to P ht];have hnd : ∀ x,(P.mem.pend t.work.stand false (Ld P.mem t.work.ahead)).node x = P.mem.node x:=fun x=>by rw [g2]; rfl
 generalize hM : P.mem.pend t.work.stand false (Ld P.mem t.work.ahead) = M1 at *;have hct : Calm t:=calm6 fun _=>by omega
 refine h.build (t':={ t with work:={ t.work with tsrc:=t.work.stand,tside:=false,next:=8 } }) ht (Frm.ents h hnd (Int.le_refl _) ?_) g3 (h.n.same hnd (Int.le_refl _)) ?_ ?_ ?_
 ·intro x hu hh hf;refine ⟨?_,fun s d=>(g5 x s d).1⟩;rw [g4,if_neg];rintro rfl;exact hh m3
 ·refine h.e.ents ht hnd (Int.le_refl _) (fun x s d=>(g5 x s d).2) (fun x s hv=>absurd hv hct.vs) ?_ (fun x s d hs=>.inl ((g5 x s d).1 hs));intro x d hd;rw [g4] at hd;split at hd
  ·next e=>subst e; exact Ex.new ht (.inl ⟨hb,.inr hk,by show 8<=8; omega,by show 8<=11; omega,rfl⟩)
  ·exact (h.e.pd x d hd).set ht (fun hp=>hp.elim (fun h=>absurd h hct.pends) (fun h=>absurd h hct.fresh8))
 ·refine h.o.same ht hnd (Int.le_refl _) (fun x hf=>absurd hf hct.fresh) (fun x hf=>absurd hf hct.killing) (fun x hf=>absurd hf hct.outing) ?_;rintro x ⟨_,q,_⟩;have : t.work.kind = 1:=q;omega
 ·have hst : Pd M1 t.work.stand = [Ld P.mem t.work.ahead]:=by rw [g4,if_pos rfl]
  refine hT.own (k:={ t.work with tsrc:=t.work.stand,tside:=false,next:=8 }) hb (by omega) (by omega) (Int.le_refl _) ?_ ?_ ⟨rfl,rfl,rfl,rfl,rfl,rfl,rfl⟩ (by show 6<=8; omega) (by show 8<=12; omega) ?_ ?_ ?_ ?_ ?_ ?_ ?_ ?_ ?_ ?_ ?_ ?_
  ·intro x hx; simp only [Us,Ky,Gd,De,Re,Ra,hnd]; exact ⟨h.gdUs hx,trivial,id,fun hr=>.inl ⟨hr,trivial⟩⟩
  ·intro x hx; simp only [Us,Ho,hnd] at hx ⊢; exact ⟨fun h=>⟨hx,h⟩,fun h=>h.2⟩
  ·intro hh; have : (8 : Nat)<=7:=hh; omega
  ·intro _ _; simp only [Ky,hnd]; exact ⟨c1,c2,c3⟩
  ·intro _ _; simp only [Ld,hnd]; exact c10
  ·intro _ _ _; simp only [hnd]; exact hT.d9 hb hk (by omega) (by omega)
  ·intro _ hh; have : (8 : Nat) = 10:=hh; omega
  ·intro hh; have : (8 : Nat) = 9:=hh; omega
  ·intro _ hh; have : (8 : Nat) = 11\/((8 : Nat) = 12/\_):=hh; omega
  ·intro _ _; exact ⟨rfl,rfl⟩
  ·intro hh; have : t.work.kind = 1:=hh; omega
  ·intro _ _ _;show Pd M1 t.work.stand = [Ld M1 t.work.ahead]/\t.work.made = [];simp only [Ld,hnd];exact ⟨hst,hT.m7 hb (by omega)⟩
  ·intro hh; have : (8 : Nat) = 11:=hh; omega
  ·intro hh; have : 9<=(8 : Nat):=hh; omega
theorem Inv.overR (h : Inv C P) (ht : P.ts[i]? = some t) (hb : t.busy = true) (hn : t.work.next = 8) (hk : t.work.kind = 2) (a : BAns) (ha : a.did = false) : Inv C ((P.setM (P.mem.unpend t.work.stand false)).setW i (t.work.settle a)):=by
 have hT:=h.th i t ht;obtain ⟨_,m1,m2,m3,m4,m5,m6⟩:=h.mine ht hb (by omega) (by omega);obtain ⟨p1,p2⟩:=hT.p2 hb hk (by omega) (by omega);obtain ⟨g1,g2,g3,g4⟩:=unpend_e h.wm p1;rw [setMW_to P ht];have hnd:=node_ns g1;generalize hM : P.mem.unpend t.work.stand false = M1 at *;have h12 : (t.work.settle a).next = 12:=rfl
 have hnd2 : ¬ (t.work.settle a).ans.did = true:=by show ¬ a.did = true; rw [ha]; decide
 refine h.build (t':={ t with work:=t.work.settle a }) ht (Frm.ents h hnd (Int.le_refl _) ?_) g2 (h.n.same hnd (Int.le_refl _)) ?_ ?_ ?_
 ·intro x hu hh hf;refine ⟨?_,fun s d=>(g4 x s d).1⟩;rw [g3,if_neg];rintro rfl;exact hh m3
 ·refine h.e.ents ht hnd (Int.le_refl _) (fun x s d=>(g4 x s d).2) ?_ ?_ (fun x s d hs=>.inl ((g4 x s d).1 hs))
  ·rintro x s ⟨_,_,h9,_⟩; omega
  ·intro x d hd;rw [g3] at hd;split at hd
   ·cases hd
   ·next e =>
    refine (h.e.pd x d hd).set ht ?_;rintro (⟨_,_,_,_,q⟩ | ⟨_,q,_⟩)
    ·exact absurd q.symm e
    ·omega
 ·refine h.o.same ht hnd (Int.le_refl _) ?_ ?_ ?_ ?_
  ·rintro x ⟨_,q,_⟩; omega
  ·rintro x ⟨_,_,q,_⟩; omega
  ·rintro x ⟨_,_,q,_⟩; omega
  ·rintro x ⟨_,q,_⟩;have : t.work.kind = 1:=q;omega
 ·refine hT.own (k:=t.work.settle a) hb (by omega) (by omega) (Int.le_refl _) ?_ ?_ ⟨rfl,rfl,rfl,rfl,rfl,rfl,rfl⟩ (by rw [h12]; omega) (by rw [h12]; omega) ?_ ?_ ?_ ?_ ?_ ?_ ?_ ?_ ?_ ?_ ?_ ?_
  ·intro x hx; simp only [Us,Ky,Gd,De,Re,Ra,hnd]; exact ⟨h.gdUs hx,trivial,id,fun hr=>.inl ⟨hr,trivial⟩⟩
  ·intro x hx; simp only [Us,Ho,hnd] at hx ⊢; exact ⟨fun h=>⟨hx,h⟩,fun h=>h.2⟩
  all_goals (rw [h12])
  ·omega
  ·omega
  ·omega
  ·intros; omega
  ·intros; omega
  ·omega
  ·rintro _ (h2 | h2)
   ·omega
   ·exact absurd h2.2 hnd2
  ·omega
  ·intros; omega
  ·intros; omega
  ·omega
  ·omega
theorem Inv.takeR (h : Inv C P) (ht : P.ts[i]? = some t) (hb : t.busy = true) (hn : t.work.next = 8) (hk : t.work.kind = 2) (a : BAns) (ha : a.did = true/\a.stamp = P.clock + 1) : Inv C (({ P with clock:=P.clock + 1 } : PSt).setW i { t.work with ans:=a,next:=9 }):=by
 have hT:=h.th i t ht;obtain ⟨_,m1,m2,m3,m4,m5,m6⟩:=h.mine ht hb (by omega) (by omega);have htm:=hT.tm hb (by omega);rw [setW_to { P with clock:=P.clock + 1 } ht];have hnd : ∀ x,P.mem.node x = P.mem.node x:=fun _=>rfl
 refine h.build (M':=P.mem) (c':=P.clock + 1) (t':={ t with work:={ t.work with ans:=a,next:=9 } }) ht (Frm.ents h hnd (by omega) (fun x _ _ _=>⟨rfl,fun _ _=>id⟩)) h.wm (h.n.same hnd (by omega)) ?_ ?_ ?_
 ·refine h.e.ents ht hnd (by omega) (fun x s d=>id) ?_ ?_ (fun x s d hs=>.inl hs)
  ·rintro x s ⟨_,_,h9,_⟩; omega
  ·intro x d hd;refine (h.e.pd x d hd).set ht ?_;rintro (⟨_,_,_,_,q⟩ | ⟨_,q,_⟩)
   ·exact .inl ⟨hb,.inr hk,by show 8<=9; omega,by show 9<=11; omega,q⟩
   ·omega
 ·refine h.o.same ht hnd (by omega) ?_ ?_ ?_ ?_
  ·rintro x ⟨_,q,_⟩; omega
  ·rintro x ⟨_,_,q,_⟩; omega
  ·rintro x ⟨_,_,q,_⟩; omega
  ·rintro x ⟨_,q,_⟩;have : t.work.kind = 1:=q;omega
 ·refine hT.own (k:={ t.work with ans:=a,next:=9 }) hb (by omega) (by omega) (by omega) ?_ (hcSame _ _) ⟨rfl,rfl,rfl,rfl,rfl,rfl,rfl⟩ (by show 6<=9; omega) (by show 9<=12; omega) ?_ ?_ ?_ ?_ ?_ ?_ ?_ ?_ ?_ ?_ ?_ ?_
  ·exact h.haSame
  ·intro hh; have : (9 : Nat)<=7:=hh; omega
  ·intro _ _; exact hT.c7 hb (by omega) (by omega)
  ·intro _ _; exact hT.c10 hb (by omega) (by omega)
  ·intro _ _ _; exact hT.d9 hb hk (by omega) (by omega)
  ·intro _ hh; have : (9 : Nat) = 10:=hh; omega
  ·intro _; exact hk
  ·intro _ hh; have : (9 : Nat) = 11\/((9 : Nat) = 12/\_):=hh; omega
  ·intro _ _; exact hT.ts hb (by omega) (by omega)
  ·intro hh; have : t.work.kind = 1:=hh; omega
  ·intro _ _ _; exact hT.p2 hb hk (by omega) (by omega)
  ·intro hh; have : (9 : Nat) = 11:=hh; omega
  ·intro _ _;have h0:=h.o.sc.2;show a.did = true/\t.work.time < a.stamp/\(0<=a.stamp/\a.stamp<=P.clock + 1)/\∀ s d,Sd P.mem t.work.stand s d->s < a.stamp;rw [ha.2];refine ⟨ha.1,by omega,by omega,?_⟩;intro s d hs
   have:=(h.e.ms _ _ _ hs).2.2.2.1
   omega
theorem Inv.stamped (h : Inv C P) (ht : P.ts[i]? = some t) (hb : t.busy = true) (hn : t.work.next = 11) : Inv C ((P.setM (P.mem.stamp t.work.stand false t.work.ans.stamp)).setW i { t.work with next:=12 }):=by
 have hT:=h.th i t ht;obtain ⟨hk,m1,m2,m3,m4,m5,m6⟩:=h.mine ht hb (by omega) (by omega);have p1:=hT.p11 hb hn;obtain ⟨s1,s2,s3,s4⟩:=hT.s9 hb (by omega) (by omega);obtain ⟨g1,g2,g3,g4⟩:=stamp_e t.work.ans.stamp h.wm p1;rw [setMW_to P ht];have hnd:=node_ns g1;generalize hM : P.mem.stamp t.work.stand false t.work.ans.stamp = M1 at *;refine h.build (t':={ t with work:={ t.work with next:=12 } }) ht (Frm.ents h hnd (Int.le_refl _) ?_) g2 (h.n.same hnd (Int.le_refl _)) ?_ ?_ ?_
 ·intro x hu hh hf;have hx : x≠t.work.stand:=by rintro rfl; exact hh m3
  refine ⟨by rw [g3,if_neg hx],fun s d hs=>?_⟩;rcases (g4 x s d).1 hs with q | q
  ·exact q
  ·exact absurd q.1 hx
 ·refine h.e.ents ht hnd (Int.le_refl _) (fun x s d hs=>(g4 x s d).2 (.inl hs)) ?_ ?_ ?_
  ·rintro x s ⟨_,_,_,_,q1,q2⟩;exact .inr ⟨_,(g4 x s _).2 (.inr ⟨q1.symm,q2.symm,rfl⟩)⟩
  ·intro x d hd;rw [g3] at hd;split at hd
   ·cases hd
   ·next e =>
    refine (h.e.pd x d hd).set ht ?_;rintro (⟨_,_,_,_,q⟩ | ⟨_,_,q,_⟩)
    ·exact absurd q.symm e
    ·omega
  ·intro x s d hs;rcases (g4 x s d).1 hs with q | ⟨rfl,rfl,rfl⟩
   ·exact .inl q
   ·right;obtain ⟨n1,_,_,n4,n5,n6⟩:=h.n.mc _ m1;have hx1 : t.work.stand≠1:=(h.gdLinks (.inl m1)).2;obtain ⟨z1,z2⟩:=h.notSw n4;exact ⟨n1,hx1,s3.1,s3.2,n5,n4,n6,rfl,z1,z2⟩
 ·refine h.o.same ht hnd (Int.le_refl _) ?_ ?_ ?_ ?_
  ·rintro x ⟨_,_,q,_⟩; omega
  ·rintro x ⟨_,_,q,_⟩; omega
  ·rintro x ⟨q1,q2,_,q4⟩; exact ⟨q1,q2,.inr ⟨rfl,s1⟩,q4⟩
  ·rintro x ⟨_,_,q,_⟩;have : (12 : Nat) = 8\/(12 : Nat) = 10:=q;omega
 ·have hh12 : ∀ {p : Prop},(12 : Nat)<=11->p:=fun hh=>absurd hh (by omega)
  refine hT.own (k:={ t.work with next:=12 }) hb (by omega) (by omega) (Int.le_refl _) ?_ ?_ ⟨rfl,rfl,rfl,rfl,rfl,rfl,rfl⟩ (by show 6<=12; omega) (by show 12<=12; omega) ?_ (fun _ hh=>hh12 hh) ?_ ?_ ?_ ?_ ?_ (fun _ hh=>hh12 hh) ?_ ?_ ?_ (fun _ hh=>hh12 hh)
  ·intro x hx; simp only [Us,Ky,Gd,De,Re,Ra,hnd]; exact ⟨h.gdUs hx,trivial,id,fun hr=>.inl ⟨hr,trivial⟩⟩
  ·intro x hx; simp only [Us,Ho,hnd] at hx ⊢; exact ⟨fun h=>⟨hx,h⟩,fun h=>h.2⟩
  ·intro hh; have : (12 : Nat)<=7:=hh; omega
  ·intro _ hh; have : (12 : Nat)<=10:=hh; omega
  ·intro _ _ hh; have : (12 : Nat)<=9:=hh; omega
  ·intro _ hh; have : (12 : Nat) = 10:=hh; omega
  ·intro hh; have : (12 : Nat) = 9:=hh; omega
  ·intro k2 _;simp only [Ld,De,Ky,hnd];exact hT.ot ⟨hb,k2,.inl hn,rfl⟩
  ·intro _ hh; have : (12 : Nat) = 8\/(12 : Nat) = 10:=hh; omega
  ·intro _ _ hh; have : (12 : Nat)<=10:=hh; omega
  ·intro hh; have : (12 : Nat) = 11:=hh; omega
end
end
end Go.Proofs.YtfccelbmacjifabGreat
