import Derived.Test.YtfccelbmacjifabGreatP0
import Derived.Test.YtfccelbmacjifabGreatP6
set_option linter.unusedSimpArgs false
set_option maxRecDepth 100000
set_option maxHeartbeats 4000000
namespace Go.Proofs.YtfccelbmacjifabGreat
section
section
variable {C : Int->Prop} {b b' : Int->Int} {a a' : ASt} {P : PSt} {i : Nat} {t t' : PThread} {M' : PMem} {c' : Int} {k ak ak' : PWork}
theorem Inv.ldUs (h : Inv C P) {x : Int} (hx : Us P.mem x) (h1 : x≠1) : Us P.mem (Ld P.mem x):=by
 rcases h.o.us x hx with q | q | q | ⟨j,u,hj,hb,hk,hn,hm⟩
 ·exact absurd q h1
 ·exact h.gdUs (h.next (.inl q)).1
 ·exact h.gdUs (h.next (.inr q)).1
 ·have hT:=h.th j u hj;obtain ⟨n,f1,_,_,_,_,_,_,_,f9,_⟩:=hT.f8 hb hk hn;rw [f1] at hm;have e : x = n:=by simpa using hm
  rw [e,f9];exact (hT.cs hb (by omega) (by omega)).2.1.1
theorem RW.rename (hw : RW b k ak) (h1 : 4<=k.next->k.next<=12->b' k.stand = b k.stand) (h2 : 5<=k.next->k.next<=12->b' k.ahead = b k.ahead) (h3 : k.kind = 1->(k.next = 8\/k.next = 10)->∀ n,k.made = [n]->b' n = b n) : RW b' k ak:=by
 refine ⟨hw.kind,hw.key,hw.value,hw.next,hw.locks,hw.ans,fun p q=>by rw [h1 p q]; exact hw.stand p q,fun p q=>by rw [h2 p q]; exact hw.ahead p q,fun p q=>?_⟩;obtain ⟨n,m1,m2⟩:=hw.made p q;exact ⟨n,m1,by rw [h3 p q n m1]; exact m2⟩
theorem Inv.rename (h : Inv C P) {j : Nat} {u : PThread} (hj : P.ts[j]? = some u) (hu : Upd u) (hw : RW b u.work ak) (hb : ∀ x,Us P.mem x->b' x = b x) : RW b' u.work ak:=by
 have hT:=h.th j u hj;have hk:=hu.2;refine hw.rename (fun p q=>hb _ (hT.xs hu.1 (by omega) p q).2.1.1) (fun p q=>hb _ (hT.cs hu.1 p q).2.1.1) (fun p q n hm=>?_);obtain ⟨m,f1,_,_,f4,_⟩:=hT.f8 hu.1 p q;rw [f1] at hm;have e : m = n:=by simpa using hm
 rw [<- e]; exact hb _ f4
theorem Abs.s7 (h : Abs b a P) (hI : Inv C P) (ht : P.ts[i]? = some t) (hu : Upd t) (hw : RW b t.work ak) (hn : t.work.next = 7) (hr : ¬ (P.mem.room.1 < (P.needs t.work.kind).1\/P.mem.room.2 < (P.needs t.work.kind).2)) : ∃ b',Stp b' a ak P i t:=by
 have hnx:=hw.next
 rw [hn] at hnx;have hi:=(List.getElem?_eq_some_iff.1 ht).1;have hT:=hI.th i t ht;have hk:=hu.2;have hst:=hw.stand (by omega) (by omega);have hah:=hw.ahead (by omega) (by omega);have hua:=(hT.cs hu.1 (by omega) (by omega)).2.1.1;have hup : P.step i t = (P.prepare i t.work,1):=by rw [step_upd hu (by omega) (by omega)]; unfold PSt.update; simp only [hn]
 unfold PSt.prepare at hup;rw [if_neg hr] at hup;by_cases hk1 : t.work.kind = 1
 ·have hne : P.needs t.work.kind = (1,2):=by unfold PSt.needs; rw [hk1,if_neg (by decide),if_neg (by rw [hI.kind]; decide)]
  rw [hne] at hr;simp only at hr;obtain ⟨n,M1,n1,n2,_,n4,_⟩:=hI.grown ht hu.1 hn (by omega) (by omega);simp only [if_pos hk1] at hup;rw [n2] at hup;have h0 : n≠0:=fun e=>n1 (by rw [e]; exact (hI.n.mc 0 hI.n.a0.1).1)
  have h1 : n≠1:=fun e=>n1 (by rw [e]; exact hI.n.a1.2.1)
  have hold : ∀ x,Us P.mem x->(if x = n then a.cnt else b x) = b x:=fun x hx=>if_neg (fun e=>n1 (by rw [<- e]; exact hx))
  have hus : ∀ x,Us M1 x->x≠n->Us P.mem x:=fun x hx e=>by
   simp only [Us] at hx ⊢;rw [n4,if_neg e] at hx; exact hx
  refine ⟨fun x=>if x = n then a.cnt else b x,Stp.of hup (by unfold astep; simp only [hnx]; rw [if_pos (by rw [hw.kind]; exact hk1)]) ?_⟩;rw [setMW_to P ht];refine ⟨h.ck,by rw [if_neg (fun e=>h0 e.symm)]; exact h.b0,by rw [if_neg (fun e=>h1 e.symm)]; exact h.b1,?_,?_,?_,?_,?_⟩
  ·intro x hx;show (if x = n then a.cnt else b x) < a.cnt + 1;split
   ·omega
   ·next e=>have:=h.lt x (hus x hx e); omega
  ·intro x y hx hy e;by_cases ex : x = n
   ·by_cases ey : y = n
    ·rw [ex,ey]
    ·simp only [if_pos ex,if_neg ey] at e
     have:=h.lt y (hus y hy ey); omega
   ·by_cases ey : y = n
    ·simp only [if_neg ex,if_pos ey] at e
     have:=h.lt x (hus x hx ex); omega
    ·simp only [if_neg ex,if_neg ey] at e;exact h.inj x y (hus x hx ex) (hus y hy ey) e
  ·intro x hx;show Seen (fun x=>if x = n then a.cnt else b x) (if (if x = n then a.cnt else b x) = a.cnt then ⟨ak.key,ak.value,false,ak.ahead,-1⟩ else a.nd (if x = n then a.cnt else b x)) M1 x;by_cases ex : x = n
   ·rw [if_pos ex,if_pos rfl];unfold Seen;simp only [Ky,Ho,Ld];rw [n4,if_pos ex];refine ⟨hw.key,hw.value,rfl,rfl,fun _=>?_⟩;show ak.ahead = if t.work.ahead = n then a.cnt else b t.work.ahead
    rw [hold _ hua]; exact hah
   ·have hxu:=hus x hx ex;have hlt:=h.lt x hxu;rw [if_neg ex,if_neg (by omega)];obtain ⟨s1,s2,s3,s4,s5⟩:=h.nd x hxu;unfold Seen;simp only [Ky,Ho,Ld] at *;rw [n4,if_neg ex];refine ⟨s1,s2,s3,s4,fun e1=>?_⟩;rw [s5 e1];exact (hold _ (hI.ldUs hxu e1)).symm
  ·intro j u hj hup';have hj' : (P.ts.set i { t with work:={ ({ t.work with made:=[n],tsrc:=t.work.stand,tside:=false } : PWork) with next:=8 } })[j]? = some u:=hj;rw [List.getElem?_set] at hj';by_cases e : i = j
   ·subst e;simp [hi] at hj'; subst hj';refine ⟨{ ak with made:=[a.cnt],next:=8 },by simp [ASt.put],⟨hw.kind,hw.key,hw.value,rfl,hw.locks,hw.ans,fun _ _=>?_,fun _ _=>?_,fun _ _=>⟨n,rfl,by simp⟩⟩⟩
    ·show ak.stand = if t.work.stand = n then a.cnt else b t.work.stand
     rw [hold _ (hT.xs hu.1 (by omega) (by omega) (by omega)).2.1.1]; exact hst
    ·show ak.ahead = if t.work.ahead = n then a.cnt else b t.work.ahead
     rw [hold _ hua]; exact hah
   ·rw [if_neg e] at hj';obtain ⟨ak2,q1,q2⟩:=h.up j u hj' hup';refine ⟨ak2,?_,hI.rename hj' hup' q2 hold⟩;show (if j = i then _ else a.th j) = _;rw [if_neg (fun q=>e q.symm)]; exact q1
  ·intro j u hj hup';have hj' : (P.ts.set i { t with work:={ ({ t.work with made:=[n],tsrc:=t.work.stand,tside:=false } : PWork) with next:=8 } })[j]? = some u:=hj;rw [List.getElem?_set] at hj';by_cases e : i = j
   ·subst e;simp [hi] at hj'; subst hj';exact absurd ⟨hu.1,hu.2⟩ hup'
   ·rw [if_neg e] at hj';show (if j = i then _ else a.th j) = _;rw [if_neg (fun q=>e q.symm)]; exact h.no j u hj' hup'
 ·have hk2 : t.work.kind = 2:=by omega
  simp only [if_neg hk1] at hup;have hp2 : P.prepareRemove t.work = (P.mem.pend t.work.stand (P.mem.sideFor t.work.stand t.work.key) (P.leadsFrom t.work.ahead t.work.key),{ t.work with tsrc:=t.work.stand,tside:=P.mem.sideFor t.work.stand t.work.key }):=by
   unfold PSt.prepareRemove; simp only [if_pos hI.kind]
  rw [hp2] at hup;refine ⟨b,Stp.of hup (by unfold astep; simp only [hnx]; rw [if_neg (by rw [hw.kind]; exact hk1)]) ?_⟩;rw [setMW_to P ht];refine h.still ht (fun x=>node_ns (pend_ns _ _ _ _) x) ⟨hu.1,hu.2⟩ ⟨hw.kind,hw.key,hw.value,rfl,hw.locks,hw.ans,fun _ _=>hst,fun _ _=>hah,fun q=>absurd q hk1⟩
theorem Abs.s8 (h : Abs b a P) (hI : Inv C P) (ht : P.ts[i]? = some t) (hu : Upd t) (hw : RW b t.work ak) (hn : t.work.next = 8) (hl : ¬ P.limit<=P.clock) : Stp b a ak P i t:=by
 have hnx:=hw.next
 rw [hn] at hnx;have hT:=hI.th i t ht;have hk:=hu.2;have hst:=hw.stand (by omega) (by omega);have hah:=hw.ahead (by omega) (by omega);have hua:=(hT.cs hu.1 (by omega) (by omega)).2.1.1;obtain ⟨y1,y2,_⟩:=h.seenUs hua hah;have hup : P.step i t = (P.take i t.work,1):=by rw [step_upd hu (by omega) (by omega)]; unfold PSt.update; simp only [hn]
 unfold PSt.take at hup;rw [if_neg hl] at hup;simp only at hup;by_cases hk2 : t.work.kind = 2
 ·rw [if_pos hk2] at hup;refine Stp.of hup (by unfold astep; simp only [hnx]; rw [if_pos (by rw [hw.kind]; exact hk2)]) ?_;rw [setW_to { P with clock:=P.clock + 1 } (t:=t) ht];refine h.put (M':=P.mem) (c':=P.clock + 1) ht (by show a.clock + 1 = _; rw [h.ck]) rfl rfl (fun _=>Iff.rfl) (fun x hx=>h.nd x hx) ⟨hu.1,hu.2⟩ ⟨hw.kind,hw.key,hw.value,rfl,hw.locks,?_,fun _ _=>hst,fun _ _=>hah,fun q=>absurd (show t.work.kind = 1 from q) (by omega)⟩;show ({ did:=true,stamp:=a.clock + 1,value:=(a.nd ak.ahead).val } : BAns) = { did:=true,stamp:=P.clock + 1,value:=(P.mem.node t.work.ahead).value };rw [h.ck,y2]
 ·rw [if_neg hk2] at hup;refine Stp.of hup (by unfold astep; simp only [hnx]; rw [if_neg (by rw [hw.kind]; exact hk2)]) ?_;rw [setMW_to { P with clock:=P.clock + 1 } (t:=t) ht];have hnd:=node_ns (stampsNew_ns (P.clock + 1) t.work.made P.mem);refine h.put (M':=P.mem.stampsNew (P.clock + 1) t.work.made) (c':=P.clock + 1) ht (by show a.clock + 1 = _; rw [h.ck]) rfl rfl (fun x=>by simp only [Us]; rw [hnd]) (fun x hx=>by
   have:=h.nd x hx
   show Seen b (a.nd (b x)) _ x;unfold Seen at *;simp only [Ky,Ho,Ld] at *;rw [hnd]; exact this) ⟨hu.1,hu.2⟩ ⟨hw.kind,hw.key,hw.value,rfl,hw.locks,by show ({ did:=true,stamp:=a.clock + 1 } : BAns) = { did:=true,stamp:=P.clock + 1 }; rw [h.ck],fun _ _=>hst,fun _ _=>hah,fun q _=>?_⟩
  exact hw.made q (.inl hn)
theorem Abs.s9 (h : Abs b a P) (hI : Inv C P) (ht : P.ts[i]? = some t) (hu : Upd t) (hw : RW b t.work ak) (hn : t.work.next = 9) : Stp b a ak P i t:=by
 have hnx:=hw.next
 rw [hn] at hnx;have hT:=hI.th i t ht;have hk:=hu.2;have hk2:=hT.n9 hu.1 hn;have hst:=hw.stand (by omega) (by omega);have hah:=hw.ahead (by omega) (by omega);have hua:=(hT.cs hu.1 (by omega) (by omega)).2.1.1;have hup : P.step i t = ((P.setM (P.mem.kills (P.takenOut t.work))).setW i { t.work with next:=10 },1):=by rw [step_upd hu (by omega) (by omega)]; unfold PSt.update; simp only [hn]
 have hto : P.mem.kills (P.takenOut t.work) = P.mem.modN t.work.ahead fun x=>{ x with dead:=true }:=by
  unfold PSt.takenOut;rw [if_neg (by rw [hI.kind]; decide)]; rfl
 rw [hto] at hup;refine Stp.of hup (by unfold astep; simp only [hnx]; rfl) ?_;rw [setMW_to P ht,hah];have g:=node_modN (hasN_used hua) (fun x=>{ x with dead:=true });refine h.mods ht hua (fun x hx=>by rw [g,if_neg hx]) (by rw [g,if_pos rfl]; exact hua) ?_ ⟨hu.1,hu.2⟩ ⟨hw.kind,hw.key,hw.value,rfl,hw.locks,hw.ans,fun _ _=>hst,fun _ _=>rfl,fun q=>absurd (show t.work.kind = 1 from q) (by omega)⟩;unfold Seen;simp only [Ky,Ho,Ld];rw [g,if_pos rfl];obtain ⟨z1,z2,z3,z4,z5⟩:=h.nd _ hua;exact ⟨z1,z2,rfl,z4,z5⟩
theorem Abs.s10 (h : Abs b a P) (hI : Inv C P) (ht : P.ts[i]? = some t) (hu : Upd t) (hw : RW b t.work ak) (hn : t.work.next = 10) : Stp b a ak P i t:=by
 have hnx:=hw.next
 rw [hn] at hnx;have hT:=hI.th i t ht;have hk:=hu.2;have hst:=hw.stand (by omega) (by omega);have hah:=hw.ahead (by omega) (by omega);have hua:=(hT.cs hu.1 (by omega) (by omega)).2.1.1;have hus:=(hT.xs hu.1 (by omega) (by omega) (by omega)).2.1.1;have hup : P.step i t = ((P.setM (P.mem.lead t.work.tsrc t.work.tside)).setW i { t.work with next:=11 },1):=by rw [step_upd hu (by omega) (by omega)]; unfold PSt.update; simp only [hn]
 have key : ∃ d,Pd P.mem t.work.stand = [d]/\(if ak.kind = 1 then ak.made.headD 0 else (a.nd ak.ahead).lead) = b d:=by
  by_cases hk1 : t.work.kind = 1
  ·obtain ⟨n,f1,_,_,_,_,_,_,_,_,f10,_⟩:=hT.f8 hu.1 hk1 (.inr hn);obtain ⟨m,m1,m2⟩:=hw.made hk1 (.inr hn);have e : m = n:=by rw [f1] at m1; simpa using m1.symm
   refine ⟨n,f10,?_⟩;rw [if_pos (by rw [hw.kind]; exact hk1),m2,e]; rfl
  ·have hk2 : t.work.kind = 2:=by omega
   obtain ⟨p1,_⟩:=hT.p2 hu.1 hk2 (by omega) (by omega);refine ⟨_,p1,?_⟩;rw [if_neg (by rw [hw.kind]; exact hk1)];refine (h.seenUs hua hah).2.2.2.2 ?_;intro e
   have:=hT.d10 hu.1 hk2 hn
   rw [e] at this;simp only [De] at this;rw [hI.n.a1.2.2.2.1] at this; cases this
 obtain ⟨d,d1,d2⟩:=key;obtain ⟨M1,l1,_,_,l4,l5⟩:=hI.linkMem ht hu.1 hn d1;rw [l1] at hup;refine Stp.of hup (by unfold astep; simp only [hnx]; rfl) ?_;rw [d2,hst];refine h.mods ht hus (fun x hx=>l4 x hx) (by rw [l5]; exact hus) ?_ ⟨hu.1,hu.2⟩ ⟨hw.kind,hw.key,hw.value,rfl,hw.locks,hw.ans,fun _ _=>rfl,fun _ _=>hah,fun _ q=>?_⟩
 ·unfold Seen;simp only [Ky,Ho,Ld];rw [l5];obtain ⟨z1,z2,z3,z4,z5⟩:=h.nd _ hus;exact ⟨z1,z2,z3,z4,fun _=>by simp [upd]⟩
 ·exact absurd (show 11 = 8\/11 = 10 from q) (by decide)
theorem Abs.s11 (h : Abs b a P) (ht : P.ts[i]? = some t) (hu : Upd t) (hw : RW b t.work ak) (hn : t.work.next = 11) : Stp b a ak P i t:=by
 have hnx:=hw.next
 rw [hn] at hnx;have hst:=hw.stand (by omega) (by omega);have hah:=hw.ahead (by omega) (by omega);have hup : P.step i t = ((P.setM (P.mem.stamp t.work.tsrc t.work.tside t.work.ans.stamp)).setW i { t.work with next:=12 },1):=by rw [step_upd hu (by omega) (by omega)]; unfold PSt.update; simp only [hn]
 refine Stp.of hup (by unfold astep; simp only [hnx]; rfl) ?_;rw [setMW_to P ht];refine h.still ht (fun x=>node_ns (stamp_ns _ _ _ _) x) ⟨hu.1,hu.2⟩ ⟨hw.kind,hw.key,hw.value,rfl,hw.locks,hw.ans,fun _ _=>hst,fun _ _=>hah,fun _ q=>?_⟩;exact absurd (show 12 = 8\/12 = 10 from q) (by decide)
theorem Abs.s12 (h : Abs b a P) (hI : Inv C P) (ht : P.ts[i]? = some t) (hu : Upd t) (hw : RW b t.work ak) (hn : t.work.next = 12) : Stp b a ak P i t:=by
 have hnx:=hw.next
 rw [hn] at hnx;have hT:=hI.th i t ht;have hup : P.step i t = (P.unlock i t.work,1):=by rw [step_upd hu (by omega) (by omega)]; unfold PSt.update; simp only [hn]
 unfold PSt.unlock at hup;simp only at hup;refine Stp.of hup (by unfold astep; simp only [hnx]; rfl) ?_;rw [setMW_to P ht];have huh:=(unlock_hold P.mem i).to;have hval : ∀ x,((P.mem.unlock i).node x).value = (P.mem.node x).value:=fun x=>by obtain ⟨g,hg⟩:=unlock_hold P.mem i x; rw [hg]
 have hto : (P.mem.unlock i).retires P.clock (P.takenOut t.work) = (P.mem.unlock i).modN t.work.ahead fun x=>{ x with retired:=true,retiredAt:=P.clock }:=by
  unfold PSt.takenOut;rw [if_neg (by rw [hI.kind]; decide)]; rfl
 have hua:=(hT.cs hu.1 (by omega) (by omega)).2.1.1;have hua' : ((P.mem.unlock i).node t.work.ahead).used = true:=by rw [(huh _).1]; exact hua
 have g:=node_modN (hasN_used hua') (fun x=>{ x with retired:=true,retiredAt:=P.clock });have hM : ∀ M1,M1 = (if t.work.kind = 2/\t.work.ans.did = true then (P.mem.unlock i).retires P.clock (P.takenOut t.work) else P.mem.unlock i)->∀ x,(M1.node x).used = (P.mem.node x).used/\(M1.node x).key = (P.mem.node x).key/\(M1.node x).value = (P.mem.node x).value/\(M1.node x).dead = (P.mem.node x).dead/\(M1.node x).leads = (P.mem.node x).leads/\(M1.node x).holder = ((P.mem.unlock i).node x).holder:=by
  rintro M1 rfl x;obtain ⟨u1,u2,u3,u4,u5,u6,u7⟩:=huh x;split
  ·rw [hto,g];by_cases e : x = t.work.ahead
   ·subst e; rw [if_pos rfl]; exact ⟨u1,u5,hval _,u2,u6,rfl⟩
   ·rw [if_neg e]; exact ⟨u1,u5,hval _,u2,u6,rfl⟩
  ·exact ⟨u1,u5,hval _,u2,u6,rfl⟩
 have hM:=hM _ rfl;refine h.unlocks ht (fun x hx=>?_) (fun x hx=>?_) ⟨hu.1,hu.2⟩ ⟨hw.kind,hw.key,hw.value,rfl,rfl,hw.ans,fun _ q=>absurd (show 13<=12 from q) (by decide),fun _ q=>absurd (show 13<=12 from q) (by decide),fun _ q=>?_⟩
 ·obtain ⟨m1,m2,m3,m4,m5,m6⟩:=hM x;refine ⟨by rw [m1]; exact hx,m2,m3,m4,m5,?_⟩;simp only [Ho] at *;rw [m6];exact unlock_ho P.mem i x hx
 ·simp only [Us] at hx ⊢;rw [(hM x).1] at hx; exact hx
 ·exact absurd (show 13 = 8\/13 = 10 from q) (by decide)
end
end
section
def Passed (M : PMem) (C : Int->Prop) (x p : Int) : Prop:=p = 0\/(x≠0/\Gd M C p/\Ky M p<=Ky M x)
open Classical in
noncomputable def wp (L : Nat) (M : PMem) (C : Int->Prop) (x : Int) : Nat:=((List.range L).filter (fun p=>decide (¬ Passed M C x ((p : Nat) : Int)))).length
open Classical in
noncomputable def stale (M : PMem) (C : Int->Prop) (k : PWork) : Nat:=if C k.stand/\(k.next = 4\/Ld M k.stand = k.ahead) then 0 else 1
def unl (t : PThread) : Bool:=t.busy && (decide (t.work.kind = 1\/t.work.kind = 2) && decide (t.work.next<=10))
def rx (k : PWork) : Int:=if k.kind = 3 then k.stand else match k.links with
 | p :: _=>p.1
 | []=>0
noncomputable def phi (L : Nat) (M : PMem) (C : Int->Prop) (u : Nat) (t : PThread) : Nat :=
 if t.busy = false then 0
 else if t.work.kind = 3\/t.work.kind = 4 then (if t.work.next = 13 then 1 else if t.work.next = 4 then 2 + wp L M C (rx t.work) else L + 7 - t.work.next)
 else if 7<=t.work.next then 14 - t.work.next
 else (if t.work.next = 6 then 9 else if t.work.next = 5 then 11 - t.work.locks else if t.work.next = 4 then 11 + wp L M C t.work.stand else L + 15 - t.work.next) + (u + (if 4<=t.work.next then stale M C t.work else 0)) * (L + 2)
noncomputable def Phi (L : Nat) (C : Int->Prop) (P : PSt) : Nat:=(P.ts.map (phi L P.mem C (count unl P.ts))).sum
theorem filt_le {α : Type} (p q : α->Bool) : ∀ (l : List α),(∀ a ∈ l,q a = true->p a = true)->(l.filter q).length<=(l.filter p).length
 | [],_=>by simp
 | a :: l,h=>by
  have ih:=filt_le p q l (fun b hb=>h b (by simp [hb]));have ha:=h a (by simp);rw [List.filter_cons,List.filter_cons];by_cases hq : q a = true
  ·rw [if_pos hq,if_pos (ha hq)]; simpa using ih
  ·rw [if_neg hq];split
   ·simp; omega
   ·exact ih
theorem filt_lt {α : Type} (p q : α->Bool) : ∀ (l : List α),(∀ a ∈ l,q a = true->p a = true)->(∃ a ∈ l,p a = true/\q a = false)->(l.filter q).length < (l.filter p).length
 | [],_,h=>by obtain ⟨a,ha,_⟩:=h; cases ha
 | a :: l,h,hx=>by
  have hle:=filt_le p q l (fun b hb=>h b (by simp [hb]));have ha:=h a (by simp);rw [List.filter_cons,List.filter_cons];obtain ⟨b,hb,h1,h2⟩:=hx;rcases List.mem_cons.1 hb with rfl | hb
  ·rw [if_pos h1,if_neg (by rw [h2]; decide)]; simp; omega
  ·have ih:=filt_lt p q l (fun c hc=>h c (by simp [hc])) ⟨b,hb,h1,h2⟩;by_cases hq : q a = true
   ·rw [if_pos hq,if_pos (ha hq)]; simpa using ih
   ·rw [if_neg hq];split
    ·simp; omega
    ·exact ih
section
variable {C C' : Int->Prop} {M M' M2 : PMem} {c c' : Int} {r r' : PSweep} {i j : Nat} {t t' u : PThread} {ts : List PThread} {P : PSt} {x d : Int} {k : PWork} {L : Nat}
open Classical in
theorem wp_mono (h : ∀ p,Passed M C x p->Passed M' C' x p) : wp L M' C' x<=wp L M C x:=by
 refine filt_le _ _ _ ?_;intro a _ hq;simp only [decide_eq_true_eq] at hq ⊢;exact fun hp=>hq (h _ hp)
open Classical in
theorem wp_le (hL : 1<=L) (M : PMem) (C : Int->Prop) (x : Int) : wp L M C x + 1<=L:=by
 have h:=filt_lt (fun _ : Nat=>true) (fun p=>decide (¬ Passed M C x ((p : Nat) : Int))) (List.range L) (fun _ _ _=>rfl) ⟨0,by simp; omega,rfl,by simp; exact .inl rfl⟩;rw [List.filter_eq_self.2 (fun _ _=>rfl),List.length_range] at h;exact h
open Classical in
theorem Inv.wp_pos (h : Inv C P) (hL : 2<=L) (x : Int) : 1<=wp L P.mem C x:=by
 unfold wp;apply List.length_pos_of_mem (a:=1);rw [List.mem_filter];refine ⟨by simp; omega,?_⟩;simp only [decide_eq_true_eq];rintro (q | ⟨_,q,_⟩)
 ·have : ((1 : Nat) : Int) = 0:=q; omega
 ·exact (h.gdLinks q).2 rfl
open Classical in
theorem Inv.wp_lt (h : Inv C P) (hL : P.mem.ns.length = L) (hd : Gd P.mem C d) (h0 : d≠0) (hlt : Lt P.mem x d) : wp L P.mem C d < wp L P.mem C x:=by
 have hu:=h.gdUs (.inr hd);obtain ⟨k,e,rfl,hk,_⟩:=node_at (hasN_used hu);have hkl:=(List.getElem?_eq_some_iff.1 hk).1;refine filt_lt _ _ _ ?_ ⟨k,by simp; omega,?_,?_⟩
 ·intro p _ hq;simp only [decide_eq_true_eq] at hq ⊢;rintro (q | ⟨q1,q2,q3⟩)
  ·exact hq (.inl q)
  ·refine hq (.inr ⟨h0,q2,?_⟩)
   have:=hlt.resolve_left q1
   omega
 ·simp only [decide_eq_true_eq];rintro (q | ⟨q1,q2,q3⟩)
  ·exact h0 q
  ·have:=hlt.resolve_left q1
   omega
 ·simp only [decide_eq_false_iff_not,Classical.not_not];exact .inr ⟨h0,hd,Int.le_refl _⟩
theorem stale_le (M : PMem) (C : Int->Prop) (k : PWork) : stale M C k<=1:=by unfold stale; split <;> omega
theorem stale_zero (h : C k.stand/\(k.next = 4\/Ld M k.stand = k.ahead)) : stale M C k = 0:=by unfold stale; rw [if_pos h]
theorem sum_set (f g : PThread->Nat) : ∀ (ts : List PThread) (i : Nat) (t t' : PThread),ts[i]? = some t->(∀ j u,j≠i->ts[j]? = some u->g u<=f u)->g t' < f t->((ts.set i t').map g).sum < (ts.map f).sum
 | [],i,t,t',h,_,_=>by simp at h
 | a :: l,0,t,t',h,ho,hi=>by
  simp at h; subst h;have hl : (l.map g).sum<=(l.map f).sum:=by
   have : ∀ (m : List PThread),(∀ u ∈ m,g u<=f u)->(m.map g).sum<=(m.map f).sum:=by
    intro m
    induction m with
    | nil=>simp
    | cons b m ih =>
     intro hm;have h1:=hm b (by simp);have h2:=ih (fun u hu=>hm u (by simp [hu]));simp only [List.map_cons,List.sum_cons]; omega
   apply this;intro u hu;obtain ⟨j,hj⟩:=List.mem_iff_getElem?.1 hu;exact ho (j + 1) u (by omega) (by simpa using hj)
  simp only [List.set_cons_zero,List.map_cons,List.sum_cons]; omega
 | a :: l,i + 1,t,t',h,ho,hi=>by
  have ih:=sum_set f g l i t t' (by simpa using h) (fun j u hj hu=>ho (j + 1) u (by omega) (by simpa using hu)) hi;have h0:=ho 0 a (by omega) rfl;simp only [List.set_cons_succ,List.map_cons,List.sum_cons]; omega
theorem count_set_le (p : PThread->Bool) : ∀ {ts : List PThread} {i : Nat} {t t' : PThread},ts[i]? = some t->(p t' = true->p t = true)->count p (ts.set i t')<=count p ts
 | [],i,t,t',h=>by simp at h
 | a :: l,0,t,t',h=>by
  intro hp;simp at h; subst h;unfold count;rw [List.set_cons_zero,List.filter_cons,List.filter_cons];by_cases hq : p t' = true
  ·rw [if_pos hq,if_pos (hp hq)]; simp
  ·rw [if_neg hq]; split <;> simp
 | a :: l,i + 1,t,t',h=>by
  intro hp;have ih:=count_set_le p (ts:=l) (i:=i) (t:=t) (t':=t') (by simpa using h) hp;unfold count at *;rw [List.set_cons_succ,List.filter_cons,List.filter_cons];split <;> simp <;> omega
theorem Th.phi_le (h : Inv C P) (hj : P.ts[j]? = some u) {n n' : Nat}
  (hk : ∀ x,x = 1\/Gd P.mem C x->Nk P.mem M' x/\(Gd P.mem C x->Gd M' C' x))
  (hs : n' + 1<=n\/(n'<=n/\C' = C/\∀ x,Gd P.mem C x->Ld M' x = Ld P.mem x)) : phi L M' C' n' u<=phi L P.mem C n u:=by
 have hU:=h.th j u hj;have hwp : ∀ x,Gd P.mem C x->wp L M' C' x<=wp L P.mem C x:=by
  intro x hx;refine wp_mono ?_;rintro p (q | ⟨q1,q2,q3⟩)
  ·exact .inl q
  ·obtain ⟨⟨z1,_⟩,z2⟩:=hk p (.inr q2);obtain ⟨⟨y1,_⟩,_⟩:=hk x (.inr hx);exact .inr ⟨q1,z2 q2,by rw [z1.1,y1.1]; exact q3⟩
 unfold phi;by_cases hb : u.busy = false
 ·rw [if_pos hb,if_pos hb]; exact Nat.le_refl _
 ·rw [if_neg hb,if_neg hb];have b : u.busy = true:=by simpa using hb
  by_cases hr : u.work.kind = 3\/u.work.kind = 4
  ·rw [if_pos hr,if_pos hr];by_cases h13 : u.work.next = 13
   ·rw [if_pos h13,if_pos h13]; exact Nat.le_refl _
   ·rw [if_neg h13,if_neg h13];by_cases h4 : u.work.next = 4
    ·rw [if_pos h4,if_pos h4];have hg : Gd P.mem C (rx u.work):=by
      unfold rx;rcases hr with hr | hr
      ·rw [if_pos hr]; exact (hU.xs b (by omega) (by omega) (by omega)).1
      ·rw [if_neg (by omega)];obtain ⟨x,e,g,_⟩:=hU.xl b hr h4;rw [e]; exact g
     have:=hwp _ hg
     omega
    ·rw [if_neg h4,if_neg h4]; exact Nat.le_refl _
  ·rw [if_neg hr,if_neg hr];by_cases h7 : 7<=u.work.next
   ·rw [if_pos h7,if_pos h7]; exact Nat.le_refl _
   ·rw [if_neg h7,if_neg h7];have hkd:=hU.kd b;have hg : 4<=u.work.next->Gd P.mem C u.work.stand:=fun h4=>(hU.xs b (by omega) h4 (by omega)).1
    have h1 : (if u.work.next = 6 then 9 else if u.work.next = 5 then 11 - u.work.locks else if u.work.next = 4 then 11 + wp L M' C' u.work.stand else L + 15 - u.work.next)<=(if u.work.next = 6 then 9 else if u.work.next = 5 then 11 - u.work.locks else if u.work.next = 4 then 11 + wp L P.mem C u.work.stand else L + 15 - u.work.next):=by
     by_cases h6 : u.work.next = 6
     ·rw [if_pos h6,if_pos h6]; exact Nat.le_refl _
     ·rw [if_neg h6,if_neg h6];by_cases h5 : u.work.next = 5
      ·rw [if_pos h5,if_pos h5]; exact Nat.le_refl _
      ·rw [if_neg h5,if_neg h5];by_cases h4 : u.work.next = 4
       ·rw [if_pos h4,if_pos h4]
        have:=hwp _ (hg (by omega)); omega
       ·rw [if_neg h4,if_neg h4]; exact Nat.le_refl _
    have h2 : n' + (if 4<=u.work.next then stale M' C' u.work else 0)<=n + (if 4<=u.work.next then stale P.mem C u.work else 0):=by
     by_cases h4 : 4<=u.work.next
     ·rw [if_pos h4,if_pos h4];rcases hs with hs | ⟨hs1,hs2,hs3⟩
      ·have:=stale_le M' C' u.work; omega
      ·subst hs2;have hst : stale M' C' u.work<=stale P.mem C' u.work:=by
        unfold stale;rw [hs3 _ (hg h4)];exact Nat.le_refl _
       omega
     ·rw [if_neg h4,if_neg h4];omega
    have h3:=Nat.mul_le_mul_right (L + 2) h2;omega
end
end
end Go.Proofs.YtfccelbmacjifabGreat
