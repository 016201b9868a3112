import Derived.Test.YtfccelbmacjifabGreatP0
import Derived.Test.YtfccelbmacjifabGreatP24
set_option linter.unusedSimpArgs false
set_option maxRecDepth 100000
set_option maxHeartbeats 4000000
namespace Go.Proofs.YtfccelbmacjifabGreat
section
namespace T
inductive Out (g : Gh) (P : PSt) (i : Nat) (t : PThread) : PSt->Int->Prop
 | come1 (hn : t.work.next = 1) : Out g P i t { P with ts:=P.ts.set i { t with slot:=1,work:={ t.work with next:=2 } } } 1
 | come2 (hn : t.work.next = 2) : Out g P i t { P with ts:=P.ts.set i { t with work:={ t.work with time:=P.clock,next:=3 } } } 1
 | come3 (hn : t.work.next = 3) : Out g P i t { P with ts:=P.ts.set i { t with slot:=2,work:=t.work.home } } 1
 | leave (hn : t.work.next = 13) : Out g P i t { P with ts:=P.ts.set i t.leave } 3
 | rwait (hn : t.work.next = 4) (hk : t.work.kind = 3\/t.work.kind = 4) (hp : Pd P.mem (P.linkNext t.work).1 (P.linkNext t.work).2≠[]) : Out g P i t P 2
 | rgo (hn : t.work.next = 4) (hk : t.work.kind = 3\/t.work.kind = 4) (hp : Pd P.mem (P.linkNext t.work).1 (P.linkNext t.work).2 = []) (k : PWork)
   (ek : k = if t.work.kind = 3 then P.lookUp t.work (P.mem.ledTo (P.linkNext t.work).1 (P.linkNext t.work).2 t.work.time) else P.scan t.work (P.mem.ledTo (P.linkNext t.work).1 (P.linkNext t.work).2 t.work.time))
   (hs : k.kind = t.work.kind/\(k.next = 4\/k.next = 13)/\k.time = t.work.time/\k.key = t.work.key/\k.value = t.work.value/\k.spans = t.work.spans/\k.locks = t.work.locks/\k.made = t.work.made) : Out g P i t { P with ts:=P.ts.set i { t with work:=k } } 1
 | walkOn (hn : t.work.next = 4) (hk : t.work.kind = 1\/t.work.kind = 2) (hl : Ln P.mem (Ld P.mem t.work.stand (sd P.mem t.work.stand t.work.key)) = 2) : Out g P i t { P with ts:=P.ts.set i { t with work:={ t.work with above:=t.work.stand,stand:=Ld P.mem t.work.stand (sd P.mem t.work.stand t.work.key) } } } 1
 | walkEnd (hn : t.work.next = 4) (hk : t.work.kind = 1\/t.work.kind = 2) (hl : Ln P.mem (Ld P.mem t.work.stand (sd P.mem t.work.stand t.work.key))≠2) : Out g P i t { P with ts:=P.ts.set i { t with work:={ t.work with ahead:=Ld P.mem t.work.stand (sd P.mem t.work.stand t.work.key),next:=5 } } } 1
 | lwait (hn : t.work.next = 5) (hk : t.work.kind = 1\/t.work.kind = 2) (hh : Ho P.mem (lockNext P.mem t.work)≠-1) : Out g P i t P 2
 | lock (hn : t.work.next = 5) (hk : t.work.kind = 1\/t.work.kind = 2) (hh : Ho P.mem (lockNext P.mem t.work) = -1) (nn : Nat) (hnn : nn = if (hl P.mem t.work).length<=t.work.locks + 1 then 6 else 5) (hn56 : nn = 5\/nn = 6) : Out g P i t { P with mem:=P.mem.modN (lockNext P.mem t.work) fun x=>{ x with holder:=i },ts:=P.ts.set i { t with work:={ t.work with locks:=t.work.locks + 1,next:=nn } } } 1
 | home (hn : t.work.next = 6) (hk : t.work.kind = 1\/t.work.kind = 2) (ho : P.outdated t.work = true) : Out g P i t { P with mem:=P.mem.unlock i,ts:=P.ts.set i { t with work:=({ t.work with locks:=0 } : PWork).home } } 1
 | same (hn : t.work.next = 6) (hk : t.work.kind = 1\/t.work.kind = 2) (ho : ¬ P.outdated t.work = true) (hm : Ky P.mem t.work.ahead = t.work.key ↔ t.work.kind = 1) : Out g P i t { P with ts:=P.ts.set i { t with work:=t.work.settle { stamp:=P.clock } } } 1
 | right (hn : t.work.next = 6) (hk : t.work.kind = 1\/t.work.kind = 2) (ho : ¬ P.outdated t.work = true) (hm : Ky P.mem t.work.ahead = t.work.key ↔ t.work.kind = 2) : Out g P i t { P with ts:=P.ts.set i { t with work:={ t.work with next:=7 } } } 1
 | full (hn : t.work.next = 7) (hk : t.work.kind = 1\/t.work.kind = 2) (hr : P.mem.room.1 < (P.needs t.work.kind).1\/P.mem.room.2 < (P.needs t.work.kind).2) : Out g P i t { P with ts:=P.ts.set i { t with work:=t.work.settle { err:=7 } } } 1
 | prepI (hn : t.work.next = 7) (hk : t.work.kind = 1) (hr1 : 2<=P.mem.room.1) (hr2 : 3<=P.mem.room.2) (a n : Int) (M1 : PMem) (ep : P.prepareInsert t.work = (M1,{ t.work with made:=[a,n],tsrc:=t.work.stand,tside:=sd P.mem t.work.stand t.work.key })) (ua : ¬ Us P.mem a) (un : ¬ Us P.mem n) (ne : a≠n)
   (nd : ∀ x,x≠a->x≠n->M1.node x = P.mem.node x)
   (pd : ∀ x s,Pd M1 x s = if x = t.work.stand/\s = sd P.mem t.work.stand t.work.key then [n] else if x = n then [kid P.mem t.work a s] else Pd P.mem x s) (sdd : ∀ x s st d,Sd M1 x s st d ↔ Sd P.mem x s st d) (rm : M1.room.1 + 2 = P.mem.room.1/\M1.room.2 + 3 = P.mem.room.2) : Out g P i t { P with mem:=M1,ts:=P.ts.set i { t with work:={ t.work with made:=[a,n],tsrc:=t.work.stand,tside:=sd P.mem t.work.stand t.work.key,next:=8 } } } 1
 | prepR (hn : t.work.next = 7) (hk : t.work.kind = 2) (hr : 1<=P.mem.room.2) (M1 : PMem) (em : M1 = P.mem.pend t.work.above (sd P.mem t.work.above t.work.key) (Ld P.mem t.work.stand (!sd P.mem t.work.stand t.work.key))) (nd : ∀ x,M1.node x = P.mem.node x)
   (pd : ∀ x s,Pd M1 x s = if x = t.work.above/\s = sd P.mem t.work.above t.work.key then [Ld P.mem t.work.stand (!sd P.mem t.work.stand t.work.key)] else Pd P.mem x s) (sdd : ∀ x s st d,Sd M1 x s st d ↔ Sd P.mem x s st d) (rm : M1.room.1 = P.mem.room.1/\M1.room.2 + 1 = P.mem.room.2) : Out g P i t { P with mem:=M1,ts:=P.ts.set i { t with work:={ t.work with tsrc:=t.work.above,tside:=sd P.mem t.work.above t.work.key,next:=8 } } } 1
 | late (hn : t.work.next = 8) (hk : t.work.kind = 1\/t.work.kind = 2) (hl : P.limit<=P.clock) (M1 : PMem) (em : M1 = (P.mem.unpend t.work.tsrc t.work.tside).frees t.work.made) (nd : ∀ x,M1.node x = if Fr8 x t then PNode.zero else P.mem.node x)
   (pd : ∀ x s,Pd M1 x s = if (x = t.work.tsrc/\s = t.work.tside)\/Fr8 x t then [] else Pd P.mem x s) (sdd : ∀ x s st d,Sd M1 x s st d ↔ Sd P.mem x s st d) : Out g P i t { P with mem:=M1,ts:=P.ts.set i { t with work:=t.work.settle { err:=8 } } } 1
 | takeI (hn : t.work.next = 8) (hk : t.work.kind = 1) (hl : ¬ P.limit<=P.clock) (a n : Int) (q : New g P.mem P.clock t.work a n) (M1 : PMem) (em : M1 = P.mem.stampsNew (P.clock + 1) t.work.made) (nd : ∀ x,M1.node x = P.mem.node x)
   (pd : ∀ x s,Pd M1 x s = if x = n then [] else Pd P.mem x s) (sdd : ∀ x s st d,Sd M1 x s st d ↔ Sd P.mem x s st d\/(x = n/\st = P.clock + 1/\d = kid P.mem t.work a s)) : Out g P i t { P with mem:=M1,clock:=P.clock + 1,ts:=P.ts.set i { t with work:={ t.work with ans:={ did:=true,stamp:=P.clock + 1 },next:=10 } } } 1
 | takeR (hn : t.work.next = 8) (hk : t.work.kind = 2) (hl : ¬ P.limit<=P.clock) : Out g P i t { P with clock:=P.clock + 1,ts:=P.ts.set i { t with work:={ t.work with ans:={ did:=true,stamp:=P.clock + 1,value:=(P.mem.node t.work.ahead).value },next:=9 } } } 1
 | kill (hn : t.work.next = 9) (hk : t.work.kind = 2) (M1 : PMem) (em : M1 = P.mem.kills (P.takenOut t.work)) (es : M1.es = P.mem.es) : Out g P i t { P with mem:=M1,ts:=P.ts.set i { t with work:={ t.work with next:=10 } } } 1
 | link (hn : t.work.next = 10) (hk : t.work.kind = 1\/t.work.kind = 2) (M1 : PMem) (em : M1 = P.mem.lead t.work.tsrc t.work.tside) (es : M1.es = P.mem.es) : Out g P i t { P with mem:=M1,ts:=P.ts.set i { t with work:={ t.work with next:=11 } } } 1
 | stamp (hn : t.work.next = 11) (hk : t.work.kind = 1\/t.work.kind = 2) (d0 : Int) (hp : Pd P.mem t.work.tsrc t.work.tside = [d0]) (M1 : PMem) (em : M1 = P.mem.stamp t.work.tsrc t.work.tside t.work.ans.stamp) (nd : ∀ x,M1.node x = P.mem.node x)
   (pd : ∀ x s,Pd M1 x s = if x = t.work.tsrc/\s = t.work.tside then [] else Pd P.mem x s) (sdd : ∀ x s st d,Sd M1 x s st d ↔ Sd P.mem x s st d\/(x = t.work.tsrc/\s = t.work.tside/\st = t.work.ans.stamp/\d = d0)) : Out g P i t { P with mem:=M1,ts:=P.ts.set i { t with work:={ t.work with next:=12 } } } 1
 | unlock (hn : t.work.next = 12) (hk : t.work.kind = 1\/t.work.kind = 2) (M1 : PMem) (em : M1 = if t.work.kind = 2/\t.work.ans.did = true then (P.mem.unlock i).retires P.clock (P.takenOut t.work) else P.mem.unlock i) (es : M1.es = P.mem.es) : Out g P i t { P with mem:=M1,ts:=P.ts.set i { t with work:={ t.work with locks:=0,next:=13 } } } 1
section
variable {g g' : Gh} {M M' : PMem} {c c' T : Int} {r r' : PSweep} {i j : Nat} {t t' u : PThread} {ts ts' : List PThread} {P : PSt} {x d : Int} {s : Bool} {key : Int} {k : PWork}
theorem kills_es : ∀ (l : List Int) (M : PMem),(M.kills l).es = M.es
 | [],_=>rfl
 | n :: l,M=>by
  show ((M.kill n).kills l).es = _;rw [kills_es l]; exact modN_ents _ _ _
theorem retires_es (tm : Int) : ∀ (l : List Int) (M : PMem),(M.retires tm l).es = M.es
 | [],_=>rfl
 | n :: l,M=>by
  show ((M.retire n tm).retires tm l).es = _;rw [retires_es tm l]; exact modN_ents _ _ _
theorem Inv.out (h : Inv g P) (ht : P.ts[i]? = some t) (hb : t.busy = true) : ∃ P' n,P.step i t = (P',n)/\Out g P i t P' n:=by
 have hT:=h.th i t ht;have hnx:=hT.nx hb;have hkd:=hT.kd hb;have hrd:=hT.rd hb;rcases (show t.work.next = 1\/t.work.next = 2\/t.work.next = 3\/t.work.next = 13\/(4<=t.work.next/\t.work.next<=12) by omega) with hn | hn | hn | hn | hn
 ·exact ⟨_,_,by unfold PSt.step; simp only [hn]; rfl,.come1 hn⟩
 ·exact ⟨_,_,by unfold PSt.step; simp only [hn]; rfl,.come2 hn⟩
 ·exact ⟨_,_,by unfold PSt.step; simp only [hn]; rfl,.come3 hn⟩
 ·exact ⟨_,_,by unfold PSt.step; simp only [hn]; rfl,.leave hn⟩
 ·rw [step_mid P hn.1 hn.2];by_cases hk : t.work.kind = 3\/t.work.kind = 4
  ·rw [if_pos hk];have hn4 : t.work.next = 4:=by have:=hrd hk; omega
   unfold PSt.read;simp only;by_cases hp : P.mem.hasPending (P.linkNext t.work).1 (P.linkNext t.work).2 = true
   ·rw [if_pos hp]; exact ⟨_,_,rfl,.rwait hn4 hk (hasPd_iff.1 hp)⟩
   ·rw [if_neg hp];have hp' : Pd P.mem (P.linkNext t.work).1 (P.linkNext t.work).2 = []:=Classical.not_not.1 (fun q=>hp (hasPd_iff.2 q));refine ⟨_,_,by rw [setW_to P ht],.rgo hn4 hk hp' _ rfl ?_⟩;split
    ·unfold PSt.lookUp; split
     ·exact ⟨rfl,.inl hn4,rfl,rfl,rfl,rfl,rfl,rfl⟩
     ·exact ⟨rfl,.inr rfl,rfl,rfl,rfl,rfl,rfl,rfl⟩
    ·unfold PSt.scan; simp only; split
     ·exact ⟨rfl,.inr rfl,rfl,rfl,rfl,rfl,rfl,rfl⟩
     ·exact ⟨rfl,.inl hn4,rfl,rfl,rfl,rfl,rfl,rfl⟩
  ·rw [if_neg hk];have hk : t.work.kind = 1\/t.work.kind = 2:=by omega
   unfold PSt.update;rcases (show t.work.next = 4\/t.work.next = 5\/t.work.next = 6\/t.work.next = 7\/t.work.next = 8\/t.work.next = 9\/t.work.next = 10\/t.work.next = 11\/t.work.next = 12 by omega) with hn | hn | hn | hn | hn | hn | hn | hn | hn
   ·simp only [hn];have hld:=h.leads (hT.xs hb hk (by omega) (by omega)).1.sn t.work.key;have hp : P.isPassed (P.leadsFrom t.work.stand t.work.key) t.work.key = decide (Ln P.mem (Ld P.mem t.work.stand (sd P.mem t.work.stand t.work.key)) = 2):=by
     unfold PSt.isPassed;rw [if_pos h.kind,hld]; rfl
    unfold PSt.walk;rw [hp,hld];by_cases hd : Ln P.mem (Ld P.mem t.work.stand (sd P.mem t.work.stand t.work.key)) = 2
    ·rw [if_pos (by simpa using hd)]; exact ⟨_,_,by rw [setW_to P ht],.walkOn hn hk hd⟩
    ·rw [if_neg (by simpa using hd)]; exact ⟨_,_,by rw [setW_to P ht],.walkEnd hn hk hd⟩
   ·simp only [hn];rcases h.lock ht hb hn with ⟨q1,q,_⟩ | ⟨q1,q⟩
    ·rw [q];refine ⟨_,_,by rw [setMW_to P ht],.lock hn hk q1 _ rfl ?_⟩;split <;> omega
    ·rw [q]; exact ⟨_,_,rfl,.lwait hn hk q1⟩
   ·simp only [hn];unfold PSt.check;by_cases ho : P.outdated t.work = true
    ·rw [if_pos ho]; exact ⟨_,_,by rw [setMW_to P ht],.home hn hk ho⟩
    ·rw [if_neg ho];have hmk : P.meetsKey t.work = decide (Ky P.mem t.work.ahead = t.work.key):=by unfold PSt.meetsKey; rw [Bool.eq_iff_iff]; simp
     rw [hmk];by_cases hm : (decide (Ky P.mem t.work.ahead = t.work.key) == (t.work.kind == 1)) = true
     ·rw [if_pos hm];refine ⟨_,_,by rw [setW_to P ht],.same hn hk ho ?_⟩;rcases hk with e | e <;> rw [e] at hm ⊢ <;> by_cases q : Ky P.mem t.work.ahead = t.work.key <;> simp [q] at hm ⊢
     ·rw [if_neg hm];refine ⟨_,_,by rw [setW_to P ht],.right hn hk ho ?_⟩;rcases hk with e | e <;> rw [e] at hm ⊢ <;> by_cases q : Ky P.mem t.work.ahead = t.work.key <;> simp [q] at hm ⊢
   ·simp only [hn];unfold PSt.prepare;by_cases hr : P.mem.room.1 < (P.needs t.work.kind).1\/P.mem.room.2 < (P.needs t.work.kind).2
    ·rw [if_pos hr]; exact ⟨_,_,by rw [setW_to P ht],.full hn hk hr⟩
    ·rw [if_neg hr];rcases hk with hk | hk
     ·have hne : P.needs t.work.kind = (2,3):=by unfold PSt.needs; rw [hk,if_neg (by decide),if_pos h.kind]
      rw [hne] at hr;simp only at hr;obtain ⟨a,n,M1,q0,q1,q2,q3,q4,q5,q6,q7,q8,q9,q10⟩:=h.grownR ht hb hn hk (by omega) (by omega);simp only [hk,if_true];refine ⟨_,_,?_,.prepI hn hk (by omega) (by omega) a n M1 q0 q1 q2 q3 q5 q8 q9 q10⟩;rw [q0];simp only;rw [setMW_to P ht]
     ·have hne : P.needs t.work.kind = (0,1):=by unfold PSt.needs; rw [hk,if_pos rfl]
      rw [hne] at hr;simp only at hr;simp only [hk,show ¬ ((2 : Int) = 1) by decide,if_false];have m:=h.mine ht hb (by omega) (by omega);have hA:=m.ab (m.mt hk (.inl (by omega)));have hSt:=h.heldGd ht m.us m.hs;have hAb:=h.heldGd ht hA.1 hA.2.1;have hl1:=h.hasLink (s:=!sd P.mem t.work.stand t.work.key) hSt (fun e=>absurd e hA.2.2.1);have hl2:=h.hasLink (s:=sd P.mem t.work.above t.work.key) hAb (by intro e; rw [e]; exact sd0 h.n.n0.2.1 _);have hpr : P.prepareRemove t.work = (P.mem.pend t.work.above (sd P.mem t.work.above t.work.key) (Ld P.mem t.work.stand (!sd P.mem t.work.stand t.work.key)),{ t.work with tsrc:=t.work.above,tside:=sd P.mem t.work.above t.work.key }):=by
       unfold PSt.prepareRemove;simp only;rw [if_neg (show ¬ P.kind = 0 by rw [h.kind]; decide)];unfold PMem.leadsTo;unfold sd at hl1 ⊢;rw [hl1]; rfl
      have hr0 : 0 < P.mem.room.2:=by omega
      obtain ⟨e,he,hue⟩:=count_some (l:=P.mem.es) (p:=fun x=>!x.used) (by unfold PMem.room at hr0; simpa using hr0);have hp0:=h.noPend ht (by omega) hA.1 hA.2.1 (sd P.mem t.work.above t.work.key);obtain ⟨k5,g5,w0,w2,w3,w4⟩:=pend_e (to:=Ld P.mem t.work.stand (!sd P.mem t.work.stand t.work.key)) h.wm ⟨e,he,by simpa using hue⟩ hl2 hp0;have c5:=count_set_e (p:=fun x : PEntry=>!x.used) (y:=⟨true,true,t.work.above,sd P.mem t.work.above t.work.key,Ld P.mem t.work.stand (!sd P.mem t.work.stand t.work.key),0⟩) g5 rfl rfl;have e6 : P.mem.room.2 = (count (fun x : PEntry=>!x.used) P.mem.es : Nat):=rfl;refine ⟨_,_,?_,.prepR hn hk (by omega) _ rfl (fun x=>node_ns (by rw [w0]) x) w3 w4 ⟨by rw [w0]; rfl,?_⟩⟩
      case refine_2 =>
       rw [w0];show ((count (fun x : PEntry=>!x.used) (P.mem.es.set k5 _) : Nat) : Int) + 1 = _;omega
      rw [hpr];simp only;rw [setMW_to P ht,hk]
   ·simp only [hn];unfold PSt.take;by_cases hl : P.limit<=P.clock
    ·rw [if_pos hl];obtain ⟨M1,a,n,q1,_,_,_,q2,q3,q4⟩:=h.unprep ht hb hn;rw [q1];exact ⟨_,_,by rw [setMW_to P ht],.late hn hk hl M1 q1.symm q2 q3 q4⟩
    ·rw [if_neg hl];simp only;rcases hk with hk | hk
     ·rw [if_neg (by omega)];obtain ⟨a,n,q⟩:=hT.f8 hb hk hn;have hM : P.mem.stampsNew (P.clock + 1) t.work.made = P.mem.stampNew n (P.clock + 1):=by
       rw [q.md];show (P.mem.stampNew a (P.clock + 1)).stampNew n (P.clock + 1) = _;rw [stampNew_no q.pa]
      obtain ⟨w0,w1,w3,w4⟩:=stampNew_two h.wm q.pn (P.clock + 1);refine ⟨_,_,by rw [setMW_to _ (show ({ P with clock:=P.clock + 1 } : PSt).ts[i]? = some t from ht)],.takeI hn hk hl a n q _ rfl ?_ ?_ ?_⟩
      ·intro x; rw [hM]; exact node_ns w0 x
      ·intro x s; rw [hM]; exact w3 x s
      ·intro x s st d; rw [hM]; exact w4 x s st d
     ·rw [if_pos hk];exact ⟨_,_,by rw [setW_to _ (show ({ P with clock:=P.clock + 1 } : PSt).ts[i]? = some t from ht)],.takeR hn hk hl⟩
   ·simp only [hn];exact ⟨_,_,by rw [setMW_to P ht],.kill hn (hT.n9 hb hn) _ rfl (kills_es _ _)⟩
   ·simp only [hn];refine ⟨_,_,by rw [setMW_to P ht],.link hn hk _ rfl ?_⟩;unfold PMem.lead; split
    ·exact modN_ents _ _ _
    ·rfl
   ·simp only [hn];obtain ⟨d,hp⟩:=h.pdOwn ht hb (by omega) (by omega);obtain ⟨w1,w2,w3,w4⟩:=stamp_e t.work.ans.stamp h.wm hp;exact ⟨_,_,by rw [setMW_to P ht],.stamp hn hk d hp _ rfl (node_ns w1) w3 w4⟩
   ·simp only [hn];unfold PSt.unlock;simp only;refine ⟨_,_,by rw [setMW_to P ht],.unlock hn hk _ rfl ?_⟩;split
    ·rw [retires_es]; rfl
    ·rfl
end
end T
end
section
namespace T
section
variable {g g' : Gh} {M M' : PMem} {c c' T : Int} {r r' : PSweep} {i j : Nat} {t t' u : PThread} {ts ts' : List PThread} {P P' : PSt} {x d st : Int} {s : Bool} {key : Int} {k : PWork} {n : Int}
structure VeStep (P P' : PSt) : Prop where
 to : ∀ x s st d,VE P.mem P.ts x s st d->VE P'.mem P'.ts x s st d
 fr : ∀ x s st d,VE P'.mem P'.ts x s st d->VE P.mem P.ts x s st d\/st = P.clock + 1
theorem no_vs (h : t.busy = true->t.work.next<=8\/12<=t.work.next\/(t.work.kind≠1/\t.work.kind≠2)) (x : Int) (s : Bool) (st : Int) : ¬ Vs x s st t:=by
 rintro ⟨b,k,h1,h2,_⟩;rcases h b with q | q | q <;> omega
theorem VeStep.same (ht : P.ts[i]? = some t) (hts : P'.ts = P.ts.set i t') (he : P'.mem.es = P.mem.es) (hv : ∀ x s st,Vs x s st t' ↔ Vs x s st t) : VeStep P P':=by
 have key : ∀ x s st d,VE P'.mem P'.ts x s st d ↔ VE P.mem P.ts x s st d:=by
  intro x s st d;unfold VE;rw [sd_es he,hts,ex_iff ht (hv x s st),pd_es he]
 exact ⟨fun x s st d=>(key x s st d).2,fun x s st d hh=>.inl ((key x s st d).1 hh)⟩
theorem Inv.vsHeld (h : Inv g P) (hj : P.ts[j]? = some u) (hv : Vs x s st u) : Us P.mem x/\Ho P.mem x = j:=by
 obtain ⟨b,hk,h9,h11,e1,e2,e3⟩:=hv
 have:=(h.mine hj b (by omega) (by omega)).ts h11 (by omega)
 rw [e1] at this;exact ⟨this.1,this.2.1⟩
theorem Inv.veStep (h : Inv g P) (ht : P.ts[i]? = some t) (hb : t.busy = true) : VeStep P (P.step i t).1:=by
 have hT:=h.th i t ht;obtain ⟨P',n,hs,ho⟩:=h.out ht hb;rw [hs]
 -- what was and what is: threads without a stamp
 have off : ∀ {M1 : PMem} {k : PWork},(∀ x s st d,Sd M1 x s st d ↔ Sd P.mem x s st d)->(∀ x s,Us P.mem x->Ho P.mem x≠i->Ho P.mem x≠-1->Pd M1 x s = Pd P.mem x s)->(t.work.next<=8)->(k.next<=8\/12<=k.next)->VeStep P { P with mem:=M1,ts:=P.ts.set i { t with work:=k } }:=by
  intro M1 k h1 h2 h3 h4;have n1 : ∀ x s st,¬ Vs x s st t:=no_vs (fun _=>.inl h3);have n2 : ∀ x s st,¬ Vs x s st { t with work:=k }:=no_vs (fun _=>by show k.next<=8\/12<=k.next\/_; omega);have key : ∀ x s st d,VE M1 (P.ts.set i { t with work:=k }) x s st d ↔ VE P.mem P.ts x s st d:=by
   intro x s st d;unfold VE;rw [h1,ex_iff ht (iff_of_false (n2 x s st) (n1 x s st))];refine or_congr Iff.rfl ?_;constructor
   ·rintro ⟨q1,q2⟩;refine ⟨q1,?_⟩;obtain ⟨j,u,hj,hv⟩:=q1;obtain ⟨v1,v2⟩:=h.vsHeld hj hv;rw [h2 x s v1 (fun e=>?_) (by rw [v2]; omega)] at q2
    ·exact q2
    ·have : j = i:=by rw [v2] at e; omega
     subst this;rw [ht] at hj; injection hj with hj; subst hj
     exact n1 _ _ _ hv
   ·rintro ⟨q1,q2⟩;refine ⟨q1,?_⟩;obtain ⟨j,u,hj,hv⟩:=q1;obtain ⟨v1,v2⟩:=h.vsHeld hj hv;rw [h2 x s v1 (fun e=>?_) (by rw [v2]; omega)]
    ·exact q2
    ·have : j = i:=by rw [v2] at e; omega
     subst this;rw [ht] at hj; injection hj with hj; subst hj
     exact n1 _ _ _ hv
  exact ⟨fun x s st d=>(key x s st d).2,fun x s st d hh=>.inl ((key x s st d).1 hh)⟩
 have no : ∀ {t' : PThread},(t'.busy = true->t'.work.next<=8\/12<=t'.work.next\/(t'.work.kind≠1/\t'.work.kind≠2))->(t.work.next<=8\/12<=t.work.next\/(t.work.kind≠1/\t.work.kind≠2))->∀ x s st,Vs x s st t' ↔ Vs x s st t :=
  fun h1 h2 x s st=>iff_of_false (no_vs h1 x s st) (no_vs (fun _=>h2) x s st)
 cases ho with
 | come1 hn=>exact VeStep.same ht rfl rfl (no (fun _=>.inl (by show 2<=8; omega)) (.inl (by omega)))
 | come2 hn=>exact VeStep.same ht rfl rfl (no (fun _=>.inl (by show 3<=8; omega)) (.inl (by omega)))
 | come3 hn=>exact VeStep.same ht rfl rfl (no (fun _=>.inl (by show 4<=8; omega)) (.inl (by omega)))
 | leave hn=>exact VeStep.same ht rfl rfl (no (fun b=>nomatch b) (.inr (.inl (by omega))))
 | rwait=>exact ⟨fun _ _ _ _ h=>h,fun _ _ _ _ h=>.inl h⟩
 | rgo hn hk hp k ek hs=>exact VeStep.same ht rfl rfl (no (fun _=>.inr (.inr (by show k.kind≠1/\k.kind≠2; omega))) (.inl (by omega)))
 | walkOn hn hk hl=>exact VeStep.same ht rfl rfl (no (fun _=>.inl (by show t.work.next<=8; omega)) (.inl (by omega)))
 | walkEnd hn hk hl=>exact VeStep.same ht rfl rfl (no (fun _=>.inl (by show 5<=8; omega)) (.inl (by omega)))
 | lwait=>exact ⟨fun _ _ _ _ h=>h,fun _ _ _ _ h=>.inl h⟩
 | lock hn hk hh nn hnn hn56=>exact VeStep.same ht rfl (modN_ents _ _ _) (no (fun _=>.inl (by show nn<=8; omega)) (.inl (by omega)))
 | home hn=>exact VeStep.same ht rfl rfl (no (fun _=>.inl (by show 4<=8; omega)) (.inl (by omega)))
 | same hn=>exact VeStep.same ht rfl rfl (no (fun _=>.inr (.inl (by show 12<=12; omega))) (.inl (by omega)))
 | right hn=>exact VeStep.same ht rfl rfl (no (fun _=>.inl (by show 7<=8; omega)) (.inl (by omega)))
 | full hn=>exact VeStep.same ht rfl rfl (no (fun _=>.inr (.inl (by show 12<=12; omega))) (.inl (by omega)))
 | prepI hn hk hr1 hr2 a n M1 ep ua un ne nd pd sdd =>
  have m:=h.mine ht hb (by omega) (by omega);refine off sdd ?_ (by omega) (.inl (by show 8<=8; omega));intro x s hu h1 _;rw [pd,if_neg (fun (e : x = t.work.stand/\s = sd P.mem t.work.stand t.work.key)=>h1 (e.1 ▸ m.hs)),if_neg (fun (e : x = n)=>un (e ▸ hu))]
 | prepR hn hk hr M1 em nd pd sdd =>
  have m:=h.mine ht hb (by omega) (by omega);have hA:=m.ab (m.mt hk (.inl (by omega)));refine off sdd ?_ (by omega) (.inl (by show 8<=8; omega));intro x s hu h1 _;rw [pd,if_neg (fun (e : x = t.work.above/\s = sd P.mem t.work.above t.work.key)=>h1 (e.1 ▸ hA.2.1))]
 | late hn hk hl M1 em nd pd sdd =>
  have m:=(h.mine ht hb (by omega) (by omega)).ts (by omega) (by omega);refine off sdd ?_ (by omega) (.inr (by show 12<=12; omega));intro x s hu h1 h2;rw [pd,if_neg];rintro (e | e)
  ·exact h1 (e.1 ▸ m.2.1)
  ·exact h2 (h.freshUs ht ⟨e.1,e.2.1,.inl e.2.2.1,e.2.2.2⟩).2.2
 | takeI hn hk hl a n q M1 em nd pd sdd =>
  have m:=(h.mine ht hb (by omega) (by omega)).ts (by omega) (by omega);have n1 : ∀ x s st,¬ Vs x s st t:=no_vs (fun _=>.inl (by omega));have nn : ∀ (j : Nat) u x s st,P.ts[j]? = some u->Vs x s st u->x≠n:=by
   rintro j u x s st hj hv rfl
   have:=(h.vsHeld hj hv).2
   rw [q.dn.2.2.2.2] at this; omega
  constructor
  ·rintro x s st d (hv | ⟨q1,q2⟩)
   ·exact .inl ((sdd _ _ _ _).2 (.inl hv))
   ·refine .inr ⟨q1.set ht (fun e=>absurd e (n1 _ _ _)),?_⟩;obtain ⟨j,u,hj,hv⟩:=q1;show Pd M1 x s = [d];rw [pd,if_neg (nn j u x s st hj hv)]; exact q2
  ·rintro x s st d (hv | ⟨q1,q2⟩)
   ·rcases (sdd _ _ _ _).1 hv with e | e
    ·exact .inl (.inl e)
    ·exact .inr e.2.1
   ·rcases (Ex.get ht).1 q1 with ⟨_,_,_,_,_,_,e⟩ | ⟨j,u,_,hj,hv⟩
    ·exact .inr e.symm
    ·refine .inl (.inr ⟨⟨j,u,hj,hv⟩,?_⟩);have q2 : Pd M1 x s = [d]:=q2;rw [pd,if_neg (nn j u x s st hj hv)] at q2; exact q2
 | takeR hn hk hl =>
  have n1 : ∀ x s st,¬ Vs x s st t:=no_vs (fun _=>.inl (by omega));constructor
  ·rintro x s st d (hv | ⟨q1,q2⟩)
   ·exact .inl hv
   ·exact .inr ⟨q1.set ht (fun e=>absurd e (n1 _ _ _)),q2⟩
  ·rintro x s st d (hv | ⟨q1,q2⟩)
   ·exact .inl (.inl hv)
   ·rcases (Ex.get ht).1 q1 with ⟨_,_,_,_,_,_,e⟩ | ⟨j,u,_,hj,hv⟩
    ·exact .inr e.symm
    ·exact .inl (.inr ⟨⟨j,u,hj,hv⟩,q2⟩)
 | kill hn hk M1 em es =>
  refine VeStep.same ht rfl es (fun x s st=>?_);constructor
  ·rintro ⟨a1,a2,a3,a4,a5⟩; exact ⟨a1,a2,by omega,by omega,a5⟩
  ·rintro ⟨a1,a2,a3,a4,a5⟩; exact ⟨a1,a2,by show 9<=10; omega,by show 10<=11; omega,a5⟩
 | link hn hk M1 em es =>
  refine VeStep.same ht rfl es (fun x s st=>?_);constructor
  ·rintro ⟨a1,a2,a3,a4,a5⟩; exact ⟨a1,a2,by omega,by omega,a5⟩
  ·rintro ⟨a1,a2,a3,a4,a5⟩; exact ⟨a1,a2,by show 9<=11; omega,by show 11<=11; omega,a5⟩
 | stamp hn hk d0 hp M1 em nd pd sdd =>
  have m:=(h.mine ht hb (by omega) (by omega)).ts (by omega) (by omega);have n2 : ∀ x s st,¬ Vs x s st { t with work:={ t.work with next:=12 } }:=no_vs (fun _=>.inr (.inl (by show 12<=12; omega)));have nn : ∀ (j : Nat) u x s st,j≠i->P.ts[j]? = some u->Vs x s st u->x≠t.work.tsrc:=by
   rintro j u x s st hne hj hv rfl
   have:=(h.vsHeld hj hv).2
   rw [m.2.1] at this; omega
  constructor
  ·rintro x s st d (hv | ⟨q1,q2⟩)
   ·exact .inl ((sdd _ _ _ _).2 (.inl hv))
   ·rcases q1.or ht with ⟨_,_,_,_,e1,e2,e3⟩ | ⟨j,u,hne,hj,hv⟩
    ·left;refine (sdd _ _ _ _).2 (.inr ⟨e1.symm,e2.symm,e3.symm,?_⟩);rw [<- e1,<- e2,hp] at q2;simpa using q2.symm
    ·refine .inr ⟨Ex.other hj hv hne,?_⟩;show Pd M1 x s = [d];rw [pd,if_neg (fun e=>nn j u x s st hne hj hv e.1)]; exact q2
  ·rintro x s st d (hv | ⟨q1,q2⟩)
   ·rcases (sdd _ _ _ _).1 hv with e | ⟨e1,e2,e3,e4⟩
    ·exact .inl (.inl e)
    ·refine .inl (.inr ⟨⟨i,t,ht,hb,hk,by omega,by omega,e1.symm,e2.symm,e3.symm⟩,?_⟩);rw [e1,e2,e4]; exact hp
   ·rcases (Ex.get ht).1 q1 with e | ⟨j,u,hne,hj,hv⟩
    ·exact absurd e (n2 _ _ _)
    ·refine .inl (.inr ⟨⟨j,u,hj,hv⟩,?_⟩);have q2 : Pd M1 x s = [d]:=q2;rw [pd,if_neg (fun e=>nn j u x s st hne hj hv e.1)] at q2; exact q2
 | unlock hn hk M1 em es=>exact VeStep.same ht rfl es (no (fun _=>.inr (.inl (by show 12<=13; omega))) (.inr (.inl (by omega))))
theorem Inv.verStep (h : Inv g P) (ht : P.ts[i]? = some t) (hb : t.busy = true) {tr : Tr} (hR : Ver P.mem P.ts tr T) (hT : T < P.clock\/(T = P.clock/\tr = g.V P.clock)) : Ver (P.step i t).1.mem (P.step i t).1.ts tr T:=by
 have hv:=h.veStep ht hb;have us : ∀ x,tr.Has x->Us P.mem x:=by
  intro x hx;rcases Tr.has_or hx with ⟨q,hq⟩ | ⟨q,w,hq⟩
  ·exact (hR.a.n x q hq).1
  ·exact (hR.a.l x q w hq).1
 have nr : ∀ x,tr.Has x->Nr P.clock g.O P.mem (P.step i t).1.mem x:=fun x hx=>h.keeps ht hb (us x hx) (fun hf=>hR.f x hx ⟨i,t,ht,hf⟩)
 refine ⟨⟨?_,?_⟩,?_,?_,?_⟩
 ·intro x q hq;obtain ⟨n1,n2,n3,n4,n5⟩:=nr x (Tr.nod_has hq)
  have:=hR.a.n x q hq
  exact ⟨n1,by rw [n3]; exact this.2.1,by rw [n2]; exact this.2.2⟩
 ·intro x q w hq;obtain ⟨n1,n2,n3,n4,n5⟩:=nr x (Tr.lea_has hq)
  have:=hR.a.l x q w hq
  exact ⟨n1,by rw [n3]; exact this.2.1,by rw [n2]; exact this.2.2.1,by rw [n4]; exact this.2.2.2⟩
 ·intro x hx hr;obtain ⟨n1,n2,n3,n4,n5⟩:=nr x hx;rcases n5 hr with e | e
  ·rw [e.2]; exact hR.r x hx e.1
  ·rw [e.1];rcases hT with q | ⟨q1,q2⟩
   ·exact q
   ·exfalso;rw [q2] at hx;exact (h.n.ou x e.2).2.1 hx
 ·intro x hx hf;have hu:=us x hx;obtain ⟨P',n,hs,ho⟩:=h.out ht hb;rw [hs] at hf;have fin : ∀ {t' : PThread},Ex (P.ts.set i t') (Fr8 x)->(Fr8 x t'->False)->False:=by
   intro t' hh hn;rcases (Ex.get ht).1 hh with e | ⟨j,u,_,hj,e⟩
   ·exact hn e
   ·exact hR.f x hx ⟨j,u,hj,e⟩
  cases ho with
  | rwait=>exact hR.f x hx hf
  | lwait=>exact hR.f x hx hf
  | leave=>exact fin hf (fun e=>nomatch e.1)
  | prepI hn hk hr1 hr2 a n M1 ep ua un =>
   refine fin hf ?_;rintro ⟨_,_,_,e⟩;have e : x ∈ [a,n]:=e;simp at e;rcases e with rfl | rfl
   ·exact ua hu
   ·exact un hu
  | prepR hn hk=>exact fin hf (fun e=>by have : t.work.kind = 1:=e.2.1; omega)
  | come1=>exact fin hf (fun e=>by have : (2 : Nat) = 8:=e.2.2.1; omega)
  | come2=>exact fin hf (fun e=>by have : (3 : Nat) = 8:=e.2.2.1; omega)
  | come3=>exact fin hf (fun e=>by have : (4 : Nat) = 8:=e.2.2.1; omega)
  | rgo hn hk hp k ek hs=>exact fin hf (fun e=>by have : k.next = 8:=e.2.2.1; omega)
  | walkOn hn=>exact fin hf (fun e=>by have : t.work.next = 8:=e.2.2.1; omega)
  | walkEnd=>exact fin hf (fun e=>by have : (5 : Nat) = 8:=e.2.2.1; omega)
  | lock hn hk hh nn hnn hn56=>exact fin hf (fun e=>by have : nn = 8:=e.2.2.1; omega)
  | home=>exact fin hf (fun e=>by have : (4 : Nat) = 8:=e.2.2.1; omega)
  | same=>exact fin hf (fun e=>by have : (12 : Nat) = 8:=e.2.2.1; omega)
  | right=>exact fin hf (fun e=>by have : (7 : Nat) = 8:=e.2.2.1; omega)
  | full=>exact fin hf (fun e=>by have : (12 : Nat) = 8:=e.2.2.1; omega)
  | late=>exact fin hf (fun e=>by have : (12 : Nat) = 8:=e.2.2.1; omega)
  | takeI=>exact fin hf (fun e=>by have : (10 : Nat) = 8:=e.2.2.1; omega)
  | takeR=>exact fin hf (fun e=>by have : (9 : Nat) = 8:=e.2.2.1; omega)
  | kill=>exact fin hf (fun e=>by have : (10 : Nat) = 8:=e.2.2.1; omega)
  | link=>exact fin hf (fun e=>by have : (11 : Nat) = 8:=e.2.2.1; omega)
  | stamp=>exact fin hf (fun e=>by have : (12 : Nat) = 8:=e.2.2.1; omega)
  | unlock=>exact fin hf (fun e=>by have : (13 : Nat) = 8:=e.2.2.1; omega)
 ·intro x s d hd;obtain ⟨st,e1,e2,e3⟩:=hR.e x s d hd;refine ⟨st,hv.to _ _ _ _ e1,e2,?_⟩;intro st' d' h1 h2;rcases hv.fr _ _ _ _ h1 with q | q
  ·exact e3 st' d' q h2
  ·omega
end
end T
end
section
namespace T
def Rdr (t : PThread) : Prop:=t.busy = true/\(t.work.kind = 3\/t.work.kind = 4)/\3<=t.work.next/\t.work.next<=4
structure InvV (g : Gh) (P : PSt) : Prop where
 now : Ver P.mem P.ts (g.V P.clock) P.clock
 gts : ∀ T,0<=T->T<=P.clock->Gt (g.V T)
 rd : ∀ (i : Nat) t,P.ts[i]? = some t->Rdr t->Ver P.mem P.ts (g.V t.work.time) t.work.time/\0<=t.work.time/\t.work.time<=P.clock
section
variable {g g' : Gh} {M M' : PMem} {c c' T : Int} {r r' : PSweep} {i j : Nat} {t t' u : PThread} {ts ts' : List PThread} {P P' : PSt} {x d st : Int} {s : Bool} {key : Int} {k : PWork} {n : Int}
theorem Inv.f8no (h : Inv g P) (hx : (g.V P.clock).Has x) : ¬ Ex P.ts (Fr8 x):=by
 rintro ⟨j,u,hj,b,hk,hn,hm⟩;obtain ⟨a,n,q⟩:=(h.th j u hj).f8 b hk hn;rw [q.md] at hm
 have:=q.h
 simp at hm; grind
theorem Inv.ve_le (h : Inv g P) (hv : VE P.mem P.ts x s st d) : 0<=st/\st<=P.clock:=by
 rcases hv with e | ⟨⟨j,u,hj,b,hk,h9,h11,e1,e2,e3⟩,_⟩
 ·have:=h.e.ms _ _ _ _ e; omega
 ·have:=(h.th j u hj).s9 b h9 h11; omega
theorem Inv.nowOf (h : Inv g P) (he : ∀ x s d,A (g.V P.clock) x s d->∃ st,VE P.mem P.ts x s st d/\∀ st' d',VE P.mem P.ts x s st' d'->st' < st\/(st' = st/\d' = d)) : Ver P.mem P.ts (g.V P.clock) P.clock:=by
 refine ⟨h.n.ag,?_,fun x hx=>h.f8no hx,?_⟩
 ·intro x hx hr
  have:=(h.n.tn x hx).2
  simp only [Re] at hr; rw [this] at hr; cases hr
 ·intro x s d hd;obtain ⟨st,e1,e2⟩:=he x s d hd;exact ⟨st,e1,(h.ve_le e1).2,fun st' d' h1 _=>e2 st' d' h1⟩
theorem Ver.top (hR : Ver M ts (g.V c) c) (hle : ∀ x s st d,VE M ts x s st d->st<=c) (hd : A (g.V c) x s d) : ∃ st,VE M ts x s st d/\∀ st' d',VE M ts x s st' d'->st' < st\/(st' = st/\d' = d):=by
 obtain ⟨st,e1,e2,e3⟩:=hR.e x s d hd;exact ⟨st,e1,fun st' d' h1=>e3 st' d' h1 (hle _ _ _ _ h1)⟩
theorem nextG_V (P : PSt) (t : PThread) (i : Nat) (hT : T<=P.clock) : (nextG g P i t).V T = g.V T:=by
 unfold nextG;split
 ·split
  ·show (if T = P.clock + 1 then _ else g.V T) = _; rw [if_neg (by omega)]
  ·show (if T = P.clock + 1 then _ else g.V T) = _; rw [if_neg (by omega)]
 ·rfl
theorem Inv.clockStep (h : Inv g P) (ht : P.ts[i]? = some t) (hb : t.busy = true) : (P.step i t).1.clock = if Took P t then P.clock + 1 else P.clock:=by
 have hT:=h.th i t ht;obtain ⟨P',n,hs,ho⟩:=h.out ht hb;rw [hs];have no : ¬ (t.work.next = 8/\¬ P.limit<=P.clock)->¬ Took P t:=fun h1 h2=>h1 ⟨h2.1,h2.2.2⟩
 cases ho with
 | takeI hn hk hl=>rw [if_pos ⟨hn,.inl hk,hl⟩]
 | takeR hn hk hl=>rw [if_pos ⟨hn,.inr hk,hl⟩]
 | late hn hk hl=>rw [if_neg (fun e=>e.2.2 hl)]
 | _=>rw [if_neg (no (fun e=>by omega))]
theorem Inv.rdrStep (h : Inv g P) (ht : P.ts[i]? = some t) (hb : t.busy = true) : ∃ t',(P.step i t).1.ts = P.ts.set i t'/\(Rdr t'->(t.work.next = 2/\t'.work.time = P.clock/\¬ Took P t)\/(Rdr t/\t'.work.time = t.work.time)):=by
 have hT:=h.th i t ht;obtain ⟨P',n,hs,ho⟩:=h.out ht hb;rw [hs];have same : P.ts.set i t = P.ts:=by
  apply List.ext_getElem?;intro j;rw [List.getElem?_set];split
  ·next e=>subst e; split <;> simp_all
  ·rfl
 cases ho with
 | come1=>exact ⟨_,rfl,fun e=>by have : 3<=2:=e.2.2.1; omega⟩
 | come2 hn=>exact ⟨_,rfl,fun e=>.inl ⟨hn,rfl,fun q=>by have:=q.1; omega⟩⟩
 | come3 hn=>exact ⟨_,rfl,fun e=>.inr ⟨⟨hb,e.2.1,by omega,by omega⟩,rfl⟩⟩
 | leave=>exact ⟨_,rfl,fun e=>nomatch e.1⟩
 | rwait=>exact ⟨t,same.symm,fun e=>.inr ⟨e,rfl⟩⟩
 | lwait=>exact ⟨t,same.symm,fun e=>.inr ⟨e,rfl⟩⟩
 | rgo hn hk hp k ek hsk=>exact ⟨_,rfl,fun e=>.inr ⟨⟨hb,hk,by omega,by omega⟩,hsk.2.2.1⟩⟩
 | walkOn hn hk=>exact ⟨_,rfl,fun e=>by have : t.work.kind = 3\/t.work.kind = 4:=e.2.1; omega⟩
 | walkEnd hn hk=>exact ⟨_,rfl,fun e=>by have : t.work.kind = 3\/t.work.kind = 4:=e.2.1; omega⟩
 | lock hn hk=>exact ⟨_,rfl,fun e=>by have : t.work.kind = 3\/t.work.kind = 4:=e.2.1; omega⟩
 | home hn hk=>exact ⟨_,rfl,fun e=>by have : t.work.kind = 3\/t.work.kind = 4:=e.2.1; omega⟩
 | same hn hk=>exact ⟨_,rfl,fun e=>by have : t.work.kind = 3\/t.work.kind = 4:=e.2.1; omega⟩
 | right hn hk=>exact ⟨_,rfl,fun e=>by have : t.work.kind = 3\/t.work.kind = 4:=e.2.1; omega⟩
 | full hn hk=>exact ⟨_,rfl,fun e=>by have : t.work.kind = 3\/t.work.kind = 4:=e.2.1; omega⟩
 | prepI hn hk=>exact ⟨_,rfl,fun e=>by have : t.work.kind = 3\/t.work.kind = 4:=e.2.1; omega⟩
 | prepR hn hk=>exact ⟨_,rfl,fun e=>by have : t.work.kind = 3\/t.work.kind = 4:=e.2.1; omega⟩
 | late hn hk=>exact ⟨_,rfl,fun e=>by have : t.work.kind = 3\/t.work.kind = 4:=e.2.1; omega⟩
 | takeI hn hk=>exact ⟨_,rfl,fun e=>by have : t.work.kind = 3\/t.work.kind = 4:=e.2.1; omega⟩
 | takeR hn hk=>exact ⟨_,rfl,fun e=>by have : t.work.kind = 3\/t.work.kind = 4:=e.2.1; omega⟩
 | kill hn hk=>exact ⟨_,rfl,fun e=>by have : t.work.kind = 3\/t.work.kind = 4:=e.2.1; omega⟩
 | link hn hk=>exact ⟨_,rfl,fun e=>by have : t.work.kind = 3\/t.work.kind = 4:=e.2.1; omega⟩
 | stamp hn hk=>exact ⟨_,rfl,fun e=>by have : t.work.kind = 3\/t.work.kind = 4:=e.2.1; omega⟩
 | unlock hn hk=>exact ⟨_,rfl,fun e=>by have : t.work.kind = 3\/t.work.kind = 4:=e.2.1; omega⟩
theorem InvV.step (hV : InvV g P) (h : Inv g P) (ht : P.ts[i]? = some t) (hb : t.busy = true) : InvV (nextG g P i t) (P.step i t).1:=by
 have hT:=h.th i t ht;have hi:=(List.getElem?_eq_some_iff.1 ht).1;have hS:=h.step ht hb;have hck:=h.clockStep ht hb;have hc0:=h.o.sc;have keep : ∀ T,0<=T->T<=P.clock->Ver P.mem P.ts (g.V T) T->Ver (P.step i t).1.mem (P.step i t).1.ts (g.V T) T:=by
  intro T h0 h1 hR;refine h.verStep ht hb hR ?_;rcases (show T < P.clock\/T = P.clock by omega) with e | e
  ·exact .inl e
  ·exact .inr ⟨e,by rw [e]⟩
 have rd : ∀ (j : Nat) u,(P.step i t).1.ts[j]? = some u->Rdr u->Ver (P.step i t).1.mem (P.step i t).1.ts ((nextG g P i t).V u.work.time) u.work.time/\0<=u.work.time/\u.work.time<=(P.step i t).1.clock:=by
  intro j u hj hr;have fin : Ver P.mem P.ts (g.V u.work.time) u.work.time/\0<=u.work.time/\u.work.time<=P.clock->Ver (P.step i t).1.mem (P.step i t).1.ts ((nextG g P i t).V u.work.time) u.work.time/\0<=u.work.time/\u.work.time<=(P.step i t).1.clock:=by
   rintro ⟨q1,q2,q3⟩;rw [nextG_V P t i q3];refine ⟨keep _ q2 q3 q1,q2,?_⟩;rw [hck]; split <;> omega
  obtain ⟨t',e1,e2⟩:=h.rdrStep ht hb;rw [e1,List.getElem?_set] at hj;by_cases ej : i = j
  ·subst ej;simp [hi] at hj;subst hj;rcases e2 hr with ⟨_,q,_⟩ | ⟨q1,q2⟩
   ·refine fin ?_;rw [q]; exact ⟨hV.now,hc0.2,Int.le_refl _⟩
   ·refine fin ?_;rw [q2]; exact hV.rd i t ht q1
  ·rw [if_neg ej] at hj;exact fin (hV.rd j u hj hr)
 by_cases hk : Took P t
 ·rw [if_pos hk] at hck;refine ⟨?_,?_,rd⟩
  ·refine hS.nowOf ?_;rw [hck];have hle : ∀ x s st d,VE P.mem P.ts x s st d->st<=P.clock:=fun x s st d hv=>(h.ve_le hv).2
   have htop:=fun x s d=>hV.now.top (x:=x) (s:=s) (d:=d) hle
   obtain ⟨hn,hkd,hl⟩:=id hk;have m:=h.mine ht hb (by omega) (by omega);have hts:=m.ts (by omega) (by omega);rcases hkd with k1 | k2
   ·-- an Insert
    obtain ⟨P',nn,hs,ho⟩:=h.out ht hb;unfold nextG;rw [if_pos hk,if_neg (by omega),hs];cases ho with
    | takeI hn hk' hl a n q M1 em nd pd sdd =>
     have e0 : t.work.made[0]?.getD 0 = a:=by rw [q.md]; rfl
     have e0' : t.work.made[1]?.getD 0 = n:=by rw [q.md]; rfl
     rw [e0,e0'];have hgo:=h.found ht hb (by omega) (by omega);have e7:=(hT.e7 hb (by omega) (by omega)).1;have hdj:=h.n.gt.dj;have iEd : ∀ x s d,A ((insG g P.clock t.work a n).V (P.clock + 1)) x s d ↔ (A (g.V P.clock) x s d/\d≠t.work.ahead)\/(d = n/\A (g.V P.clock) x s t.work.ahead)\/(x = n/\d = kid P.mem t.work a s):=by
      intro x s d
      have:=Tr.ins_ed (k:=t.work.key) (v:=t.work.value) (a:=a) (n:=n) (x:=x) (s:=s) (d:=d) (u:=0) (b:=false) hdj
      rw [hgo] at this;show A (if P.clock + 1 = P.clock + 1 then _ else _) x s d ↔ _;rw [if_pos rfl]; exact this
     have sole : ∀ x s,A (g.V P.clock) x s t.work.ahead->x = t.work.stand/\s = sd P.mem t.work.stand t.work.key:=fun x s hx=>Tr.ed_par hdj h.n.gt.z hx e7
     have ksrc:=hts.2.2.2.2.1 k1;have kside : t.work.tside = sd P.mem t.work.stand t.work.key:=by rw [hts.2.2.2.1,ksrc]
     have sN : t.work.stand≠n:=by
      intro e; have:=q.dn.2.2.2.2; rw [<- e] at this; have:=m.hs; omega
     have n1 : ∀ x s st,¬ Vs x s st t:=no_vs (fun _=>.inl (by omega));have nn' : ∀ (j : Nat) u x s st,P.ts[j]? = some u->Vs x s st u->x≠n:=by
      rintro j u x s st hj hv rfl
      have:=(h.vsHeld hj hv).2
      rw [q.dn.2.2.2.2] at this; omega
     -- the entries,old and new
     have ve : ∀ x s st d,VE M1 (P.ts.set i { t with work:={ t.work with ans:={ did:=true,stamp:=P.clock + 1 },next:=10 } }) x s st d ↔ VE P.mem P.ts x s st d\/(x = n/\st = P.clock + 1/\d = kid P.mem t.work a s)\/(x = t.work.stand/\s = sd P.mem t.work.stand t.work.key/\st = P.clock + 1/\d = n):=by
      intro x s st d;constructor
      ·rintro (hv | ⟨q1,q2⟩)
       ·rcases (sdd _ _ _ _).1 hv with e | e
        ·exact .inl (.inl e)
        ·exact .inr (.inl e)
       ·rcases (Ex.get ht).1 q1 with ⟨_,_,_,_,x1,x2,x3⟩ | ⟨j,u,_,hj,hv⟩
        ·right; right;have x1 : t.work.tsrc = x:=x1;have x2 : t.work.tside = s:=x2;rw [ksrc] at x1; rw [kside] at x2;refine ⟨x1.symm,x2.symm,x3.symm,?_⟩;rw [<- x1,<- x2,pd,if_neg sN,q.ps] at q2;simpa using q2.symm
        ·left; right;refine ⟨⟨j,u,hj,hv⟩,?_⟩;rw [pd,if_neg (nn' j u x s st hj hv)] at q2; exact q2
      ·rintro ((hv | ⟨q1,q2⟩) | e | ⟨rfl,rfl,rfl,rfl⟩)
       ·exact .inl ((sdd _ _ _ _).2 (.inl hv))
       ·refine .inr ⟨q1.set ht (fun e=>absurd e (n1 _ _ _)),?_⟩;obtain ⟨j,u,hj,hv⟩:=q1;rw [pd,if_neg (nn' j u x s st hj hv)]; exact q2
       ·exact .inl ((sdd _ _ _ _).2 (.inr e))
       ·refine .inr ⟨Ex.new ht ⟨hb,.inl k1,by show 9<=10; omega,by show 10<=11; omega,ksrc,kside,rfl⟩,?_⟩;rw [pd,if_neg sN]; exact q.ps
     intro x s d hd;rcases (iEd x s d).1 hd with ⟨e1,e2⟩ | ⟨rfl,e1⟩ | ⟨rfl,rfl⟩
     ·obtain ⟨st,f1,f2⟩:=htop x s d e1;refine ⟨st,(ve _ _ _ _).2 (.inl f1),?_⟩;intro st' d' hv;rcases (ve _ _ _ _).1 hv with e | e | e
      ·exact f2 st' d' e
      ·exfalso;rcases (Tr.ed_has e1).2 with z | z
       ·exact q.z.2.1 (e.1.symm.trans z)
       ·exact q.h.2.1 (e.1 ▸ Tr.inn_has z)
      ·exfalso;obtain ⟨rfl,rfl,_,_⟩:=e;exact e2 (Tr.ed_fn hdj h.n.gt.z e1 e7)
     ·obtain ⟨rfl,rfl⟩:=sole x s e1;refine ⟨P.clock + 1,(ve _ _ _ _).2 (.inr (.inr ⟨rfl,rfl,rfl,rfl⟩)),?_⟩;intro st' d' hv;rcases (ve _ _ _ _).1 hv with e | e | e
      ·left; have:=hle _ _ _ _ e; omega
      ·exact absurd e.1 sN
      ·exact .inr ⟨e.2.2.1,e.2.2.2⟩
     ·refine ⟨P.clock + 1,(ve _ _ _ _).2 (.inr (.inl ⟨rfl,rfl,rfl⟩)),?_⟩;intro st' d' hv;rcases (ve _ _ _ _).1 hv with e | e | e
      ·left; have:=hle _ _ _ _ e; omega
      ·exact .inr ⟨e.2.1,e.2.2⟩
      ·exact absurd e.1.symm sN
    | _=>omega
   ·-- a Remove
    obtain ⟨P',nn,hs,ho⟩:=h.out ht hb;unfold nextG;rw [if_pos hk,if_pos k2,hs];cases ho with
    | takeR hn hk' hl =>
     have hcut:=h.cut ht hb (by omega) (by omega) k2;have hdj:=h.n.gt.dj;have e10:=((hT.e7 hb (by omega) (by omega)).2.2 k2).1;have q8:=hT.q8 hb k2 (by omega) (by omega);have iEd : ∀ x s d,A ((g.V P.clock).del t.work.key) x s d ↔ (A (g.V P.clock) x s d/\x≠t.work.stand/\d≠t.work.stand)\/(x = t.work.above/\s = sd P.mem t.work.above t.work.key/\d = Ld P.mem t.work.stand (!sd P.mem t.work.stand t.work.key)):=fun x s d=>Tr.del_ed hdj h.n.gt.z hcut
     have ksrc:=hts.2.2.2.2.2 k2;have kside : t.work.tside = sd P.mem t.work.above t.work.key:=by rw [hts.2.2.2.1,ksrc]
     have n1 : ∀ x s st,¬ Vs x s st t:=no_vs (fun _=>.inl (by omega));have ve : ∀ x s st d,VE P.mem (P.ts.set i { t with work:={ t.work with ans:={ did:=true,stamp:=P.clock + 1,value:=(P.mem.node t.work.ahead).value },next:=9 } }) x s st d ↔ VE P.mem P.ts x s st d\/(x = t.work.above/\s = sd P.mem t.work.above t.work.key/\st = P.clock + 1/\d = Ld P.mem t.work.stand (!sd P.mem t.work.stand t.work.key)):=by
      intro x s st d;constructor
      ·rintro (hv | ⟨q1,q2⟩)
       ·exact .inl (.inl hv)
       ·rcases (Ex.get ht).1 q1 with ⟨_,_,_,_,x1,x2,x3⟩ | ⟨j,u,_,hj,hv⟩
        ·right;have x1 : t.work.tsrc = x:=x1;have x2 : t.work.tside = s:=x2;rw [ksrc] at x1; rw [kside] at x2;refine ⟨x1.symm,x2.symm,x3.symm,?_⟩;rw [<- x1,<- x2,q8.1] at q2;simpa using q2.symm
        ·exact .inl (.inr ⟨⟨j,u,hj,hv⟩,q2⟩)
      ·rintro ((hv | ⟨q1,q2⟩) | ⟨rfl,rfl,rfl,rfl⟩)
       ·exact .inl hv
       ·exact .inr ⟨q1.set ht (fun e=>absurd e (n1 _ _ _)),q2⟩
       ·exact .inr ⟨Ex.new ht ⟨hb,.inr k2,by show 9<=9; omega,by show 9<=11; omega,ksrc,kside,rfl⟩,q8.1⟩
     intro x s d hd;have hd : A ((g.V P.clock).del t.work.key) x s d:=by
      have hd : A (if P.clock + 1 = P.clock + 1 then _ else _) x s d:=hd;rw [if_pos rfl] at hd; exact hd
     rcases (iEd x s d).1 hd with ⟨e1,e2,e3⟩ | ⟨rfl,rfl,rfl⟩
     ·obtain ⟨st,f1,f2⟩:=htop x s d e1;refine ⟨st,(ve _ _ _ _).2 (.inl f1),?_⟩;intro st' d' hv;rcases (ve _ _ _ _).1 hv with e | e
      ·exact f2 st' d' e
      ·exfalso;obtain ⟨rfl,rfl,_,_⟩:=e;exact e3 (Tr.ed_fn hdj h.n.gt.z e1 e10)
     ·refine ⟨P.clock + 1,(ve _ _ _ _).2 (.inr ⟨rfl,rfl,rfl,rfl⟩),?_⟩;intro st' d' hv;rcases (ve _ _ _ _).1 hv with e | e
      ·left; have:=hle _ _ _ _ e; omega
      ·exact .inr ⟨e.2.2.1,e.2.2.2⟩
    | _=>omega
  ·intro T h0 h1;rw [hck] at h1;rcases (show T<=P.clock\/T = P.clock + 1 by omega) with e | e
   ·rw [nextG_V P t i e]; exact hV.gts T h0 e
   ·rw [e,<- hck]; exact hS.n.gt
 ·rw [if_neg hk] at hck;refine ⟨?_,?_,rd⟩
  ·rw [hck,nextG_V P t i (Int.le_refl _)];exact keep _ hc0.2 (Int.le_refl _) hV.now
  ·intro T h0 h1;rw [hck] at h1;rw [nextG_V P t i h1]; exact hV.gts T h0 h1
end
end T
end
end Go.Proofs.YtfccelbmacjifabGreat
