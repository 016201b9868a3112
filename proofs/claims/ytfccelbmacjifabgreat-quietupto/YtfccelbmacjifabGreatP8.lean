import Derived.Test.YtfccelbmacjifabGreatP0
import Derived.Test.YtfccelbmacjifabGreatP7
set_option linter.unusedSimpArgs false
set_option maxRecDepth 100000
set_option maxHeartbeats 4000000
namespace Go.Proofs.YtfccelbmacjifabGreat
section
section
variable {C C' : Int->Prop} {M M' M2 : PMem} {c c' : Int} {r r' : PSweep} {i j : Nat} {t t' u : PThread} {ts : List PThread} {P : PSt} {x d : Int} {k : PWork} {L n n' : Nat}
theorem phi_idle (hb : t.busy = false) : phi L M C n t = 0:=by unfold phi; rw [if_pos hb]
theorem phi_r13 (hb : t.busy = true) (hr : t.work.kind = 3\/t.work.kind = 4) (hn : t.work.next = 13) : phi L M C n t = 1:=by
 unfold phi; rw [if_neg (by simp [hb]),if_pos hr,if_pos hn]
theorem phi_r4 (hb : t.busy = true) (hr : t.work.kind = 3\/t.work.kind = 4) (hn : t.work.next = 4) : phi L M C n t = 2 + wp L M C (rx t.work):=by
 unfold phi; rw [if_neg (by simp [hb]),if_pos hr,if_neg (by omega),if_pos hn]
theorem phi_r3 (hb : t.busy = true) (hr : t.work.kind = 3\/t.work.kind = 4) (hn : t.work.next<=3) : phi L M C n t = L + 7 - t.work.next:=by
 unfold phi; rw [if_neg (by simp [hb]),if_pos hr,if_neg (by omega),if_neg (by omega)]
theorem phi_u7 (hb : t.busy = true) (hr : ¬ (t.work.kind = 3\/t.work.kind = 4)) (hn : 7<=t.work.next) : phi L M C n t = 14 - t.work.next:=by
 unfold phi; rw [if_neg (by simp [hb]),if_neg hr,if_pos hn]
theorem phi_u6 (hb : t.busy = true) (hr : ¬ (t.work.kind = 3\/t.work.kind = 4)) (hn : t.work.next = 6) : phi L M C n t = 9 + (n + stale M C t.work) * (L + 2):=by
 unfold phi; rw [if_neg (by simp [hb]),if_neg hr,if_neg (by omega),if_pos hn,if_pos (by omega)]
theorem phi_u5 (hb : t.busy = true) (hr : ¬ (t.work.kind = 3\/t.work.kind = 4)) (hn : t.work.next = 5) : phi L M C n t = 11 - t.work.locks + (n + stale M C t.work) * (L + 2):=by
 unfold phi; rw [if_neg (by simp [hb]),if_neg hr,if_neg (by omega),if_neg (by omega),if_pos hn,if_pos (by omega)]
theorem phi_u4 (hb : t.busy = true) (hr : ¬ (t.work.kind = 3\/t.work.kind = 4)) (hn : t.work.next = 4) : phi L M C n t = 11 + wp L M C t.work.stand + (n + stale M C t.work) * (L + 2):=by
 unfold phi; rw [if_neg (by simp [hb]),if_neg hr,if_neg (by omega),if_neg (by omega),if_neg (by omega),if_pos hn,if_pos (by omega)]
theorem phi_u3 (hb : t.busy = true) (hr : ¬ (t.work.kind = 3\/t.work.kind = 4)) (hn : t.work.next<=3) : phi L M C n t = L + 15 - t.work.next + n * (L + 2):=by
 unfold phi; rw [if_neg (by simp [hb]),if_neg hr,if_neg (by omega),if_neg (by omega),if_neg (by omega),if_neg (by omega),if_neg (by omega)]; rfl
structure Nearer (L : Nat) (P : PSt) (C : Int->Prop) (i : Nat) (t t' : PThread) : Prop where
 ts : (P.step i t).1.ts = P.ts.set i t'
 un : unl t' = true->unl t = true
 ln : t.work.next = 10->unl t = true/\unl t' = false
 lt : ∀ n n',n'<=n->phi L (P.step i t).1.mem (nextC C t) n' t' < phi L P.mem C n t
theorem unl_mono (hb : t.busy = true) (hk : k.kind = t.work.kind) (hn : k.next<=10->t.work.next<=10) (h : unl { t with work:=k } = true) : unl t = true:=by
 unfold unl at *;simp only [Bool.and_eq_true,decide_eq_true_eq] at h ⊢;rw [hk] at h;exact ⟨hb,h.2.1,hn h.2.2⟩
theorem mul_mono (h : n'<=n) {a b : Nat} (hab : a<=b) : (n' + a) * (L + 2)<=(n + b) * (L + 2):=Nat.mul_le_mul_right _ (by omega)
theorem Nearer.late (hb : t.busy = true) (hr : ¬ (t.work.kind = 3\/t.work.kind = 4)) (h6 : 6<=t.work.next) (hts : (P.step i t).1.ts = P.ts.set i { t with work:=k }) (hk : k.kind = t.work.kind) (hn : t.work.next < k.next) (h13 : k.next<=13) (h10 : t.work.next = 10->k.next = 11) (hkd : t.work.kind = 1\/t.work.kind = 2) : Nearer L P C i t { t with work:=k }:=by
 refine ⟨hts,unl_mono hb hk (fun h=>by omega),?_,?_⟩
 ·intro e
  have:=h10 e
  unfold unl;simp only [hb,Bool.true_and,Bool.and_eq_true,decide_eq_true_eq,Bool.and_eq_false_iff,decide_eq_false_iff_not];exact ⟨⟨hkd,by omega⟩,.inr (by omega)⟩
 ·intro n n' hnn;have hk' : ¬ (k.kind = 3\/k.kind = 4):=by rw [hk]; exact hr
  rw [phi_u7 (t:={ t with work:=k }) hb hk' (by show 7<=k.next; omega)];show 14 - k.next < _
  by_cases h7 : 7<=t.work.next
  ·rw [phi_u7 hb hr h7]; omega
  ·rw [phi_u6 hb hr (by omega)]; omega
theorem Inv.near (h : Inv C P) (hL : P.mem.ns.length = L) (ht : P.ts[i]? = some t) (hb : t.busy = true) (hmv : (P.step i t).2≠2) : ∃ t',Nearer L P C i t t':=by
 have hT:=h.th i t ht;have hnx:=hT.nx hb;have hkd:=hT.kd hb;have hrd:=hT.rd hb;have hL2 : 2<=L:=by rw [<- hL]; exact h.wm.len
 rcases (show t.work.next = 1\/t.work.next = 2\/t.work.next = 3\/t.work.next = 13\/(4<=t.work.next/\t.work.next<=12) by omega) with hn | hn | hn | hn | hn
 ·have hs : P.step i t = (P.setT i { t with slot:=1,work:={ t.work with next:=2 } },1):=by unfold PSt.step; simp only [hn]
  refine ⟨{ t with slot:=1,work:={ t.work with next:=2 } },by rw [hs]; rfl,?_,fun e=>by omega,?_⟩
  ·intro hh; unfold unl at *; simp only [Bool.and_eq_true,decide_eq_true_eq] at hh ⊢; exact ⟨hb,hh.2.1,by omega⟩
  ·intro n n' hnn;rw [hs,nextC_ne (by omega)];by_cases hr : t.work.kind = 3\/t.work.kind = 4
   ·rw [phi_r3 (t:={ t with slot:=1,work:={ t.work with next:=2 } }) hb hr (by show 2<=3; omega),phi_r3 hb hr (by omega)];show L + 7 - 2 < _; omega
   ·rw [phi_u3 (t:={ t with slot:=1,work:={ t.work with next:=2 } }) hb hr (by show 2<=3; omega),phi_u3 hb hr (by omega)];show L + 15 - 2 + n' * (L + 2) < _
    have:=Nat.mul_le_mul_right (L + 2) hnn
    omega
 ·have hs : P.step i t = (P.setT i { t with work:={ t.work with time:=P.clock,next:=3 } },1):=by unfold PSt.step; simp only [hn]
  refine ⟨{ t with work:={ t.work with time:=P.clock,next:=3 } },by rw [hs]; rfl,?_,fun e=>by omega,?_⟩
  ·intro hh; unfold unl at *; simp only [Bool.and_eq_true,decide_eq_true_eq] at hh ⊢; exact ⟨hb,hh.2.1,by omega⟩
  ·intro n n' hnn;rw [hs,nextC_ne (by omega)];by_cases hr : t.work.kind = 3\/t.work.kind = 4
   ·rw [phi_r3 (t:={ t with work:={ t.work with time:=P.clock,next:=3 } }) hb hr (by show 3<=3; omega),phi_r3 hb hr (by omega)];show L + 7 - 3 < _; omega
   ·rw [phi_u3 (t:={ t with work:={ t.work with time:=P.clock,next:=3 } }) hb hr (by show 3<=3; omega),phi_u3 hb hr (by omega)];show L + 15 - 3 + n' * (L + 2) < _
    have:=Nat.mul_le_mul_right (L + 2) hnn
    omega
 ·have hs : P.step i t = (P.setT i { t with slot:=2,work:=t.work.home },1):=by unfold PSt.step; simp only [hn]
  refine ⟨{ t with slot:=2,work:=t.work.home },by rw [hs]; rfl,?_,fun e=>by omega,?_⟩
  ·intro hh;unfold unl at *;simp only [Bool.and_eq_true,decide_eq_true_eq] at hh ⊢;have : t.work.kind = 1\/t.work.kind = 2:=hh.2.1;exact ⟨hb,this,by omega⟩
  ·intro n n' hnn;rw [hs,nextC_ne (by omega)];by_cases hr : t.work.kind = 3\/t.work.kind = 4
   ·rw [phi_r4 (t:={ t with slot:=2,work:=t.work.home }) hb hr rfl,phi_r3 hb hr (by omega)]
    have:=wp_le (L:=L) (by omega) P.mem C (rx t.work.home)
    show 2 + wp L P.mem C (rx t.work.home) < _;omega
   ·rw [phi_u4 (t:={ t with slot:=2,work:=t.work.home }) hb hr rfl,phi_u3 hb hr (by omega)];show 11 + wp L P.mem C 0 + (n' + stale P.mem C t.work.home) * (L + 2) < _;rw [stale_zero (k:=t.work.home) ⟨h.n.a0.1,.inl rfl⟩]
    have:=wp_le (L:=L) (by omega) P.mem C 0
    have:=Nat.mul_le_mul_right (L + 2) (show n' + 0<=n by omega)
    omega
 ·have hs : P.step i t = (P.setT i t.leave,3):=by unfold PSt.step; simp only [hn]
  refine ⟨t.leave,by rw [hs]; rfl,?_,fun e=>by omega,?_⟩
  ·intro hh; exact nomatch hh
  ·intro n n' hnn;rw [phi_idle rfl];by_cases hr : t.work.kind = 3\/t.work.kind = 4
   ·rw [phi_r13 hb hr hn]; omega
   ·rw [phi_u7 hb hr (by omega)]; omega
 ·have hsm:=step_mid (i:=i) P hn.1 hn.2;by_cases hr : t.work.kind = 3\/t.work.kind = 4
  ·-- a read
   have hn4 : t.work.next = 4:=by have:=hrd hr; omega
   rw [if_pos hr] at hsm;obtain ⟨x,h1,h2,h3,h4,h5⟩:=h.linkIs ht hb hn4 hr;have htm:=hT.tm hb (by omega);have hrx : rx t.work = x:=by
    unfold rx;rcases hr with e | e
    ·rw [if_pos e]; exact (h4 e).symm
    ·rw [if_neg (by omega),h5 e]
   have hp : Pd P.mem x = []:=by
    by_cases q : Pd P.mem x = []
    ·exact q
    ·exfalso;apply hmv;rw [hsm];unfold PSt.read;rw [h1];simp only;rw [if_pos (hasPd_iff.2 q)]
   obtain ⟨n1,n2,n3,n4⟩:=h.led h2 htm.2 h3 hp;have hs : P.step i t = (P.setW i (if t.work.kind = 3 then P.lookUp t.work (P.mem.ledTo x false t.work.time) else P.scan t.work (P.mem.ledTo x false t.work.time)),1):=by
    rw [hsm];unfold PSt.read;rw [h1];simp only;rw [if_neg (by rw [hasPd_iff]; simp [hp])]
   generalize hd : P.mem.ledTo x false t.work.time = d at *;generalize hk : (if t.work.kind = 3 then P.lookUp t.work d else P.scan t.work d) = k at *;have hkk : k.kind = t.work.kind/\(k.next = 13\/(k.next = 4/\rx k = d/\Gd P.mem C d)):=by
    rw [<- hk];rcases hr with e | e
    ·rw [if_pos e];unfold PSt.lookUp;have hps : P.isPassed d t.work.key = decide (Ky P.mem d < t.work.key):=by
      unfold PSt.isPassed; rw [if_neg (by rw [h.kind]; decide)]
     rw [hps];by_cases hlt : Ky P.mem d < t.work.key
     ·rw [if_pos (by simpa using hlt)];refine ⟨rfl,.inr ⟨hn4,?_,?_⟩⟩
      ·unfold rx; rw [if_pos (show t.work.kind = 3 from e)]
      ·have:=hT.ky hb (by omega)
       rcases n1 with n1 | n1
       ·have:=h.n.a1.2.2.2.2.2; rw [n1] at hlt; omega
       ·exact n1
     ·rw [if_neg (by simpa using hlt)]; exact ⟨rfl,.inl rfl⟩
    ·rw [if_neg (by omega)];unfold PSt.scan;have hhi:=hT.hi hb e;simp only [h5 e,List.drop_one,List.tail_cons,List.append_nil];have hlw : P.linksWithin d (leastLo t.work.spans) (greatestHi t.work.spans) = if Ky P.mem d<=greatestHi t.work.spans then [(d,false)] else []:=by
      unfold PSt.linksWithin; rw [if_pos h.kind]
     rw [hlw];by_cases hle : Ky P.mem d<=greatestHi t.work.spans
     ·rw [if_pos hle,if_neg (by simp)];refine ⟨rfl,.inr ⟨hn4,?_,?_⟩⟩
      ·unfold rx; rw [if_neg (show ¬ t.work.kind = 3 by omega)]
      ·rcases n1 with n1 | n1
       ·have:=h.n.a1.2.2.2.2.2; rw [n1] at hle; omega
       ·exact n1
     ·rw [if_neg hle,if_pos (show ([] : List (Int × Bool)).length = 0 from rfl)]; exact ⟨rfl,.inl rfl⟩
   refine ⟨{ t with work:=k },by rw [hs,setW_to P ht],unl_mono hb hkk.1 (fun _=>by omega),fun e=>by omega,?_⟩;intro n n' hnn;rw [hs,nextC_ne (by omega),phi_r4 hb hr hn4,hrx];have hr' : k.kind = 3\/k.kind = 4:=by rw [hkk.1]; exact hr
   show phi L P.mem C n' { t with work:=k } < _;rcases hkk.2 with e | ⟨e1,e2,e3⟩
   ·rw [phi_r13 (t:={ t with work:=k }) hb hr' e]; omega
   ·rw [phi_r4 (t:={ t with work:=k }) hb hr' e1];show 2 + wp L P.mem C (rx k) < _;rw [e2]
    have:=h.wp_lt hL e3 n3 n4
    omega
  ·rw [if_neg hr] at hsm;have hk : t.work.kind = 1\/t.work.kind = 2:=by omega
   unfold PSt.update at hsm;rcases (show t.work.next = 4\/t.work.next = 5\/t.work.next = 6\/t.work.next = 7\/t.work.next = 8\/t.work.next = 9\/t.work.next = 10\/t.work.next = 11\/t.work.next = 12 by omega) with hn | hn | hn | hn | hn | hn | hn | hn | hn
   ·-- walk
    simp only [hn] at hsm;obtain ⟨g1,g2,g3⟩:=hT.xs hb (by omega) (by omega) (by omega);have hky:=hT.ky hb (by omega);have hl0:=hT.l4 hb (.inl (by omega));obtain ⟨n1,n2,n3⟩:=h.next g1
    have hld:=(h.side g1 t.work.key).2.2;refine ⟨{ t with work:=P.walk t.work },by rw [hsm,setW_to P ht],unl_mono hb (by unfold PSt.walk; split <;> rfl) (fun _=>by omega),fun e=>by omega,?_⟩;intro n n' hnn;rw [hsm,nextC_ne (by omega),phi_u4 hb hr hn];show phi L P.mem C n' { t with work:=P.walk t.work } < _;unfold PSt.walk;rw [hld];have hps : P.isPassed (Ld P.mem t.work.stand) t.work.key = decide (Ky P.mem (Ld P.mem t.work.stand) < t.work.key):=by
     unfold PSt.isPassed; rw [if_neg (by rw [h.kind]; decide)]
    rw [hps];by_cases hlt : Ky P.mem (Ld P.mem t.work.stand) < t.work.key
    ·rw [if_pos (by simpa using hlt)];have hg : Gd P.mem C (Ld P.mem t.work.stand):=by
      rcases n1 with n1 | n1
      ·have:=h.n.a1.2.2.2.2.2; rw [n1] at hlt; omega
      ·exact n1
     rw [phi_u4 (t:={ t with work:={ t.work with above:=t.work.stand,stand:=Ld P.mem t.work.stand } }) hb hr hn];show 11 + wp L P.mem C (Ld P.mem t.work.stand) + (n' + stale P.mem C { t.work with above:=t.work.stand,stand:=Ld P.mem t.work.stand }) * (L + 2) < _;have h1:=h.wp_lt hL hg n2 n3;have h2 : stale P.mem C { t.work with above:=t.work.stand,stand:=Ld P.mem t.work.stand }<=stale P.mem C t.work:=by
      by_cases hc : C t.work.stand
      ·rw [stale_zero (k:={ t.work with above:=t.work.stand,stand:=Ld P.mem t.work.stand }) ⟨?_,.inl hn⟩]
       ·omega
       ·rcases (h.n.mc _ hc).2.2.2.1 with q | q
        ·rw [q] at hlt; have:=h.n.a1.2.2.2.2.2; omega
        ·exact q
      ·have : stale P.mem C t.work = 1:=by unfold stale; rw [if_neg (fun hh=>hc hh.1)]
       rw [this]; exact stale_le _ _ _
     have:=mul_mono (L:=L) hnn h2
     omega
    ·rw [if_neg (by simpa using hlt)];rw [phi_u5 (t:={ t with work:={ t.work with ahead:=Ld P.mem t.work.stand,next:=5 } }) hb hr rfl];show 11 - t.work.locks + (n' + stale P.mem C { t.work with ahead:=Ld P.mem t.work.stand,next:=5 }) * (L + 2) < _;have h1:=h.wp_pos hL2 t.work.stand;have h2 : stale P.mem C { t.work with ahead:=Ld P.mem t.work.stand,next:=5 }<=stale P.mem C t.work:=by
      by_cases hc : C t.work.stand
      ·rw [stale_zero (k:={ t.work with ahead:=Ld P.mem t.work.stand,next:=5 }) ⟨hc,.inr rfl⟩]; omega
      ·have : stale P.mem C t.work = 1:=by unfold stale; rw [if_neg (fun hh=>hc hh.1)]
       rw [this]; exact stale_le _ _ _
     have:=mul_mono (L:=L) hnn h2
     omega
   ·-- lock
    simp only [hn] at hsm;rcases h.lock ht hb hn with ⟨_,q,_⟩ | ⟨_,q⟩
    ·have hq:=hsm.trans q;generalize hnn : (if wl P.mem t.work<=t.work.locks + 1 then 6 else 5) = nn at hq;have hn56 : nn = 6\/nn = 5:=by rw [<- hnn]; split <;> omega
     refine ⟨{ t with work:={ t.work with locks:=t.work.locks + 1,next:=nn } },by rw [hq,setMW_to P ht],unl_mono hb rfl (fun _=>by omega),fun e=>by omega,?_⟩;intro n n' hle;rw [hq,nextC_ne (by omega),phi_u5 hb hr hn];have hst : stale (P.mem.modN (lockNext t.work) fun x=>{ x with holder:=(i : Int) }) C { t.work with locks:=t.work.locks + 1,next:=nn }<=stale P.mem C t.work:=by
      have hnl:=nl_modN P.mem (lockNext t.work) (fun x=>{ x with holder:=(i : Int) }) (fun e=>⟨⟨rfl,rfl⟩,id,rfl⟩) t.work.stand;by_cases hc : C t.work.stand/\Ld P.mem t.work.stand = t.work.ahead
      ·rw [stale_zero (k:={ t.work with locks:=t.work.locks + 1,next:=nn }) ⟨hc.1,.inr (hnl.2.trans hc.2)⟩]; omega
      ·have : stale P.mem C t.work = 1:=by
        unfold stale;rw [if_neg];rintro ⟨a,b | b⟩
        ·omega
        ·exact hc ⟨a,b⟩
       rw [this]; exact stale_le _ _ _
     have hmm:=mul_mono (L:=L) hle hst;have hlk:=hT.l5 hb hn
     have:=(wl_pos P.mem t.work).2
     show phi L (P.mem.modN (lockNext t.work) fun x=>{ x with holder:=(i : Int) }) C n' { t with work:={ t.work with locks:=t.work.locks + 1,next:=nn } } < _;rcases hn56 with e | e
     ·rw [phi_u6 (t:={ t with work:={ t.work with locks:=t.work.locks + 1,next:=nn } }) hb hr e];show 9 + (n' + stale _ C { t.work with locks:=t.work.locks + 1,next:=nn }) * (L + 2) < _;omega
     ·rw [phi_u5 (t:={ t with work:={ t.work with locks:=t.work.locks + 1,next:=nn } }) hb hr e];show 11 - (t.work.locks + 1) + (n' + stale _ C { t.work with locks:=t.work.locks + 1,next:=nn }) * (L + 2) < _;omega
    ·exact absurd (by rw [hsm,q]) hmv
   ·-- check
    simp only [hn] at hsm;have hout:=h.outd ht hb (by omega) (by omega) (by omega);have hck : P.check i t.work = if P.outdated t.work then (P.setM (P.mem.unlock i)).setW i ({ t.work with locks:=0 } : PWork).home else if P.meetsKey t.work == (t.work.kind == 1) then P.setW i (t.work.settle { stamp:=P.clock }) else P.setW i { t.work with next:=7 }:=rfl
    by_cases ho : P.outdated t.work = true
    ·rw [hck,if_pos ho] at hsm;refine ⟨{ t with work:=({ t.work with locks:=0 } : PWork).home },by rw [hsm,setMW_to P ht],unl_mono hb rfl (fun _=>by omega),fun e=>by omega,?_⟩;intro n n' hle;rw [hsm,nextC_ne (by omega),phi_u6 hb hr hn]
     -- the check fails only where the walk is stale
     have hst : stale P.mem C t.work = 1:=by
      unfold stale;rw [if_neg];rintro ⟨hC,q⟩;have q : Ld P.mem t.work.stand = t.work.ahead:=q.resolve_left (by omega);apply hout.1 ho;have hsH:=hT.hStand hb (by omega) (by omega);refine ⟨?_,q,?_⟩
      ·cases hd : (P.mem.node t.work.stand).dead
       ·rfl
       ·exfalso;obtain ⟨j,u,hj,y1,y2,y3,y4⟩:=h.o.ki _ hd hC;have hU:=h.th j u hj;have hA:=hU.hAhead y1 (by omega) (by omega) y2 ((hU.c7 y1 (by omega) (by omega)).2.2.2 y2);rw [y4,hsH.2] at hA;have : i = j:=by have:=hA.2; omega
        subst this;rw [ht] at hj; injection hj with hj; subst hj
        omega
      ·cases hd : (P.mem.node t.work.ahead).dead
       ·rfl
       ·exfalso;have hCa : C t.work.ahead:=by
         rcases (h.n.mc _ hC).2.2.2.1 with z | z
         ·rw [q] at z; rw [z,h.n.a1.2.2.2.1] at hd; cases hd
         ·rw [q] at z; exact z
        obtain ⟨j,u,hj,y1,y2,y3,y4⟩:=h.o.ki _ hd hCa;have hU:=h.th j u hj;have hc7:=hU.c7 y1 (by omega) (by omega);have hc10:=hU.c10 y1 (by omega) (by omega);have hS:=hU.hStand y1 (by omega) (by omega);have heq : u.work.stand = t.work.stand:=h.n.mi _ _ hc7.1 hC (by rw [hc10,y4,q]);rw [heq,hsH.2] at hS;have : i = j:=by have:=hS.2; omega
        subst this;rw [ht] at hj; injection hj with hj; subst hj
        omega
     rw [hst];show phi L (P.mem.unlock i) C n' { t with work:=({ t.work with locks:=0 } : PWork).home } < _;rw [phi_u4 (t:={ t with work:=({ t.work with locks:=0 } : PWork).home }) hb hr rfl];show 11 + wp L (P.mem.unlock i) C 0 + (n' + stale (P.mem.unlock i) C ({ t.work with locks:=0 } : PWork).home) * (L + 2) < _;rw [stale_zero (k:=({ t.work with locks:=0 } : PWork).home) ⟨h.n.a0.1,.inl rfl⟩];have h1:=wp_le (L:=L) (by omega) (P.mem.unlock i) C 0;have h2:=Nat.mul_le_mul_right (L + 2) (show n' + 0<=n by omega);have h3 : (n + 1) * (L + 2) = n * (L + 2) + (L + 2):=by rw [Nat.add_mul]; omega
     omega
    ·rw [hck,if_neg ho] at hsm;by_cases hm : (P.meetsKey t.work == (t.work.kind == 1)) = true
     ·rw [if_pos hm] at hsm;exact ⟨_,Nearer.late (k:=t.work.settle { stamp:=P.clock }) hb hr (by omega) (by rw [hsm,setW_to P ht]) rfl (by show _ < 12; omega) (by show 12<=13; omega) (fun e=>by omega) hk⟩
     ·rw [if_neg hm] at hsm;exact ⟨_,Nearer.late (k:={ t.work with next:=7 }) hb hr (by omega) (by rw [hsm,setW_to P ht]) rfl (by show _ < 7; omega) (by show 7<=13; omega) (fun e=>by omega) hk⟩
   ·-- prepare
    simp only [hn] at hsm;have hpr : P.prepare i t.work = if P.mem.room.1 < (P.needs t.work.kind).1\/P.mem.room.2 < (P.needs t.work.kind).2 then P.setW i (t.work.settle { err:=7 }) else (P.setM (if t.work.kind = 1 then P.prepareInsert t.work else P.prepareRemove t.work).1).setW i { (if t.work.kind = 1 then P.prepareInsert t.work else P.prepareRemove t.work).2 with next:=8 }:=rfl
    rw [hpr] at hsm;by_cases hroom : P.mem.room.1 < (P.needs t.work.kind).1\/P.mem.room.2 < (P.needs t.work.kind).2
    ·rw [if_pos hroom] at hsm;exact ⟨_,Nearer.late (k:=t.work.settle { err:=7 }) hb hr (by omega) (by rw [hsm,setW_to P ht]) rfl (by show _ < 12; omega) (by show 12<=13; omega) (fun e=>by omega) hk⟩
    ·rw [if_neg hroom] at hsm;have hkd2 : (if t.work.kind = 1 then P.prepareInsert t.work else P.prepareRemove t.work).2.kind = t.work.kind:=by
      split
      ·unfold PSt.prepareInsert; simp only; split <;> rfl
      ·unfold PSt.prepareRemove; simp only; split <;> rfl
     generalize (if t.work.kind = 1 then P.prepareInsert t.work else P.prepareRemove t.work) = pp at *;exact ⟨_,Nearer.late (k:={ pp.2 with next:=8 }) hb hr (by omega) (by rw [hsm,setMW_to P ht]) hkd2 (by show _ < 8; omega) (by show 8<=13; omega) (fun e=>by omega) hk⟩
   ·-- take
    simp only [hn] at hsm;have htk : P.take i t.work = if P.limit<=P.clock then (P.setM ((P.mem.unpend t.work.tsrc t.work.tside).frees t.work.made)).setW i (t.work.settle { err:=8 }) else if t.work.kind = 2 then ({ P with clock:=P.clock + 1 } : PSt).setW i { t.work with ans:={ did:=true,stamp:=P.clock + 1,value:=(P.mem.node t.work.ahead).value },next:=9 } else (({ P with clock:=P.clock + 1 } : PSt).setM (P.mem.stampsNew (P.clock + 1) t.work.made)).setW i { t.work with ans:={ did:=true,stamp:=P.clock + 1 },next:=10 }:=rfl
    rw [htk] at hsm;by_cases hlim : P.limit<=P.clock
    ·rw [if_pos hlim] at hsm;exact ⟨_,Nearer.late (k:=t.work.settle { err:=8 }) hb hr (by omega) (by rw [hsm,setMW_to P ht]) rfl (by show _ < 12; omega) (by show 12<=13; omega) (fun e=>by omega) hk⟩
    ·rw [if_neg hlim] at hsm;by_cases hk2 : t.work.kind = 2
     ·rw [if_pos hk2] at hsm;exact ⟨_,Nearer.late (k:={ t.work with ans:={ did:=true,stamp:=P.clock + 1,value:=(P.mem.node t.work.ahead).value },next:=9 }) hb hr (by omega) (by rw [hsm,setW_to { P with clock:=P.clock + 1 } ht]) rfl (by show _ < 9; omega) (by show 9<=13; omega) (fun e=>by omega) hk⟩
     ·rw [if_neg hk2] at hsm;exact ⟨_,Nearer.late (k:={ t.work with ans:={ did:=true,stamp:=P.clock + 1 },next:=10 }) hb hr (by omega) (by rw [hsm,setMW_to { P with clock:=P.clock + 1 } ht]) rfl (by show _ < 10; omega) (by show 10<=13; omega) (fun e=>by omega) hk⟩
   ·simp only [hn] at hsm;exact ⟨_,Nearer.late (k:={ t.work with next:=10 }) hb hr (by omega) (by rw [hsm,setMW_to P ht]) rfl (by show _ < 10; omega) (by show 10<=13; omega) (fun e=>by omega) hk⟩
   ·simp only [hn] at hsm;exact ⟨_,Nearer.late (k:={ t.work with next:=11 }) hb hr (by omega) (by rw [hsm,setMW_to P ht]) rfl (by show _ < 11; omega) (by show 11<=13; omega) (fun e=>rfl) hk⟩
   ·simp only [hn] at hsm;exact ⟨_,Nearer.late (k:={ t.work with next:=12 }) hb hr (by omega) (by rw [hsm,setMW_to P ht]) rfl (by show _ < 12; omega) (by show 12<=13; omega) (fun e=>by omega) hk⟩
   ·simp only [hn] at hsm;have hul : P.unlock i t.work = (P.setM (if t.work.kind = 2/\t.work.ans.did = true then (P.mem.unlock i).retires P.clock (P.takenOut t.work) else P.mem.unlock i)).setW i { t.work with locks:=0,next:=13 }:=rfl;rw [hul] at hsm;exact ⟨_,Nearer.late (k:={ t.work with locks:=0,next:=13 }) hb hr (by omega) (by rw [hsm,setMW_to P ht]) rfl (by show _ < 13; omega) (by show 13<=13; omega) (fun e=>by omega) hk⟩
theorem Inv.drops (h : Inv C P) (hL : P.mem.ns.length = L) (ht : P.ts[i]? = some t) (hb : t.busy = true) (hmv : (P.step i t).2≠2) : Phi L (nextC C t) (P.step i t).1 < Phi L C P:=by
 obtain ⟨t',hN⟩:=h.near hL ht hb hmv;have hke:=h.keeps ht hb;have hgd : ∀ x,Gd P.mem C x->Gd (P.step i t).1.mem (nextC C t) x:=by
  intro x hx;rcases hx with hx | hx
  ·unfold nextC;split
   ·next hh =>
    by_cases e : x = t.work.ahead
    ·right;subst e;exact (hke _ (.inr (.inl hx))).1.2 ((h.th i t ht).d10 hb hh.2 hh.1)
    ·exact .inl ⟨hx,e⟩
   ·split
    ·exact .inl (.inl hx)
    ·exact .inl hx
  ·exact .inr ((hke x (.inr (.inr hx))).1.2 hx)
 unfold Phi;rw [hN.ts];have hle:=count_set_le unl ht hN.un;refine sum_set _ _ P.ts i t t' ht ?_ (hN.lt _ _ hle);intro j u hj hu;refine Th.phi_le h hu (fun x hx=>⟨(hke x hx).1,hgd x⟩) ?_;by_cases h10 : t.work.next = 10
 ·left;obtain ⟨z1,z2⟩:=hN.ln h10
  have:=count_set_e unl ht z1 z2
  omega
 ·right;exact ⟨hle,nextC_ne h10,fun x hx=>((hke x (.inr hx)).2 h10).2⟩
end
end
section
theorem pend_len (M : PMem) (n : Int) (s : Bool) (to : Int) : (M.pend n s to).ns.length = M.ns.length:=by rw [pend_ns]
theorem addLink_len (M : PMem) (n to : Int) : (M.addLink n to).ns.length = M.ns.length:=by
 unfold PMem.addLink;split
 ·split
  ·rw [pend_len,modN_len]
  ·rw [pend_len,modN_len]
  ·rfl
 ·rfl
theorem make_len (M : PMem) (a b : Int) : (M.make a b).1.ns.length = M.ns.length:=by unfold PMem.make; split <;> simp
theorem free_len (M : PMem) (n : Int) : (M.free n).ns.length = M.ns.length:=by unfold PMem.free; split <;> simp
theorem frees_len : ∀ (l : List Int) (M : PMem),(M.frees l).ns.length = M.ns.length
 | [],_=>rfl
 | n :: l,M=>by show ((M.free n).frees l).ns.length = _; rw [frees_len l,free_len]
theorem freesIf_len (ht : Bool) (tm : Int) : ∀ (l : List Nat) (M : PMem),(M.freesIf ht tm l).ns.length = M.ns.length
 | [],_=>rfl
 | n :: l,M=>by
  unfold PMem.freesIf;rw [freesIf_len ht tm l];split
  ·exact free_len _ _
  ·rfl
theorem kills_len : ∀ (l : List Int) (M : PMem),(M.kills l).ns.length = M.ns.length
 | [],_=>rfl
 | n :: l,M=>by show ((M.kill n).kills l).ns.length = _; rw [kills_len l]; exact modN_len _ _ _
theorem retires_len (tm : Int) : ∀ (l : List Int) (M : PMem),(M.retires tm l).ns.length = M.ns.length
 | [],_=>rfl
 | n :: l,M=>by show ((M.retire n tm).retires tm l).ns.length = _; rw [retires_len tm l]; exact modN_len _ _ _
theorem lock_len (M : PMem) (n t : Int) : (M.lock n t).1.ns.length = M.ns.length:=by
 unfold PMem.lock;split
 ·split
  ·rfl
  ·exact modN_len _ _ _
 ·rfl
theorem lead_len (M : PMem) (n : Int) (s : Bool) : (M.lead n s).ns.length = M.ns.length:=by
 unfold PMem.lead; split
 ·exact modN_len _ _ _
 ·rfl
theorem unlock_len (M : PMem) (t : Int) : (M.unlock t).ns.length = M.ns.length:=by simp [PMem.unlock]
section
variable {C C' : Int->Prop} {i j : Nat} {t : PThread} {P : PSt} {L : Nat}
theorem step_len (hk : P.kind = 0) : (P.step i t).1.mem.ns.length = P.mem.ns.length:=by
 unfold PSt.step;split
 ·rfl
 ·rfl
 ·rfl
 ·rfl
 ·split
  ·unfold PSt.read;simp only;split <;> rfl
  ·unfold PSt.update;split
   ·rfl
   ·unfold PSt.lock;split
    ·split
     ·exact lock_len _ _ _
     ·rfl
    ·rfl
   ·show (P.check i t.work).mem.ns.length = _;unfold PSt.check;split
    ·exact unlock_len _ _
    ·split <;> rfl
   ·show (P.prepare i t.work).mem.ns.length = _;unfold PSt.prepare;split
    ·rfl
    ·show (if t.work.kind = 1 then P.prepareInsert t.work else P.prepareRemove t.work).1.ns.length = _;split
     ·unfold PSt.prepareInsert;simp only [if_pos hk];rw [pend_len,addLink_len,make_len]
     ·unfold PSt.prepareRemove;simp only [if_pos hk];rw [pend_len]
   ·show (P.take i t.work).mem.ns.length = _;unfold PSt.take;split
    ·show ((P.mem.unpend _ _).frees _).ns.length = _;rw [frees_len,unpend_ns]
    ·simp only;split
     ·rfl
     ·show (P.mem.stampsNew _ _).ns.length = _;rw [stampsNew_ns]
   ·exact kills_len _ _
   ·exact lead_len _ _ _
   ·show (P.mem.stamp _ _ _).ns.length = _;rw [stamp_ns]
   ·show (P.unlock i t.work).mem.ns.length = _;unfold PSt.unlock;simp only;show (if _ then _ else _ : PMem).ns.length = _;split
    ·rw [retires_len,unlock_len]
    ·exact unlock_len _ _
   ·rfl
theorem sweep_len : P.doSweep.1.mem.ns.length = P.mem.ns.length:=by
 unfold PSt.doSweep;simp only;split
 ·rfl
 ·split
  ·split <;> rfl
  ·split
   ·rfl
   ·exact freesIf_len _ _ _ _
theorem sum_le (f : PThread->Nat) (K : Nat) : ∀ (l : List PThread),(∀ t ∈ l,f t<=K)->(l.map f).sum<=l.length * K
 | [],_=>by simp
 | a :: l,h=>by
  have ih:=sum_le f K l (fun t ht=>h t (by simp [ht]));have ha:=h a (by simp);simp only [List.map_cons,List.sum_cons,List.length_cons,Nat.add_mul];omega
theorem filt_len {α : Type} (p : α->Bool) (l : List α) : count p l<=l.length:=by unfold count; exact List.length_filter_le _ _
theorem Inv.bound (h : Inv C P) (N : Nat) : Phi (N + 2) C P<=P.ts.length * ((P.ts.length + 2) * (N + 16)):=by
 unfold Phi;refine sum_le _ _ _ ?_;intro t ht;obtain ⟨i,hi⟩:=List.mem_iff_getElem?.1 ht;have hT:=h.th i t hi;have hu:=filt_len unl P.ts;generalize count unl P.ts = u at *;generalize P.ts.length = T at *;have e1 : (T + 2) * (N + 16) = (T + 1) * (N + 4) + (T + 1) * 12 + (N + 16):=by
  rw [show T + 2 = (T + 1) + 1 by omega,Nat.add_mul (T + 1) 1,show N + 16 = (N + 4) + 12 by omega,Nat.mul_add (T + 1)]; omega
 rw [e1];have e2 : ∀ s,s<=1->(u + s) * (N + 2 + 2)<=(T + 1) * (N + 4):=fun s hs=>Nat.mul_le_mul (by omega) (by omega)
 by_cases hb : t.busy = true
 ·have hnx:=hT.nx hb;by_cases hr : t.work.kind = 3\/t.work.kind = 4
  ·rcases hT.rd hb hr with h4 | h13
   ·rcases (show t.work.next = 4\/t.work.next<=3 by omega) with e | e
    ·rw [phi_r4 hb hr e]
     have:=wp_le (L:=N + 2) (by omega) P.mem C (rx t.work)
     omega
    ·rw [phi_r3 hb hr e]; omega
   ·rw [phi_r13 hb hr h13]; omega
  ·have hs:=e2 _ (stale_le P.mem C t.work);rcases (show 7<=t.work.next\/t.work.next = 6\/t.work.next = 5\/t.work.next = 4\/t.work.next<=3 by omega) with e | e | e | e | e
   ·rw [phi_u7 hb hr e]; omega
   ·rw [phi_u6 hb hr e]; omega
   ·rw [phi_u5 hb hr e]; omega
   ·rw [phi_u4 hb hr e]
    have:=wp_le (L:=N + 2) (by omega) P.mem C t.work.stand
    omega
   ·rw [phi_u3 hb hr e]
    have:=e2 0 (by omega)
    simp only [Nat.add_zero] at this;omega
 ·rw [phi_idle (by simpa using hb)]; omega
end
end
section
def SmallAns (a : BAns) : Prop:=a.spans.length<=16/\∀ l ∈ a.spans,l.length<=64
theorem SmallAns.zero {a : BAns} (h : a.spans = []) : SmallAns a:=⟨by rw [h]; simp,by rw [h]; simp⟩
structure FitK (N : Nat) (k : PWork) : Prop where
 kd : k.kind = 1\/k.kind = 2\/k.kind = 3\/k.kind = 4
 nx : 1<=k.next/\k.next<=13
 rd : (k.kind = 3\/k.kind = 4)->k.next<=4\/k.next = 13
 made : k.made.length<=2/\(k.next<=7->k.made = [])
 locks : k.locks<=2
 links : k.kind = 4->k.next<=4->k.links.length = 1
 spans : k.kind = 4->k.spans.length<=16
 noted : k.noted.length<=N
 ans : SmallAns k.ans
abbrev FitT (N : Nat) (t : PThread) : Prop:=FitK N t.work
structure Fit (N : Nat) (P : PSt) : Prop where
 kind : P.kind = 0
 clk : 0<=P.clock/\P.clock<=P.limit
 lim : P.limit<=1099511627776
 thr : 1<=P.ts.length/\P.ts.length<=8
 swp : P.sweep.made<=P.ts.length + 2/\P.sweep.retired.length<=66
 th : ∀ (i : Nat) t,P.ts[i]? = some t->(t.busy = true->FitT N t)/\SmallAns t.last
section
variable {N : Nat} {P : PSt} {i : Nat} {t : PThread}
theorem FitK.mono {N' : Nat} {k : PWork} (h : FitK N k) (hN : N<=N') : FitK N' k:=⟨h.kd,h.nx,h.rd,h.made,h.locks,h.links,h.spans,Nat.le_trans h.noted hN,h.ans⟩
theorem setW_eq (P : PSt) {i : Nat} {t : PThread} (ht : P.ts[i]? = some t) (k : PWork) : P.ts.modify i (fun t=>{ t with work:=k }) = P.ts.set i { t with work:=k }:=by
 apply List.ext_getElem?;intro j;rw [List.getElem?_modify,List.getElem?_set];by_cases e : i = j
 ·subst e;obtain ⟨h1,h2⟩:=List.getElem?_eq_some_iff.1 ht;simp [h1,h2]
 ·simp [e]
structure Turned (N : Nat) (P : PSt) (i : Nat) (t : PThread) (R : PSt × Int) : Prop where
 to : ∃ M c t',R.1 = { P with mem:=M,clock:=c,ts:=P.ts.set i t' }/\(c = P.clock\/(c = P.clock + 1/\P.clock < P.limit))/\(t'.busy = true->FitT (N + 1) t')/\SmallAns t'.last/\t'.busy = (if R.2 = 3 then false else true)/\(R.2≠3->t'.hasEnded = t.hasEnded/\t'.last = t.last)
 how : 1<=R.2/\R.2<=3
theorem answerOf_small (spans noted : List (Int × Int)) (st : Int) (h : spans.length<=16) : SmallAns (answerOf spans noted st):=by
 unfold answerOf;split
 ·exact SmallAns.zero rfl
 ·next hh =>
  refine ⟨by simp [spanLists,h],?_⟩;have key : ∀ (ll : List (List (Int × Int))) l,l ∈ ll->l.length<=lensOf ll:=by
   intro ll
   induction ll with
   | nil=>intro l hl; simp at hl
   | cons a r ih =>
    intro l hl;rw [lensOf];rcases List.mem_cons.1 hl with rfl | hl
    ·omega
    ·have:=ih l hl; omega
  intro l hl
  have:=key _ l hl
  simp only at this;omega
theorem Turned.work (ht : P.ts[i]? = some t) (hb : t.busy = true) (hl : SmallAns t.last) {M : PMem} {c : Int} {k : PWork} {n : Int} (hn : n = 1\/n = 2) (hc : c = P.clock\/(c = P.clock + 1/\P.clock < P.limit)) (hk : FitT (N + 1) { t with work:=k }) :
  Turned N P i t (({ P with mem:=M,clock:=c } : PSt).setW i k,n):=by
 refine ⟨⟨M,c,{ t with work:=k },?_,hc,fun _=>hk,hl,?_,fun _=>⟨rfl,rfl⟩⟩,by show 1<=n/\n<=3; omega⟩
 ·unfold PSt.setW;simp only;rw [setW_eq P ht]
 ·rw [if_neg (show ¬ n = 3 by omega)]; exact hb
theorem Turned.same (ht : P.ts[i]? = some t) (hb : t.busy = true) (hl : SmallAns t.last) (hk : FitT N t) {n : Int} (hn : n = 1\/n = 2) : Turned N P i t (P,n):=by
 refine ⟨⟨P.mem,P.clock,t,?_,.inl rfl,fun _=>hk.mono (Nat.le_succ N),hl,?_,fun _=>⟨rfl,rfl⟩⟩,by show 1<=n/\n<=3; omega⟩
 ·have : P.ts.set i t = P.ts:=by
   apply List.ext_getElem?;intro j;rw [List.getElem?_set];split
   ·next e=>subst e; split <;> simp_all
   ·rfl
  simp only;rw [this]
 ·rw [if_neg (show ¬ n = 3 by omega)]; exact hb
theorem Fit.turn (h : Fit N P) (ht : P.ts[i]? = some t) (hb : t.busy = true) : Turned N P i t (P.step i t):=by
 obtain ⟨hT,hl⟩:=h.th i t ht;have hT:=hT hb;have hk0:=h.kind;have hnx:=hT.nx;have m1:=hT.made;have fit : ∀ k : PWork,k.kind = t.work.kind->(1<=k.next/\k.next<=13)->((k.kind = 3\/k.kind = 4)->k.next<=4\/k.next = 13)->(k.made.length<=2/\(k.next<=7->k.made = []))->k.locks<=2->(k.kind = 4->k.next<=4->k.links.length = 1)->k.spans = t.work.spans->k.noted.length<=N + 1->SmallAns k.ans->FitK (N + 1) k:=by
  intro k e1 e2 e3 e4 e5 e6 e7 e8 e9;exact ⟨by show k.kind = 1\/_; rw [e1]; exact hT.kd,e2,e3,e4,e5,e6,fun h4=>by show k.spans.length<=16; rw [e7]; exact hT.spans (e1 ▸ h4),e8,e9⟩
 have hN : t.work.noted.length<=N + 1:=Nat.le_trans hT.noted (Nat.le_succ N);have sT : ∀ (t' : PThread) n,t'.busy = true->t'.last = t.last->t'.hasEnded = t.hasEnded->FitT (N + 1) t'->(n = 1\/n = 2)->Turned N P i t (P.setT i t',n):=by
  intro t' n hb' hl' he' hf hn;refine ⟨⟨P.mem,P.clock,t',rfl,.inl rfl,fun _=>hf,hl' ▸ hl,?_,fun _=>⟨he',hl'⟩⟩,by show 1<=n/\n<=3; omega⟩;rw [if_neg (show ¬ n = 3 by omega)]; exact hb'
 have hkd:=hT.kd;have upd : ¬ (t.work.kind = 3\/t.work.kind = 4)->∀ k : PWork,k.kind = t.work.kind->¬ (k.kind = 3\/k.kind = 4):=fun h1 k e=>e ▸ h1
 unfold PSt.step;split
 ·next hn=>exact sT _ 1 hb rfl rfl (fit _ rfl (by constructor <;> (simp only; omega)) (fun hr=>.inl (by simp only; omega)) ⟨m1.1,fun _=>m1.2 (by omega)⟩ hT.locks (fun h4 _=>hT.links h4 (by omega)) rfl hN hT.ans) (.inl rfl)
 ·next hn=>exact sT _ 1 hb rfl rfl (fit _ rfl (by constructor <;> (simp only; omega)) (fun hr=>.inl (by simp only; omega)) ⟨m1.1,fun _=>m1.2 (by omega)⟩ hT.locks (fun h4 _=>hT.links h4 (by omega)) rfl hN hT.ans) (.inl rfl)
 ·next hn=>exact sT _ 1 hb rfl rfl (fit t.work.home rfl (by simp [PWork.home]) (fun hr=>.inl (by simp [PWork.home])) ⟨m1.1,fun _=>m1.2 (by omega)⟩ hT.locks (fun h4 _=>hT.links h4 (by omega)) rfl hN hT.ans) (.inl rfl)
 ·next hn =>
  refine ⟨⟨P.mem,P.clock,t.leave,rfl,.inl rfl,fun hh=>?_,hT.ans,?_,fun hh=>absurd rfl hh⟩,by show (1 : Int)<=3/\(3 : Int)<=3; decide⟩
  ·simp [PThread.leave] at hh
  ·simp [PThread.leave]
 ·next n1 n2 n3 n13 =>
  have n1' : t.work.next≠1:=n1
  have n2' : t.work.next≠2:=n2
  have n3' : t.work.next≠3:=n3
  have n13' : t.work.next≠13:=n13
  split
  ·next hr =>
   -- a read
   have hn4 : t.work.next = 4:=by have:=hT.rd hr; omega
   unfold PSt.read;simp only;split
   ·exact Turned.same ht hb hl hT (.inr rfl)
   ·have goal : ∀ k : PWork,FitT (N + 1) { t with work:=k }->Turned N P i t (P.setW i k,1):=fun k hk=>Turned.work (M:=P.mem) (c:=P.clock) ht hb hl (.inl rfl) (.inl rfl) hk
    by_cases h3 : t.work.kind = 3
    ·rw [if_pos h3];apply goal;unfold PSt.lookUp;split
     ·exact fit _ rfl (by simp only; omega) (fun _=>.inl (by simp only; omega)) ⟨m1.1,fun _=>m1.2 (by omega)⟩ hT.locks (fun h4=>by have : t.work.kind = 4:=h4; omega) rfl hN hT.ans
     ·refine fit _ rfl (by simp [PWork.conclude]) (fun _=>.inr rfl) ⟨m1.1,fun hh=>by simp [PWork.conclude] at hh⟩ hT.locks (fun h4=>absurd h4 (by simp [PWork.conclude,h3])) rfl hN ?_;simp only [PWork.conclude];split <;> exact SmallAns.zero rfl
    ·have h4 : t.work.kind = 4:=by omega
     rw [if_neg h3];apply goal;have hlk:=hT.links h4 (by omega);have hsp:=hT.spans h4;unfold PSt.scan;simp only;have hno : ∀ (b : Bool) (q : Int × Int),(if b = true then t.work.noted ++ [q] else t.work.noted).length<=N + 1:=by
      intro b q
      have:=hT.noted
      split
      ·rw [List.length_append]; simp; omega
      ·omega
     split
     ·exact fit _ rfl (by simp [PWork.conclude]) (fun _=>.inr rfl) ⟨m1.1,fun hh=>by simp [PWork.conclude] at hh⟩ hT.locks (fun _ hh=>by simp [PWork.conclude] at hh) rfl (hno _ _) (answerOf_small _ _ _ hsp)
     ·next hne =>
      refine fit _ rfl (by simp [hn4]) (fun _=>.inl (by simp [hn4])) ⟨m1.1,fun _=>m1.2 (by omega)⟩ hT.locks (fun _ _=>?_) rfl (hno _ _) hT.ans;simp only [List.length_append,List.length_drop,hlk] at hne ⊢;unfold PSt.linksWithin at hne ⊢;rw [if_pos hk0] at hne ⊢;split
      ·rfl
      ·next hh=>rw [if_neg hh] at hne; simp at hne
  ·next hr =>
   -- an update
   have hnr : ∀ k : PWork,k.kind = t.work.kind->¬ (k.kind = 3\/k.kind = 4):=upd hr;have n4 : ∀ k : PWork,k.kind = t.work.kind->¬ k.kind = 4:=fun k e h4=>hnr k e (.inr h4)
   have go : ∀ (M : PMem) (c : Int) (k : PWork),(c = P.clock\/(c = P.clock + 1/\P.clock < P.limit))->k.kind = t.work.kind->(1<=k.next/\k.next<=13)->(k.made.length<=2/\(k.next<=7->k.made = []))->k.locks<=2->k.spans = t.work.spans->k.noted = t.work.noted->SmallAns k.ans->Turned N P i t (({ P with mem:=M,clock:=c } : PSt).setW i k,1):=by
    intro M c k hc e1 e2 e3 e4 e5 e6 e7;exact Turned.work ht hb hl (.inl rfl) hc (fit k e1 e2 (fun hh=>absurd hh (hnr k e1)) e3 e4 (fun hh=>absurd hh (n4 k e1)) e5 (e6 ▸ hN) e7)
   unfold PSt.update;split
   ·next hn =>
    refine go P.mem P.clock _ (.inl rfl) ?_ ?_ ?_ ?_ ?_ ?_ ?_ <;> unfold PSt.walk <;> split
    all_goals first | rfl | exact hT.ans | exact hT.locks | (simp only; omega) | exact ⟨m1.1,fun _=>m1.2 (by omega)⟩
   ·next hn =>
    unfold PSt.lock;split
    ·next hlt =>
     have hwl : (P.wanted t.work).length<=2:=by
      unfold PSt.wanted;split
      ·split <;> simp
      ·simp
     split
     ·refine go _ P.clock _ (.inl rfl) rfl ?_ ⟨m1.1,fun _=>m1.2 (by omega)⟩ (by simp only; omega) rfl rfl hT.ans;simp only;split <;> omega
     ·exact Turned.same ht hb hl hT (.inr rfl)
    ·exact go P.mem P.clock _ (.inl rfl) rfl (by simp) ⟨m1.1,fun _=>m1.2 (by omega)⟩ hT.locks rfl rfl hT.ans
   ·next hn =>
    unfold PSt.check;split
    ·exact go _ P.clock _ (.inl rfl) rfl (by simp [PWork.home]) ⟨m1.1,fun _=>m1.2 (by omega)⟩ (by simp [PWork.home]) rfl rfl hT.ans
    ·split
     ·exact go P.mem P.clock _ (.inl rfl) rfl (by simp [PWork.settle]) ⟨m1.1,fun hh=>by simp [PWork.settle] at hh⟩ hT.locks rfl rfl (SmallAns.zero rfl)
     ·exact go P.mem P.clock _ (.inl rfl) rfl (by simp) ⟨m1.1,fun _=>m1.2 (by omega)⟩ hT.locks rfl rfl hT.ans
   ·next hn =>
    have hm0:=m1.2 (by omega);unfold PSt.prepare;split
    ·exact go P.mem P.clock _ (.inl rfl) rfl (by simp [PWork.settle]) ⟨m1.1,fun hh=>by simp [PWork.settle] at hh⟩ hT.locks rfl rfl (SmallAns.zero rfl)
    ·refine go _ P.clock _ (.inl rfl) ?_ (by simp) ?_ ?_ ?_ ?_ ?_ <;> by_cases h1 : t.work.kind = 1 <;> simp only [h1,if_true,if_false] <;> first | (unfold PSt.prepareInsert; simp only [hk0,if_true,hm0]) | (unfold PSt.prepareRemove; simp only [hk0,if_true,hm0])
     all_goals first | rfl | exact hT.ans | exact hT.locks | exact h1 | (constructor <;> simp)
   ·next hn =>
    unfold PSt.take;split
    ·exact go _ P.clock _ (.inl rfl) rfl (by simp [PWork.settle]) ⟨m1.1,fun hh=>by simp [PWork.settle] at hh⟩ hT.locks rfl rfl (SmallAns.zero rfl)
    ·next hlim =>
     have hc : P.clock + 1 = P.clock\/(P.clock + 1 = P.clock + 1/\P.clock < P.limit):=.inr ⟨rfl,by omega⟩;simp only;split
     ·exact go P.mem (P.clock + 1) _ hc rfl (by simp) ⟨m1.1,fun hh=>by simp at hh⟩ hT.locks rfl rfl (SmallAns.zero rfl)
     ·exact go _ (P.clock + 1) _ hc rfl (by simp) ⟨m1.1,fun hh=>by simp at hh⟩ hT.locks rfl rfl (SmallAns.zero rfl)
   ·exact go _ P.clock _ (.inl rfl) rfl (by simp) ⟨m1.1,fun hh=>by simp at hh⟩ hT.locks rfl rfl hT.ans
   ·exact go _ P.clock _ (.inl rfl) rfl (by simp) ⟨m1.1,fun hh=>by simp at hh⟩ hT.locks rfl rfl hT.ans
   ·exact go _ P.clock _ (.inl rfl) rfl (by simp) ⟨m1.1,fun hh=>by simp at hh⟩ hT.locks rfl rfl hT.ans
   ·exact go _ P.clock _ (.inl rfl) rfl (by simp) ⟨m1.1,fun hh=>by simp at hh⟩ (by simp) rfl rfl hT.ans
   ·exact Turned.same ht hb hl hT (.inl rfl)
theorem Fit.of (h : Fit N P) (hi : i < P.ts.length) {M : PMem} {c : Int} {t' : PThread} (hc : c = P.clock\/(c = P.clock + 1/\P.clock < P.limit)) (h1 : t'.busy = true->FitT (N + 1) t') (h2 : SmallAns t'.last) : Fit (N + 1) { P with mem:=M,clock:=c,ts:=P.ts.set i t' }:=by
 refine ⟨h.kind,?_,h.lim,by simpa using h.thr,by simpa using h.swp,?_⟩
 ·have:=h.clk
  show 0<=c/\c<=P.limit;omega
 ·intro j u hu;simp only [List.getElem?_set] at hu;by_cases e : i = j
  ·rw [if_pos e,if_pos hi] at hu;obtain rfl:=Option.some.inj hu;exact ⟨h1,h2⟩
  ·rw [if_neg e] at hu;exact ⟨fun hb=>((h.th j u hu).1 hb).mono (Nat.le_succ N),(h.th j u hu).2⟩
theorem Fit.step (h : Fit N P) (ht : P.ts[i]? = some t) (hb : t.busy = true) : Fit (N + 1) (P.step i t).1:=by
 obtain ⟨M,c,t',e,hc,h1,h2,_⟩:=(h.turn ht hb).to;rw [e];exact h.of (List.getElem?_eq_some_iff.1 ht).1 hc h1 h2
theorem Fit.begin (h : Fit N P) (i kind key value : Int) (spans : List (Int × Int)) : Fit N (P.begin i kind key value spans).1:=by
 unfold PSt.begin;split
 ·next hI =>
  have hb:=isIn_iff.1 hI;split
  ·exact h
  ·split
   ·next hk =>
    obtain ⟨j,rfl⟩:=Int.eq_ofNat_of_zero_le hb.1;have hj : j < P.ts.length:=by omega
    have ht : P.ts[j]? = some (P.th j):=by simp [PSt.th,List.getElem?_eq_getElem hj]
    refine ⟨h.kind,h.clk,h.lim,by simpa [PSt.setT] using h.thr,by simpa [PSt.setT] using h.swp,?_⟩;intro q u hu;simp only [PSt.setT,Int.toNat_natCast,List.getElem?_set] at hu;by_cases e : j = q
    ·rw [if_pos e,if_pos hj] at hu;obtain rfl:=Option.some.inj hu;refine ⟨fun _=>?_,(h.th j _ ht).2⟩;unfold checkOp at hk;have hkd : kind = 1\/kind = 2\/kind = 3\/kind = 4:=by
      by_cases h1 : kind = 1\/kind = 2\/kind = 3
      ·omega
      ·rw [if_neg h1] at hk;by_cases h4 : kind = 4
       ·omega
       ·rw [if_neg h4] at hk; cases hk
     have hsp : kind = 4->spans.length<=16:=by
      intro h4;rw [if_neg (by omega),if_pos h4] at hk;split at hk
      ·next hh =>
       simp only [Bool.and_eq_true] at hh
       have:=isIn_iff.1 hh.1
       omega
      ·cases hk
     have hnw : (newWork kind key value spans).kind = kind/\(newWork kind key value spans).next = 1/\(newWork kind key value spans).made = []/\(newWork kind key value spans).locks = 0/\(kind = 4->(newWork kind key value spans).links.length = 1/\(newWork kind key value spans).spans = spans)/\(newWork kind key value spans).noted = []/\(newWork kind key value spans).ans.spans = []:=by
      unfold newWork;simp only;rcases hkd with rfl | rfl | rfl | rfl <;> simp [PWork.zero]
     obtain ⟨a1,a2,a3,a4,a5,a6,a7⟩:=hnw;refine ⟨by show (newWork kind key value spans).kind = 1\/_; rw [a1]; exact hkd,by show 1<=(newWork kind key value spans).next/\_; rw [a2]; decide,fun _=>.inl (by show (newWork kind key value spans).next<=4; rw [a2]; decide),⟨by show (newWork kind key value spans).made.length<=2; rw [a3]; simp,fun _=>a3⟩,by show (newWork kind key value spans).locks<=2; rw [a4]; decide,fun h4 _=>(a5 (a1 ▸ h4)).1,fun h4=>by show (newWork kind key value spans).spans.length<=16; rw [(a5 (a1 ▸ h4)).2]; exact hsp (a1 ▸ h4),by show (newWork kind key value spans).noted.length<=N; rw [a6]; simp,SmallAns.zero a7⟩
    ·rw [if_neg e] at hu;exact h.th q u hu
   ·exact h
 ·exact h
theorem retired_le : ∀ (l : List PNode) (i : Nat),(retiredFrom l i).length<=l.length
 | [],_=>Nat.le_refl _
 | x :: r,i=>by
  rw [retiredFrom]
  have:=retired_le r (i + 1)
  split <;> simp <;> omega
theorem Fit.sweep (h : Fit N P) (hn : P.mem.ns.length<=66) : Fit N P.doSweep.1/\1<=P.doSweep.2/\P.doSweep.2<=3:=by
 have hs:=h.swp;unfold PSt.doSweep;simp only;split
 ·refine ⟨⟨h.kind,h.clk,h.lim,h.thr,⟨?_,?_⟩,h.th⟩,by simp,by simp⟩
  ·show 1<=_; omega
  ·exact Nat.le_trans (retired_le _ _) hn
 ·split
  ·split
   ·exact ⟨h,by simp,by simp⟩
   ·refine ⟨⟨h.kind,h.clk,h.lim,h.thr,⟨?_,?_⟩,h.th⟩,by simp,by simp⟩
    ·show P.sweep.made + 1<=_; simp only; omega
    ·show (PSweep.lookAt _ _).retired.length<=66;unfold PSweep.lookAt;split <;> exact hs.2
  ·split
   ·refine ⟨⟨h.kind,h.clk,h.lim,h.thr,⟨?_,hs.2⟩,h.th⟩,by simp,by simp⟩;show P.sweep.made + 1<=P.ts.length + 2; omega
   ·exact ⟨⟨h.kind,h.clk,h.lim,h.thr,⟨by show 0<=_; omega,by simp [PSweep.zero]⟩,h.th⟩,by simp,by simp⟩
end
end
end Go.Proofs.YtfccelbmacjifabGreat
