import Derived.Test.YtfccelbmacjifaaGreatP0
import Derived.Test.YtfccelbmacjifaaGreatP6
set_option linter.unusedSimpArgs false
set_option maxRecDepth 100000
set_option maxHeartbeats 4000000
namespace Go.Proofs.YtfccelbmacjifaaGreat
section
section
variable {C C' : Int->Prop} {M M' M2 : PMem} {c c' : Int} {r r' : PSweep} {i j : Nat} {t t' u : PThread} {ts : List PThread} {P : PSt} {x d : Int} {k : PWork} {L n n' : Nat}
theorem phi_idle (hb : t.busy = false) : phi L M C n t = 0:=by unfold phi; rw [if_pos hb]
theorem phi_r13 (hb : t.busy = true) (hr : t.work.kind = 3\/t.work.kind = 4) (hn : t.work.next = 13) : phi L M C n t = 1:=by
 unfold phi; rw [if_neg (by simp [hb]),if_pos hr,if_pos hn]
theorem phi_r4 (hb : t.busy = true) (hr : t.work.kind = 3\/t.work.kind = 4) (hn : t.work.next = 4) : phi L M C n t = 2 + wp L M C (rx t.work):=by
 unfold phi; rw [if_neg (by simp [hb]),if_pos hr,if_neg (by omega),if_pos hn]
theorem phi_r3 (hb : t.busy = true) (hr : t.work.kind = 3\/t.work.kind = 4) (hn : t.work.next<=3) : phi L M C n t = L + 7 - t.work.next:=by
 unfold phi; rw [if_neg (by simp [hb]),if_pos hr,if_neg (by omega),if_neg (by omega)]
theorem phi_u7 (hb : t.busy = true) (hr : ¬ (t.work.kind = 3\/t.work.kind = 4)) (hn : 7<=t.work.next) : phi L M C n t = 14 - t.work.next:=by
 unfold phi; rw [if_neg (by simp [hb]),if_neg hr,if_pos hn]
theorem phi_u6 (hb : t.busy = true) (hr : ¬ (t.work.kind = 3\/t.work.kind = 4)) (hn : t.work.next = 6) : phi L M C n t = 9 + (n + stale M C t.work) * (L + 2):=by
 unfold phi; rw [if_neg (by simp [hb]),if_neg hr,if_neg (by omega),if_pos hn,if_pos (by omega)]
theorem phi_u5 (hb : t.busy = true) (hr : ¬ (t.work.kind = 3\/t.work.kind = 4)) (hn : t.work.next = 5) : phi L M C n t = 11 - t.work.locks + (n + stale M C t.work) * (L + 2):=by
 unfold phi; rw [if_neg (by simp [hb]),if_neg hr,if_neg (by omega),if_neg (by omega),if_pos hn,if_pos (by omega)]
theorem phi_u4 (hb : t.busy = true) (hr : ¬ (t.work.kind = 3\/t.work.kind = 4)) (hn : t.work.next = 4) : phi L M C n t = 11 + wp L M C t.work.stand + (n + stale M C t.work) * (L + 2):=by
 unfold phi; rw [if_neg (by simp [hb]),if_neg hr,if_neg (by omega),if_neg (by omega),if_neg (by omega),if_pos hn,if_pos (by omega)]
theorem phi_u3 (hb : t.busy = true) (hr : ¬ (t.work.kind = 3\/t.work.kind = 4)) (hn : t.work.next<=3) : phi L M C n t = L + 15 - t.work.next + n * (L + 2):=by
 unfold phi; rw [if_neg (by simp [hb]),if_neg hr,if_neg (by omega),if_neg (by omega),if_neg (by omega),if_neg (by omega),if_neg (by omega)]; rfl
structure Nearer (L : Nat) (P : PSt) (C : Int->Prop) (i : Nat) (t t' : PThread) : Prop where
 ts : (P.step i t).1.ts = P.ts.set i t'
 un : unl t' = true->unl t = true
 ln : t.work.next = 10->unl t = true/\unl t' = false
 lt : ∀ n n',n'<=n->phi L (P.step i t).1.mem (nextC C t) n' t' < phi L P.mem C n t
theorem unl_mono (hb : t.busy = true) (hk : k.kind = t.work.kind) (hn : k.next<=10->t.work.next<=10) (h : unl { t with work:=k } = true) : unl t = true:=by
 unfold unl at *;simp only [Bool.and_eq_true,decide_eq_true_eq] at h ⊢;rw [hk] at h;exact ⟨hb,h.2.1,hn h.2.2⟩
theorem mul_mono (h : n'<=n) {a b : Nat} (hab : a<=b) : (n' + a) * (L + 2)<=(n + b) * (L + 2):=Nat.mul_le_mul_right _ (by omega)
theorem Nearer.late (hb : t.busy = true) (hr : ¬ (t.work.kind = 3\/t.work.kind = 4)) (h6 : 6<=t.work.next) (hts : (P.step i t).1.ts = P.ts.set i { t with work:=k }) (hk : k.kind = t.work.kind) (hn : t.work.next < k.next) (h13 : k.next<=13) (h10 : t.work.next = 10->k.next = 11) (hkd : t.work.kind = 1\/t.work.kind = 2) : Nearer L P C i t { t with work:=k }:=by
 refine ⟨hts,unl_mono hb hk (fun h=>by omega),?_,?_⟩
 ·intro e
  have:=h10 e
  unfold unl;simp only [hb,Bool.true_and,Bool.and_eq_true,decide_eq_true_eq,Bool.and_eq_false_iff,decide_eq_false_iff_not];exact ⟨⟨hkd,by omega⟩,.inr (by omega)⟩
 ·intro n n' hnn;have hk' : ¬ (k.kind = 3\/k.kind = 4):=by rw [hk]; exact hr
  rw [phi_u7 (t:={ t with work:=k }) hb hk' (by show 7<=k.next; omega)];show 14 - k.next < _
  by_cases h7 : 7<=t.work.next
  ·rw [phi_u7 hb hr h7]; omega
  ·rw [phi_u6 hb hr (by omega)]; omega
theorem Inv.near (h : Inv C P) (hL : P.mem.ns.length = L) (ht : P.ts[i]? = some t) (hb : t.busy = true) (hmv : (P.step i t).2≠2) : ∃ t',Nearer L P C i t t':=by
 have hT:=h.th i t ht;have hnx:=hT.nx hb;have hkd:=hT.kd hb;have hrd:=hT.rd hb;have hL2 : 2<=L:=by rw [<- hL]; exact h.wm.len
 rcases (show t.work.next = 1\/t.work.next = 2\/t.work.next = 3\/t.work.next = 13\/(4<=t.work.next/\t.work.next<=12) by omega) with hn | hn | hn | hn | hn
 ·have hs : P.step i t = (P.setT i { t with slot:=1,work:={ t.work with next:=2 } },1):=by unfold PSt.step; simp only [hn]
  refine ⟨{ t with slot:=1,work:={ t.work with next:=2 } },by rw [hs]; rfl,?_,fun e=>by omega,?_⟩
  ·intro hh; unfold unl at *; simp only [Bool.and_eq_true,decide_eq_true_eq] at hh ⊢; exact ⟨hb,hh.2.1,by omega⟩
  ·intro n n' hnn;rw [hs,nextC_ne (by omega)];by_cases hr : t.work.kind = 3\/t.work.kind = 4
   ·rw [phi_r3 (t:={ t with slot:=1,work:={ t.work with next:=2 } }) hb hr (by show 2<=3; omega),phi_r3 hb hr (by omega)];show L + 7 - 2 < _; omega
   ·rw [phi_u3 (t:={ t with slot:=1,work:={ t.work with next:=2 } }) hb hr (by show 2<=3; omega),phi_u3 hb hr (by omega)];show L + 15 - 2 + n' * (L + 2) < _
    have:=Nat.mul_le_mul_right (L + 2) hnn
    omega
 ·have hs : P.step i t = (P.setT i { t with work:={ t.work with time:=P.clock,next:=3 } },1):=by unfold PSt.step; simp only [hn]
  refine ⟨{ t with work:={ t.work with time:=P.clock,next:=3 } },by rw [hs]; rfl,?_,fun e=>by omega,?_⟩
  ·intro hh; unfold unl at *; simp only [Bool.and_eq_true,decide_eq_true_eq] at hh ⊢; exact ⟨hb,hh.2.1,by omega⟩
  ·intro n n' hnn;rw [hs,nextC_ne (by omega)];by_cases hr : t.work.kind = 3\/t.work.kind = 4
   ·rw [phi_r3 (t:={ t with work:={ t.work with time:=P.clock,next:=3 } }) hb hr (by show 3<=3; omega),phi_r3 hb hr (by omega)];show L + 7 - 3 < _; omega
   ·rw [phi_u3 (t:={ t with work:={ t.work with time:=P.clock,next:=3 } }) hb hr (by show 3<=3; omega),phi_u3 hb hr (by omega)];show L + 15 - 3 + n' * (L + 2) < _
    have:=Nat.mul_le_mul_right (L + 2) hnn
    omega
 ·have hs : P.step i t = (P.setT i { t with slot:=2,work:=t.work.home },1):=by unfold PSt.step; simp only [hn]
  refine ⟨{ t with slot:=2,work:=t.work.home },by rw [hs]; rfl,?_,fun e=>by omega,?_⟩
  ·intro hh;unfold unl at *;simp only [Bool.and_eq_true,decide_eq_true_eq] at hh ⊢;have : t.work.kind = 1\/t.work.kind = 2:=hh.2.1;exact ⟨hb,this,by omega⟩
  ·intro n n' hnn;rw [hs,nextC_ne (by omega)];by_cases hr : t.work.kind = 3\/t.work.kind = 4
   ·rw [phi_r4 (t:={ t with slot:=2,work:=t.work.home }) hb hr rfl,phi_r3 hb hr (by omega)]
    have:=wp_le (L:=L) (by omega) P.mem C (rx t.work.home)
    show 2 + wp L P.mem C (rx t.work.home) < _;omega
   ·rw [phi_u4 (t:={ t with slot:=2,work:=t.work.home }) hb hr rfl,phi_u3 hb hr (by omega)];show 11 + wp L P.mem C 0 + (n' + stale P.mem C t.work.home) * (L + 2) < _;rw [stale_zero (k:=t.work.home) ⟨h.n.a0.1,.inl rfl⟩]
    have:=wp_le (L:=L) (by omega) P.mem C 0
    have:=Nat.mul_le_mul_right (L + 2) (show n' + 0<=n by omega)
    omega
 ·have hs : P.step i t = (P.setT i t.leave,3):=by unfold PSt.step; simp only [hn]
  refine ⟨t.leave,by rw [hs]; rfl,?_,fun e=>by omega,?_⟩
  ·intro hh; exact nomatch hh
  ·intro n n' hnn;rw [phi_idle rfl];by_cases hr : t.work.kind = 3\/t.work.kind = 4
   ·rw [phi_r13 hb hr hn]; omega
   ·rw [phi_u7 hb hr (by omega)]; omega
 ·have hsm:=step_mid (i:=i) P hn.1 hn.2;by_cases hr : t.work.kind = 3\/t.work.kind = 4
  ·-- a read
   have hn4 : t.work.next = 4:=by have:=hrd hr; omega
   rw [if_pos hr] at hsm;obtain ⟨x,h1,h2,h3,h4,h5⟩:=h.linkIs ht hb hn4 hr;have htm:=hT.tm hb (by omega);have hrx : rx t.work = x:=by
    unfold rx;rcases hr with e | e
    ·rw [if_pos e]; exact (h4 e).symm
    ·rw [if_neg (by omega),h5 e]
   have hp : Pd P.mem x = []:=by
    by_cases q : Pd P.mem x = []
    ·exact q
    ·exfalso;apply hmv;rw [hsm];unfold PSt.read;rw [h1];simp only;rw [if_pos (hasPd_iff.2 q)]
   obtain ⟨n1,n2,n3,n4⟩:=h.led h2 htm.2 h3 hp;have hs : P.step i t = (P.setW i (if t.work.kind = 3 then P.lookUp t.work (P.mem.ledTo x false t.work.time) else P.scan t.work (P.mem.ledTo x false t.work.time)),1):=by
    rw [hsm];unfold PSt.read;rw [h1];simp only;rw [if_neg (by rw [hasPd_iff]; simp [hp])]
   generalize hd : P.mem.ledTo x false t.work.time = d at *;generalize hk : (if t.work.kind = 3 then P.lookUp t.work d else P.scan t.work d) = k at *;have hkk : k.kind = t.work.kind/\(k.next = 13\/(k.next = 4/\rx k = d/\Gd P.mem C d)):=by
    rw [<- hk];rcases hr with e | e
    ·rw [if_pos e];unfold PSt.lookUp;have hps : P.isPassed d t.work.key = decide (Ky P.mem d < t.work.key):=by
      unfold PSt.isPassed; rw [if_neg (by rw [h.kind]; decide)]
     rw [hps];by_cases hlt : Ky P.mem d < t.work.key
     ·rw [if_pos (by simpa using hlt)];refine ⟨rfl,.inr ⟨hn4,?_,?_⟩⟩
      ·unfold rx; rw [if_pos (show t.work.kind = 3 from e)]
      ·have:=hT.ky hb (by omega)
       rcases n1 with n1 | n1
       ·have:=h.n.a1.2.2.2.2.2; rw [n1] at hlt; omega
       ·exact n1
     ·rw [if_neg (by simpa using hlt)]; exact ⟨rfl,.inl rfl⟩
    ·rw [if_neg (by omega)];unfold PSt.scan;have hhi:=hT.hi hb e;simp only [h5 e,List.drop_one,List.tail_cons,List.append_nil];have hlw : P.linksWithin d (leastLo t.work.spans) (greatestHi t.work.spans) = if Ky P.mem d<=greatestHi t.work.spans then [(d,false)] else []:=by
      unfold PSt.linksWithin; rw [if_pos h.kind]
     rw [hlw];by_cases hle : Ky P.mem d<=greatestHi t.work.spans
     ·rw [if_pos hle,if_neg (by simp)];refine ⟨rfl,.inr ⟨hn4,?_,?_⟩⟩
      ·unfold rx; rw [if_neg (show ¬ t.work.kind = 3 by omega)]
      ·rcases n1 with n1 | n1
       ·have:=h.n.a1.2.2.2.2.2; rw [n1] at hle; omega
       ·exact n1
     ·rw [if_neg hle,if_pos (show ([] : List (Int × Bool)).length = 0 from rfl)]; exact ⟨rfl,.inl rfl⟩
   refine ⟨{ t with work:=k },by rw [hs,setW_to P ht],unl_mono hb hkk.1 (fun _=>by omega),fun e=>by omega,?_⟩;intro n n' hnn;rw [hs,nextC_ne (by omega),phi_r4 hb hr hn4,hrx];have hr' : k.kind = 3\/k.kind = 4:=by rw [hkk.1]; exact hr
   show phi L P.mem C n' { t with work:=k } < _;rcases hkk.2 with e | ⟨e1,e2,e3⟩
   ·rw [phi_r13 (t:={ t with work:=k }) hb hr' e]; omega
   ·rw [phi_r4 (t:={ t with work:=k }) hb hr' e1];show 2 + wp L P.mem C (rx k) < _;rw [e2]
    have:=h.wp_lt hL e3 n3 n4
    omega
  ·rw [if_neg hr] at hsm;have hk : t.work.kind = 1\/t.work.kind = 2:=by omega
   unfold PSt.update at hsm;rcases (show t.work.next = 4\/t.work.next = 5\/t.work.next = 6\/t.work.next = 7\/t.work.next = 8\/t.work.next = 9\/t.work.next = 10\/t.work.next = 11\/t.work.next = 12 by omega) with hn | hn | hn | hn | hn | hn | hn | hn | hn
   ·-- walk
    simp only [hn] at hsm;obtain ⟨g1,g2,g3⟩:=hT.xs hb (by omega) (by omega) (by omega);have hky:=hT.ky hb (by omega);have hl0:=hT.l4 hb (.inl (by omega));obtain ⟨n1,n2,n3⟩:=h.next g1
    have hld:=(h.side g1 t.work.key).2.2;refine ⟨{ t with work:=P.walk t.work },by rw [hsm,setW_to P ht],unl_mono hb (by unfold PSt.walk; split <;> rfl) (fun _=>by omega),fun e=>by omega,?_⟩;intro n n' hnn;rw [hsm,nextC_ne (by omega),phi_u4 hb hr hn];show phi L P.mem C n' { t with work:=P.walk t.work } < _;unfold PSt.walk;rw [hld];have hps : P.isPassed (Ld P.mem t.work.stand) t.work.key = decide (Ky P.mem (Ld P.mem t.work.stand) < t.work.key):=by
     unfold PSt.isPassed; rw [if_neg (by rw [h.kind]; decide)]
    rw [hps];by_cases hlt : Ky P.mem (Ld P.mem t.work.stand) < t.work.key
    ·rw [if_pos (by simpa using hlt)];have hg : Gd P.mem C (Ld P.mem t.work.stand):=by
      rcases n1 with n1 | n1
      ·have:=h.n.a1.2.2.2.2.2; rw [n1] at hlt; omega
      ·exact n1
     rw [phi_u4 (t:={ t with work:={ t.work with above:=t.work.stand,stand:=Ld P.mem t.work.stand } }) hb hr hn];show 11 + wp L P.mem C (Ld P.mem t.work.stand) + (n' + stale P.mem C { t.work with above:=t.work.stand,stand:=Ld P.mem t.work.stand }) * (L + 2) < _;have h1:=h.wp_lt hL hg n2 n3;have h2 : stale P.mem C { t.work with above:=t.work.stand,stand:=Ld P.mem t.work.stand }<=stale P.mem C t.work:=by
      by_cases hc : C t.work.stand
      ·rw [stale_zero (k:={ t.work with above:=t.work.stand,stand:=Ld P.mem t.work.stand }) ⟨?_,.inl hn⟩]
       ·omega
       ·rcases (h.n.mc _ hc).2.2.2.1 with q | q
        ·rw [q] at hlt; have:=h.n.a1.2.2.2.2.2; omega
        ·exact q
      ·have : stale P.mem C t.work = 1:=by unfold stale; rw [if_neg (fun hh=>hc hh.1)]
       rw [this]; exact stale_le _ _ _
     have:=mul_mono (L:=L) hnn h2
     omega
    ·rw [if_neg (by simpa using hlt)];rw [phi_u5 (t:={ t with work:={ t.work with ahead:=Ld P.mem t.work.stand,next:=5 } }) hb hr rfl];show 11 - t.work.locks + (n' + stale P.mem C { t.work with ahead:=Ld P.mem t.work.stand,next:=5 }) * (L + 2) < _;have h1:=h.wp_pos hL2 t.work.stand;have h2 : stale P.mem C { t.work with ahead:=Ld P.mem t.work.stand,next:=5 }<=stale P.mem C t.work:=by
      by_cases hc : C t.work.stand
      ·rw [stale_zero (k:={ t.work with ahead:=Ld P.mem t.work.stand,next:=5 }) ⟨hc,.inr rfl⟩]; omega
      ·have : stale P.mem C t.work = 1:=by unfold stale; rw [if_neg (fun hh=>hc hh.1)]
       rw [this]; exact stale_le _ _ _
     have:=mul_mono (L:=L) hnn h2
     omega
   ·-- lock
    simp only [hn] at hsm;rcases h.lock ht hb hn with ⟨_,q,_⟩ | ⟨_,q⟩
    ·have hq:=hsm.trans q;generalize hnn : (if wl P.mem t.work<=t.work.locks + 1 then 6 else 5) = nn at hq;have hn56 : nn = 6\/nn = 5:=by rw [<- hnn]; split <;> omega
     refine ⟨{ t with work:={ t.work with locks:=t.work.locks + 1,next:=nn } },by rw [hq,setMW_to P ht],unl_mono hb rfl (fun _=>by omega),fun e=>by omega,?_⟩;intro n n' hle;rw [hq,nextC_ne (by omega),phi_u5 hb hr hn];have hst : stale (P.mem.modN (lockNext t.work) fun x=>{ x with holder:=(i : Int) }) C { t.work with locks:=t.work.locks + 1,next:=nn }<=stale P.mem C t.work:=by
      have hnl:=nl_modN P.mem (lockNext t.work) (fun x=>{ x with holder:=(i : Int) }) (fun e=>⟨⟨rfl,rfl⟩,id,rfl⟩) t.work.stand;by_cases hc : C t.work.stand/\Ld P.mem t.work.stand = t.work.ahead
      ·rw [stale_zero (k:={ t.work with locks:=t.work.locks + 1,next:=nn }) ⟨hc.1,.inr (hnl.2.trans hc.2)⟩]; omega
      ·have : stale P.mem C t.work = 1:=by
        unfold stale;rw [if_neg];rintro ⟨a,b | b⟩
        ·omega
        ·exact hc ⟨a,b⟩
       rw [this]; exact stale_le _ _ _
     have hmm:=mul_mono (L:=L) hle hst;have hlk:=hT.l5 hb hn
     have:=(wl_pos P.mem t.work).2
     show phi L (P.mem.modN (lockNext t.work) fun x=>{ x with holder:=(i : Int) }) C n' { t with work:={ t.work with locks:=t.work.locks + 1,next:=nn } } < _;rcases hn56 with e | e
     ·rw [phi_u6 (t:={ t with work:={ t.work with locks:=t.work.locks + 1,next:=nn } }) hb hr e];show 9 + (n' + stale _ C { t.work with locks:=t.work.locks + 1,next:=nn }) * (L + 2) < _;omega
     ·rw [phi_u5 (t:={ t with work:={ t.work with locks:=t.work.locks + 1,next:=nn } }) hb hr e];show 11 - (t.work.locks + 1) + (n' + stale _ C { t.work with locks:=t.work.locks + 1,next:=nn }) * (L + 2) < _;omega
    ·exact absurd (by rw [hsm,q]) hmv
   ·-- check
    simp only [hn] at hsm;have hout:=h.outd ht hb (by omega) (by omega) (by omega);have hck : P.check i t.work = if P.outdated t.work then (P.setM (P.mem.unlock i)).setW i ({ t.work with locks:=0 } : PWork).home else if P.meetsKey t.work == (t.work.kind == 1) then P.setW i (t.work.settle { stamp:=P.clock }) else P.setW i { t.work with next:=7 }:=rfl
    by_cases ho : P.outdated t.work = true
    ·rw [hck,if_pos ho] at hsm;refine ⟨{ t with work:=({ t.work with locks:=0 } : PWork).home },by rw [hsm,setMW_to P ht],unl_mono hb rfl (fun _=>by omega),fun e=>by omega,?_⟩;intro n n' hle;rw [hsm,nextC_ne (by omega),phi_u6 hb hr hn]
     -- the check fails only where the walk is stale
     have hst : stale P.mem C t.work = 1:=by
      unfold stale;rw [if_neg];rintro ⟨hC,q⟩;have q : Ld P.mem t.work.stand = t.work.ahead:=q.resolve_left (by omega);apply hout.1 ho;have hsH:=hT.hStand hb (by omega) (by omega);refine ⟨?_,q,?_⟩
      ·cases hd : (P.mem.node t.work.stand).dead
       ·rfl
       ·exfalso;obtain ⟨j,u,hj,y1,y2,y3,y4⟩:=h.o.ki _ hd hC;have hU:=h.th j u hj;have hA:=hU.hAhead y1 (by omega) (by omega) y2 ((hU.c7 y1 (by omega) (by omega)).2.2.2 y2);rw [y4,hsH.2] at hA;have : i = j:=by have:=hA.2; omega
        subst this;rw [ht] at hj; injection hj with hj; subst hj
        omega
      ·cases hd : (P.mem.node t.work.ahead).dead
       ·rfl
       ·exfalso;have hCa : C t.work.ahead:=by
         rcases (h.n.mc _ hC).2.2.2.1 with z | z
         ·rw [q] at z; rw [z,h.n.a1.2.2.2.1] at hd; cases hd
         ·rw [q] at z; exact z
        obtain ⟨j,u,hj,y1,y2,y3,y4⟩:=h.o.ki _ hd hCa;have hU:=h.th j u hj;have hc7:=hU.c7 y1 (by omega) (by omega);have hc10:=hU.c10 y1 (by omega) (by omega);have hS:=hU.hStand y1 (by omega) (by omega);have heq : u.work.stand = t.work.stand:=h.n.mi _ _ hc7.1 hC (by rw [hc10,y4,q]);rw [heq,hsH.2] at hS;have : i = j:=by have:=hS.2; omega
        subst this;rw [ht] at hj; injection hj with hj; subst hj
        omega
     rw [hst];show phi L (P.mem.unlock i) C n' { t with work:=({ t.work with locks:=0 } : PWork).home } < _;rw [phi_u4 (t:={ t with work:=({ t.work with locks:=0 } : PWork).home }) hb hr rfl];show 11 + wp L (P.mem.unlock i) C 0 + (n' + stale (P.mem.unlock i) C ({ t.work with locks:=0 } : PWork).home) * (L + 2) < _;rw [stale_zero (k:=({ t.work with locks:=0 } : PWork).home) ⟨h.n.a0.1,.inl rfl⟩];have h1:=wp_le (L:=L) (by omega) (P.mem.unlock i) C 0;have h2:=Nat.mul_le_mul_right (L + 2) (show n' + 0<=n by omega);have h3 : (n + 1) * (L + 2) = n * (L + 2) + (L + 2):=by rw [Nat.add_mul]; omega
     omega
    ·rw [hck,if_neg ho] at hsm;by_cases hm : (P.meetsKey t.work == (t.work.kind == 1)) = true
     ·rw [if_pos hm] at hsm;exact ⟨_,Nearer.late (k:=t.work.settle { stamp:=P.clock }) hb hr (by omega) (by rw [hsm,setW_to P ht]) rfl (by show _ < 12; omega) (by show 12<=13; omega) (fun e=>by omega) hk⟩
     ·rw [if_neg hm] at hsm;exact ⟨_,Nearer.late (k:={ t.work with next:=7 }) hb hr (by omega) (by rw [hsm,setW_to P ht]) rfl (by show _ < 7; omega) (by show 7<=13; omega) (fun e=>by omega) hk⟩
   ·-- prepare
    simp only [hn] at hsm;have hpr : P.prepare i t.work = if P.mem.room.1 < (P.needs t.work.kind).1\/P.mem.room.2 < (P.needs t.work.kind).2 then P.setW i (t.work.settle { err:=7 }) else (P.setM (if t.work.kind = 1 then P.prepareInsert t.work else P.prepareRemove t.work).1).setW i { (if t.work.kind = 1 then P.prepareInsert t.work else P.prepareRemove t.work).2 with next:=8 }:=rfl
    rw [hpr] at hsm;by_cases hroom : P.mem.room.1 < (P.needs t.work.kind).1\/P.mem.room.2 < (P.needs t.work.kind).2
    ·rw [if_pos hroom] at hsm;exact ⟨_,Nearer.late (k:=t.work.settle { err:=7 }) hb hr (by omega) (by rw [hsm,setW_to P ht]) rfl (by show _ < 12; omega) (by show 12<=13; omega) (fun e=>by omega) hk⟩
    ·rw [if_neg hroom] at hsm;have hkd2 : (if t.work.kind = 1 then P.prepareInsert t.work else P.prepareRemove t.work).2.kind = t.work.kind:=by
      split
      ·unfold PSt.prepareInsert; simp only; split <;> rfl
      ·unfold PSt.prepareRemove; simp only; split <;> rfl
     generalize (if t.work.kind = 1 then P.prepareInsert t.work else P.prepareRemove t.work) = pp at *;exact ⟨_,Nearer.late (k:={ pp.2 with next:=8 }) hb hr (by omega) (by rw [hsm,setMW_to P ht]) hkd2 (by show _ < 8; omega) (by show 8<=13; omega) (fun e=>by omega) hk⟩
   ·-- take
    simp only [hn] at hsm;have htk : P.take i t.work = if P.limit<=P.clock then (P.setM ((P.mem.unpend t.work.tsrc t.work.tside).frees t.work.made)).setW i (t.work.settle { err:=8 }) else if t.work.kind = 2 then ({ P with clock:=P.clock + 1 } : PSt).setW i { t.work with ans:={ did:=true,stamp:=P.clock + 1,value:=(P.mem.node t.work.ahead).value },next:=9 } else (({ P with clock:=P.clock + 1 } : PSt).setM (P.mem.stampsNew (P.clock + 1) t.work.made)).setW i { t.work with ans:={ did:=true,stamp:=P.clock + 1 },next:=10 }:=rfl
    rw [htk] at hsm;by_cases hlim : P.limit<=P.clock
    ·rw [if_pos hlim] at hsm;exact ⟨_,Nearer.late (k:=t.work.settle { err:=8 }) hb hr (by omega) (by rw [hsm,setMW_to P ht]) rfl (by show _ < 12; omega) (by show 12<=13; omega) (fun e=>by omega) hk⟩
    ·rw [if_neg hlim] at hsm;by_cases hk2 : t.work.kind = 2
     ·rw [if_pos hk2] at hsm;exact ⟨_,Nearer.late (k:={ t.work with ans:={ did:=true,stamp:=P.clock + 1,value:=(P.mem.node t.work.ahead).value },next:=9 }) hb hr (by omega) (by rw [hsm,setW_to { P with clock:=P.clock + 1 } ht]) rfl (by show _ < 9; omega) (by show 9<=13; omega) (fun e=>by omega) hk⟩
     ·rw [if_neg hk2] at hsm;exact ⟨_,Nearer.late (k:={ t.work with ans:={ did:=true,stamp:=P.clock + 1 },next:=10 }) hb hr (by omega) (by rw [hsm,setMW_to { P with clock:=P.clock + 1 } ht]) rfl (by show _ < 10; omega) (by show 10<=13; omega) (fun e=>by omega) hk⟩
   ·simp only [hn] at hsm;exact ⟨_,Nearer.late (k:={ t.work with next:=10 }) hb hr (by omega) (by rw [hsm,setMW_to P ht]) rfl (by show _ < 10; omega) (by show 10<=13; omega) (fun e=>by omega) hk⟩
   ·simp only [hn] at hsm;exact ⟨_,Nearer.late (k:={ t.work with next:=11 }) hb hr (by omega) (by rw [hsm,setMW_to P ht]) rfl (by show _ < 11; omega) (by show 11<=13; omega) (fun e=>rfl) hk⟩
   ·simp only [hn] at hsm;exact ⟨_,Nearer.late (k:={ t.work with next:=12 }) hb hr (by omega) (by rw [hsm,setMW_to P ht]) rfl (by show _ < 12; omega) (by show 12<=13; omega) (fun e=>by omega) hk⟩
   ·simp only [hn] at hsm;have hul : P.unlock i t.work = (P.setM (if t.work.kind = 2/\t.work.ans.did = true then (P.mem.unlock i).retires P.clock (P.takenOut t.work) else P.mem.unlock i)).setW i { t.work with locks:=0,next:=13 }:=rfl;rw [hul] at hsm;exact ⟨_,Nearer.late (k:={ t.work with locks:=0,next:=13 }) hb hr (by omega) (by rw [hsm,setMW_to P ht]) rfl (by show _ < 13; omega) (by show 13<=13; omega) (fun e=>by omega) hk⟩
theorem Inv.drops (h : Inv C P) (hL : P.mem.ns.length = L) (ht : P.ts[i]? = some t) (hb : t.busy = true) (hmv : (P.step i t).2≠2) : Phi L (nextC C t) (P.step i t).1 < Phi L C P:=by
 obtain ⟨t',hN⟩:=h.near hL ht hb hmv;have hke:=h.keeps ht hb;have hgd : ∀ x,Gd P.mem C x->Gd (P.step i t).1.mem (nextC C t) x:=by
  intro x hx;rcases hx with hx | hx
  ·unfold nextC;split
   ·next hh =>
    by_cases e : x = t.work.ahead
    ·right;subst e;exact (hke _ (.inr (.inl hx))).1.2 ((h.th i t ht).d10 hb hh.2 hh.1)
    ·exact .inl ⟨hx,e⟩
   ·split
    ·exact .inl (.inl hx)
    ·exact .inl hx
  ·exact .inr ((hke x (.inr (.inr hx))).1.2 hx)
 unfold Phi;rw [hN.ts];have hle:=count_set_le unl ht hN.un;refine sum_set _ _ P.ts i t t' ht ?_ (hN.lt _ _ hle);intro j u hj hu;refine Th.phi_le h hu (fun x hx=>⟨(hke x hx).1,hgd x⟩) ?_;by_cases h10 : t.work.next = 10
 ·left;obtain ⟨z1,z2⟩:=hN.ln h10
  have:=count_set_e unl ht z1 z2
  omega
 ·right;exact ⟨hle,nextC_ne h10,fun x hx=>((hke x (.inr hx)).2 h10).2⟩
end
end
section
theorem pend_len (M : PMem) (n : Int) (s : Bool) (to : Int) : (M.pend n s to).ns.length = M.ns.length:=by rw [pend_ns]
theorem addLink_len (M : PMem) (n to : Int) : (M.addLink n to).ns.length = M.ns.length:=by
 unfold PMem.addLink;split
 ·split
  ·rw [pend_len,modN_len]
  ·rw [pend_len,modN_len]
  ·rfl
 ·rfl
theorem make_len (M : PMem) (a b : Int) : (M.make a b).1.ns.length = M.ns.length:=by unfold PMem.make; split <;> simp
theorem free_len (M : PMem) (n : Int) : (M.free n).ns.length = M.ns.length:=by unfold PMem.free; split <;> simp
theorem frees_len : ∀ (l : List Int) (M : PMem),(M.frees l).ns.length = M.ns.length
 | [],_=>rfl
 | n :: l,M=>by show ((M.free n).frees l).ns.length = _; rw [frees_len l,free_len]
theorem freesIf_len (ht : Bool) (tm : Int) : ∀ (l : List Nat) (M : PMem),(M.freesIf ht tm l).ns.length = M.ns.length
 | [],_=>rfl
 | n :: l,M=>by
  unfold PMem.freesIf;rw [freesIf_len ht tm l];split
  ·exact free_len _ _
  ·rfl
theorem kills_len : ∀ (l : List Int) (M : PMem),(M.kills l).ns.length = M.ns.length
 | [],_=>rfl
 | n :: l,M=>by show ((M.kill n).kills l).ns.length = _; rw [kills_len l]; exact modN_len _ _ _
theorem retires_len (tm : Int) : ∀ (l : List Int) (M : PMem),(M.retires tm l).ns.length = M.ns.length
 | [],_=>rfl
 | n :: l,M=>by show ((M.retire n tm).retires tm l).ns.length = _; rw [retires_len tm l]; exact modN_len _ _ _
theorem lock_len (M : PMem) (n t : Int) : (M.lock n t).1.ns.length = M.ns.length:=by
 unfold PMem.lock;split
 ·split
  ·rfl
  ·exact modN_len _ _ _
 ·rfl
theorem lead_len (M : PMem) (n : Int) (s : Bool) : (M.lead n s).ns.length = M.ns.length:=by
 unfold PMem.lead; split
 ·exact modN_len _ _ _
 ·rfl
theorem unlock_len (M : PMem) (t : Int) : (M.unlock t).ns.length = M.ns.length:=by simp [PMem.unlock]
section
variable {C C' : Int->Prop} {i j : Nat} {t : PThread} {P : PSt} {L : Nat}
theorem step_len (hk : P.kind = 0) : (P.step i t).1.mem.ns.length = P.mem.ns.length:=by
 unfold PSt.step;split
 ·rfl
 ·rfl
 ·rfl
 ·rfl
 ·split
  ·unfold PSt.read;simp only;split <;> rfl
  ·unfold PSt.update;split
   ·rfl
   ·unfold PSt.lock;split
    ·split
     ·exact lock_len _ _ _
     ·rfl
    ·rfl
   ·show (P.check i t.work).mem.ns.length = _;unfold PSt.check;split
    ·exact unlock_len _ _
    ·split <;> rfl
   ·show (P.prepare i t.work).mem.ns.length = _;unfold PSt.prepare;split
    ·rfl
    ·show (if t.work.kind = 1 then P.prepareInsert t.work else P.prepareRemove t.work).1.ns.length = _;split
     ·unfold PSt.prepareInsert;simp only [if_pos hk];rw [pend_len,addLink_len,make_len]
     ·unfold PSt.prepareRemove;simp only [if_pos hk];rw [pend_len]
   ·show (P.take i t.work).mem.ns.length = _;unfold PSt.take;split
    ·show ((P.mem.unpend _ _).frees _).ns.length = _;rw [frees_len,unpend_ns]
    ·simp only;split
     ·rfl
     ·show (P.mem.stampsNew _ _).ns.length = _;rw [stampsNew_ns]
   ·exact kills_len _ _
   ·exact lead_len _ _ _
   ·show (P.mem.stamp _ _ _).ns.length = _;rw [stamp_ns]
   ·show (P.unlock i t.work).mem.ns.length = _;unfold PSt.unlock;simp only;show (if _ then _ else _ : PMem).ns.length = _;split
    ·rw [retires_len,unlock_len]
    ·exact unlock_len _ _
   ·rfl
theorem sweep_len : P.doSweep.1.mem.ns.length = P.mem.ns.length:=by
 unfold PSt.doSweep;simp only;split
 ·rfl
 ·split
  ·split <;> rfl
  ·split
   ·rfl
   ·exact freesIf_len _ _ _ _
theorem sum_le (f : PThread->Nat) (K : Nat) : ∀ (l : List PThread),(∀ t ∈ l,f t<=K)->(l.map f).sum<=l.length * K
 | [],_=>by simp
 | a :: l,h=>by
  have ih:=sum_le f K l (fun t ht=>h t (by simp [ht]));have ha:=h a (by simp);simp only [List.map_cons,List.sum_cons,List.length_cons,Nat.add_mul];omega
theorem filt_len {α : Type} (p : α->Bool) (l : List α) : count p l<=l.length:=by unfold count; exact List.length_filter_le _ _
theorem Inv.bound (h : Inv C P) (N : Nat) : Phi (N + 2) C P<=P.ts.length * ((P.ts.length + 2) * (N + 16)):=by
 unfold Phi;refine sum_le _ _ _ ?_;intro t ht;obtain ⟨i,hi⟩:=List.mem_iff_getElem?.1 ht;have hT:=h.th i t hi;have hu:=filt_len unl P.ts;generalize count unl P.ts = u at *;generalize P.ts.length = T at *;have e1 : (T + 2) * (N + 16) = (T + 1) * (N + 4) + (T + 1) * 12 + (N + 16):=by
  rw [show T + 2 = (T + 1) + 1 by omega,Nat.add_mul (T + 1) 1,show N + 16 = (N + 4) + 12 by omega,Nat.mul_add (T + 1)]; omega
 rw [e1];have e2 : ∀ s,s<=1->(u + s) * (N + 2 + 2)<=(T + 1) * (N + 4):=fun s hs=>Nat.mul_le_mul (by omega) (by omega)
 by_cases hb : t.busy = true
 ·have hnx:=hT.nx hb;by_cases hr : t.work.kind = 3\/t.work.kind = 4
  ·rcases hT.rd hb hr with h4 | h13
   ·rcases (show t.work.next = 4\/t.work.next<=3 by omega) with e | e
    ·rw [phi_r4 hb hr e]
     have:=wp_le (L:=N + 2) (by omega) P.mem C (rx t.work)
     omega
    ·rw [phi_r3 hb hr e]; omega
   ·rw [phi_r13 hb hr h13]; omega
  ·have hs:=e2 _ (stale_le P.mem C t.work);rcases (show 7<=t.work.next\/t.work.next = 6\/t.work.next = 5\/t.work.next = 4\/t.work.next<=3 by omega) with e | e | e | e | e
   ·rw [phi_u7 hb hr e]; omega
   ·rw [phi_u6 hb hr e]; omega
   ·rw [phi_u5 hb hr e]; omega
   ·rw [phi_u4 hb hr e]
    have:=wp_le (L:=N + 2) (by omega) P.mem C t.work.stand
    omega
   ·rw [phi_u3 hb hr e]
    have:=e2 0 (by omega)
    simp only [Nat.add_zero] at this;omega
 ·rw [phi_idle (by simpa using hb)]; omega
end
end
section
def stp (e : PEntry) : Bool:=e.used && !e.pending
def UQ (es : List PEntry) : Prop:=∀ (i j : Nat) a b,es[i]? = some a->es[j]? = some b->stp a = true->stp b = true->a.src = b.src->a.stamp = b.stamp->i = j
theorem UQ.sub {es es' : List PEntry} (h : UQ es) (hs : ∀ (j : Nat) e,es'[j]? = some e->stp e = true->es[j]? = some e) : UQ es' :=
 fun i j a b ha hb sa sb=>h i j a b (hs i a ha sa) (hs j b hb sb) sa sb
theorem UQ.set0 {es : List PEntry} (h : UQ es) (k : Nat) {y : PEntry} (hy : stp y = false) : UQ (es.set k y):=by
 refine h.sub ?_;intro j e hj hs;rw [List.getElem?_set] at hj;split at hj
 ·split at hj
  ·injection hj with hj; subst hj; rw [hy] at hs; cases hs
  ·cases hj
 ·exact hj
theorem UQ.set1 {es : List PEntry} (h : UQ es) (k : Nat) {y : PEntry} (hy : ∀ (j : Nat) b,j≠k->es[j]? = some b->stp b = true->b.src = y.src->b.stamp≠y.stamp) : UQ (es.set k y):=by
 intro i j a b ha hb sa sb e1 e2;rw [List.getElem?_set] at ha hb;by_cases hi : k = i
 ·by_cases hj : k = j
  ·omega
  ·rw [if_neg hj] at hb;rw [if_pos hi] at ha;split at ha
   ·injection ha with ha; subst ha
    exact absurd e2.symm (hy j b (fun e=>hj e.symm) hb sb e1.symm)
   ·cases ha
 ·rw [if_neg hi] at ha;by_cases hj : k = j
  ·rw [if_pos hj] at hb;split at hb
   ·injection hb with hb; subst hb
    exact absurd e2 (hy i a (fun e=>hi e.symm) ha sa e1)
   ·cases hb
  ·rw [if_neg hj] at hb;exact h i j a b ha hb sa sb e1 e2
section
variable {M : PMem}
theorem uq_pend (h : UQ M.es) (n : Int) (s : Bool) (to : Int) : UQ (M.pend n s to).es:=by
 unfold PMem.pend; split
 ·exact h.set0 _ rfl
 ·exact h
theorem uq_addLink (h : UQ M.es) (n to : Int) : UQ (M.addLink n to).es:=by
 unfold PMem.addLink; split
 ·split
  ·exact uq_pend (by rw [modN_ents]; exact h) _ _ _
  ·exact uq_pend (by rw [modN_ents]; exact h) _ _ _
  ·exact h
 ·exact h
theorem uq_make (h : UQ M.es) (a b : Int) : UQ (M.make a b).1.es:=by unfold PMem.make; split <;> exact h
theorem uq_unpend (h : UQ M.es) (n : Int) (s : Bool) : UQ (M.unpend n s).es:=by
 unfold PMem.unpend; split
 ·exact h.set0 _ rfl
 ·exact h
theorem uq_free (h : UQ M.es) (n : Int) : UQ (M.free n).es:=by
 unfold PMem.free; split
 ·refine h.sub ?_;intro j e hj hs;simp only [List.getElem?_map,Option.map_eq_some_iff] at hj;obtain ⟨e0,h1,h2⟩:=hj;split at h2
  ·subst h2; exact nomatch hs
  ·subst h2; exact h1
 ·exact h
theorem uq_stamp (hw : Wm M) (h : UQ M.es) {n st : Int} (hn : ∀ s d,Sd M n s d->s≠st) : UQ (M.stamp n false st).es:=by
 unfold PMem.stamp; split
 ·next hh =>
  refine h.set1 _ ?_;intro j b hj hb sb e1 e2;simp only at e1 e2
  -- the entry is one of link n
  rcases find_bd (isPd n false) M.es 0 with ⟨h1,_⟩ | ⟨k,x,h1,h2,h3,_⟩
  ·have : M.pending n false = -1:=h1;rw [this,show M.hasEntry (-1) = false from isIn_false (by omega)] at hh;cases hh
  ·have hp : M.pending n false = (k : Int):=by unfold PMem.pending; simpa using h3
   have he : M.ent (M.pending n false) = x:=by rw [hp]; simp [PMem.ent,h1]
   rw [he] at e1;simp only [isPd,Bool.and_eq_true,beq_iff_eq] at h2;have hsd : Sd M n b.stamp b.dst:=by
    refine ⟨b,List.mem_of_getElem? hb,?_,rfl,rfl⟩;unfold stp at sb;simp only [Bool.and_eq_true,Bool.not_eq_true'] at sb;simp [isSt,sb.1,sb.2,e1.trans h2.2.1,hw.sd b (List.mem_of_getElem? hb)]
   exact hn _ _ hsd e2
 ·exact h
theorem pend_eslen (n : Int) (s : Bool) (to : Int) : (M.pend n s to).es.length = M.es.length:=by unfold PMem.pend; split <;> simp [PMem.setE]
theorem addLink_eslen (n to : Int) : (M.addLink n to).es.length = M.es.length:=by
 unfold PMem.addLink; split
 ·split
  ·rw [pend_eslen,modN_ents]
  ·rw [pend_eslen,modN_ents]
  ·rfl
 ·rfl
theorem make_eslen (a b : Int) : (M.make a b).1.es.length = M.es.length:=by unfold PMem.make; split <;> rfl
theorem unpend_eslen (n : Int) (s : Bool) : (M.unpend n s).es.length = M.es.length:=by unfold PMem.unpend; split <;> simp [PMem.setE]
theorem stamp_eslen (n : Int) (s : Bool) (st : Int) : (M.stamp n s st).es.length = M.es.length:=by unfold PMem.stamp; split <;> simp [PMem.setE]
theorem free_eslen (n : Int) : (M.free n).es.length = M.es.length:=by unfold PMem.free; split <;> simp
theorem freesIf_eslen (ht : Bool) (tm : Int) : ∀ (l : List Nat) (M : PMem),(M.freesIf ht tm l).es.length = M.es.length
 | [],_=>rfl
 | n :: l,M=>by
  unfold PMem.freesIf;rw [freesIf_eslen ht tm l];split
  ·exact free_eslen _
  ·rfl
theorem drop_eslen (time : Int) : (M.drop time).es.length = M.es.length:=(dropK time M.es M.es.length).len
theorem lead_es (n : Int) (s : Bool) : (M.lead n s).es = M.es:=by
 unfold PMem.lead; split
 ·exact modN_ents _ _ _
 ·rfl
theorem kills_es : ∀ (l : List Int) (M : PMem),(M.kills l).es = M.es
 | [],_=>rfl
 | n :: l,M=>by show ((M.kill n).kills l).es = _; rw [kills_es l]; exact modN_ents _ _ _
theorem retires_es (tm : Int) : ∀ (l : List Int) (M : PMem),(M.retires tm l).es = M.es
 | [],_=>rfl
 | n :: l,M=>by show ((M.retire n tm).retires tm l).es = _; rw [retires_es tm l]; exact modN_ents _ _ _
end
structure EntStep (M M' : PMem) : Prop where
 sd : ∀ x s d,Sd M x s d->Sd M' x s d
 uq : UQ M.es->UQ M'.es
 ln : M'.es.length = M.es.length
theorem EntStep.same {M M' : PMem} (h : M'.es = M.es) : EntStep M M':=⟨fun x s d=>(sd_es h x s d).2,by rw [h]; exact id,by rw [h]⟩
section
variable {C C' : Int->Prop} {i j : Nat} {t : PThread} {P : PSt} {L : Nat}
theorem Inv.ents (h : Inv C P) (ht : P.ts[i]? = some t) (hb : t.busy = true) : EntStep P.mem (P.step i t).1.mem:=by
 have hT:=h.th i t ht;have hnx:=hT.nx hb;have hkd:=hT.kd hb;have hrd:=hT.rd hb;rcases (show t.work.next = 1\/t.work.next = 2\/t.work.next = 3\/t.work.next = 13\/(4<=t.work.next/\t.work.next<=12) by omega) with hn | hn | hn | hn | hn
 ·unfold PSt.step; simp only [hn]; exact EntStep.same rfl
 ·unfold PSt.step; simp only [hn]; exact EntStep.same rfl
 ·unfold PSt.step; simp only [hn]; exact EntStep.same rfl
 ·unfold PSt.step; simp only [hn]; exact EntStep.same rfl
 ·rw [step_mid P hn.1 hn.2];by_cases hk : t.work.kind = 3\/t.work.kind = 4
  ·rw [if_pos hk];unfold PSt.read;simp only;split <;> exact EntStep.same rfl
  ·rw [if_neg hk];have hk : t.work.kind = 1\/t.work.kind = 2:=by omega
   unfold PSt.update;rcases (show t.work.next = 4\/t.work.next = 5\/t.work.next = 6\/t.work.next = 7\/t.work.next = 8\/t.work.next = 9\/t.work.next = 10\/t.work.next = 11\/t.work.next = 12 by omega) with hn | hn | hn | hn | hn | hn | hn | hn | hn
   ·simp only [hn]; exact EntStep.same rfl
   ·simp only [hn];rcases h.lock ht hb hn with ⟨_,q,_⟩ | ⟨_,q⟩
    ·rw [q];exact EntStep.same (show (P.mem.modN (lockNext t.work) fun x=>{ x with holder:=(i : Int) }).es = P.mem.es from modN_ents _ _ _)
    ·rw [q]; exact EntStep.same rfl
   ·simp only [hn];unfold PSt.check;split
    ·exact EntStep.same (show (P.mem.unlock i).es = P.mem.es from rfl)
    ·split <;> exact EntStep.same rfl
   ·simp only [hn];unfold PSt.prepare;split
    ·exact EntStep.same rfl
    ·next hroom =>
     rcases hk with hk | hk
     ·have hne : P.needs t.work.kind = (1,2):=by unfold PSt.needs; rw [hk,if_neg (by decide),if_neg (by rw [h.kind]; decide)]
      rw [hne] at hroom;simp only [hk,if_true];obtain ⟨n,M1,_,q2,_,_,_,q6⟩:=h.grown ht hb hn (by simp only at hroom; omega) (by simp only at hroom; omega);refine ⟨?_,?_,?_⟩
      ·intro x s d hs;rw [q2];exact (q6 x s d).2 hs
      ·intro hu;show UQ (P.prepareInsert t.work).1.es;unfold PSt.prepareInsert;simp only [if_pos h.kind];exact uq_pend (uq_addLink (uq_make hu _ _) _ _) _ _ _
      ·show (P.prepareInsert t.work).1.es.length = _;unfold PSt.prepareInsert;simp only [if_pos h.kind];rw [pend_eslen,addLink_eslen,make_eslen]
     ·simp only [hk,show ¬ ((2 : Int) = 1) by decide,if_false];have hne : P.needs t.work.kind = (0,1):=by unfold PSt.needs; rw [hk,if_pos rfl]
      rw [hne] at hroom;obtain ⟨_,m1,m2,m3,m4,m5,m6⟩:=h.mine ht hb (by omega) (by omega);have hs1:=(h.side (.inl m1) t.work.key).1;have hr : 0 < P.mem.room.2:=by simp only at hroom; omega
      obtain ⟨e,he,hu⟩:=count_some (l:=P.mem.es) (p:=fun x=>!x.used) (by unfold PMem.room at hr; simpa using hr);refine ⟨?_,?_,?_⟩
      ·intro x s d hs;show Sd (P.prepareRemove t.work).1 x s d;unfold PSt.prepareRemove;simp only [if_pos h.kind];rw [hs1];obtain ⟨_,_,_,_,_,g5⟩:=pend_e (to:=P.leadsFrom t.work.ahead t.work.key) h.wm ⟨e,he,by simpa using hu⟩ m5 (h.noPend ht hb hn);exact (g5 x s d).2 hs
      ·intro hq;show UQ (P.prepareRemove t.work).1.es;unfold PSt.prepareRemove;simp only [if_pos h.kind];exact uq_pend hq _ _ _
      ·show (P.prepareRemove t.work).1.es.length = _;unfold PSt.prepareRemove;simp only [if_pos h.kind];rw [pend_eslen]
   ·simp only [hn];obtain ⟨t1,t2⟩:=hT.ts hb (by omega) (by omega);have hu : P.mem.unpend t.work.tsrc t.work.tside = P.mem.unpend t.work.stand false:=by rw [t1,t2]
    unfold PSt.take;rw [hu];split
    ·rcases hk with hk | hk
     ·obtain ⟨n,f1,f2,f3,f4,f5,f6,f7,f8,f9,f10,f11⟩:=hT.f8 hb hk (.inl hn);obtain ⟨u1,u2,u3,u4⟩:=unpend_e h.wm f10;have hnd:=node_ns u1;obtain ⟨_,_,_,_,v5⟩:=free_e (n:=n) u2 (hasN_used (by rw [hnd]; exact f4)) ⟨f2,f3⟩;have hfr : (P.mem.unpend t.work.stand false).frees t.work.made = (P.mem.unpend t.work.stand false).free n:=by rw [f1]; rfl
      rw [hfr];refine ⟨?_,?_,?_⟩
      ·intro x s d hs;show Sd ((P.mem.unpend t.work.stand false).free n) x s d;rw [v5,u4];exact ⟨by rintro rfl; exact (f11 hn).2 s d hs,hs⟩
      ·intro hq;show UQ ((P.mem.unpend t.work.stand false).free n).es;exact uq_free (uq_unpend hq _ _) _
      ·show ((P.mem.unpend t.work.stand false).free n).es.length = _;rw [free_eslen,unpend_eslen]
     ·obtain ⟨p1,p2⟩:=hT.p2 hb hk (by omega) (by omega);obtain ⟨_,_,_,u4⟩:=unpend_e h.wm p1;have hfr : (P.mem.unpend t.work.stand false).frees t.work.made = P.mem.unpend t.work.stand false:=by rw [p2]; rfl
      rw [hfr];exact ⟨fun x s d hs=>(u4 x s d).2 hs,fun hq=>uq_unpend hq _ _,unpend_eslen _ _⟩
    ·rcases hk with hk | hk
     ·rw [if_neg (show ¬ t.work.kind = 2 by omega)];obtain ⟨n,f1,f2,f3,f4,f5,f6,f7,f8,f9,f10,f11⟩:=hT.f8 hb hk (.inl hn);obtain ⟨f12,f13⟩:=f11 hn;obtain ⟨g1,g2,g3,g4⟩:=stamp_e (P.clock + 1) h.wm f12;have hsn : P.mem.stampsNew (P.clock + 1) t.work.made = P.mem.stamp n false (P.clock + 1):=by
       rw [f1];show (P.mem.stampNew n (P.clock + 1)) = _;unfold PMem.stampNew;rw [stamp_no g2]
      rw [hsn];exact ⟨fun x s d hs=>(g4 x s d).2 (.inl hs),fun hq=>uq_stamp h.wm hq (fun s d hs=>absurd hs (f13 s d)),stamp_eslen _ _ _⟩
     ·rw [if_pos hk]; exact EntStep.same rfl
   ·simp only [hn];exact EntStep.same (kills_es _ _)
   ·simp only [hn];exact EntStep.same (lead_es _ _)
   ·simp only [hn];obtain ⟨t1,t2⟩:=hT.ts hb (by omega) (by omega);have p1:=hT.p11 hb hn;obtain ⟨s1,s2,s3,s4⟩:=hT.s9 hb (by omega) (by omega);obtain ⟨g1,g2,g3,g4⟩:=stamp_e t.work.ans.stamp h.wm p1;rw [show P.mem.stamp t.work.tsrc t.work.tside t.work.ans.stamp = P.mem.stamp t.work.stand false t.work.ans.stamp by rw [t1,t2]];exact ⟨fun x s d hs=>(g4 x s d).2 (.inl hs),fun hq=>uq_stamp h.wm hq (fun s d hs=>by have:=s4 s d hs; omega),stamp_eslen _ _ _⟩
   ·simp only [hn];unfold PSt.unlock;simp only;split
    ·exact EntStep.same ((retires_es _ _ _).trans rfl)
    ·exact EntStep.same (show (P.mem.unlock i).es = P.mem.es from rfl)
end
end
section
def Fresh10 (x : Int) (t : PThread) : Prop:=t.busy = true/\t.work.kind = 1/\t.work.next = 10/\x ∈ t.work.made
structure InvX (C : Int->Prop) (P : PSt) : Prop where
 pr : ∀ x,C x->x≠0->∃ y,C y/\Ld P.mem y = x
 en : ∀ x,(C x\/Ex P.ts (Fresh10 x))->∃ s d,Sd P.mem x s d
 uq : UQ P.mem.es
 k0 : (P.mem.node 0).key = 0/\(P.mem.node 0).value = 0
section
variable {C C' : Int->Prop} {i j : Nat} {t : PThread} {P : PSt} {L : Nat}
end
end
end Go.Proofs.YtfccelbmacjifaaGreat
