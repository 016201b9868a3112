import Derived.Test.YtfccelbmacjifabGreatP0
import Derived.Test.YtfccelbmacjifabGreatP27
import Derived.Test.YtfccelbmacjifabGreatP26
import Derived.Test.YtfccelbmacjifabGreatRows
import Derived.Test.YtfccelbmacjifabGreatP25
import Derived.Test.YtfccelbmacjifabGreatP20
import Derived.ProofKit
import Derived.Lib.SmallJoins
import Derived.OpenShut
import Derived.ChangeOld
import Derived.JoinedCond
set_option linter.unusedSimpArgs false
set_option maxRecDepth 100000
set_option maxHeartbeats 4000000
namespace Go.Proofs.YtfccelbmacjifabGreat
section
namespace T
section
variable {g g' : Gh} {M M' : PMem} {c c' T : Int} {r r' : PSweep} {i j : Nat} {t t' u : PThread} {ts ts' : List PThread} {P P' : PSt} {x d st : Int} {s : Bool} {key : Int} {k : PWork} {tr : Tr} {L n n' : Nat}
theorem mul_mono (h : n'<=n) {a b : Nat} (hab : a<=b) : (n' + a) * (L + 2)<=(n + b) * (L + 2):=Nat.mul_le_mul_right _ (by omega)
theorem phi_idle {ts : List PThread} (hb : t.busy = false) : phi L g M c ts n t = 0:=by unfold phi; rw [if_pos hb]
theorem phi_r13 {ts : List PThread} (hb : t.busy = true) (hr : t.work.kind = 3\/t.work.kind = 4) (hn : t.work.next = 13) : phi L g M c ts n t = 1:=by
 unfold phi; rw [if_neg (by simp [hb]),if_pos hr,if_pos hn]
theorem phi_r4 {ts : List PThread} (hb : t.busy = true) (hr : t.work.kind = 3\/t.work.kind = 4) (hn : t.work.next = 4) : phi L g M c ts n t = 2 + rs g t.work:=by
 unfold phi; rw [if_neg (by simp [hb]),if_pos hr,if_neg (by omega),if_pos hn]
theorem phi_r3 {ts : List PThread} (hb : t.busy = true) (hr : t.work.kind = 3\/t.work.kind = 4) (hn : t.work.next<=3) : phi L g M c ts n t = L + 7 - t.work.next:=by
 unfold phi; rw [if_neg (by simp [hb]),if_pos hr,if_neg (by omega),if_neg (by omega)]
theorem phi_u7 {ts : List PThread} (hb : t.busy = true) (hr : ¬ (t.work.kind = 3\/t.work.kind = 4)) (hn : 7<=t.work.next) : phi L g M c ts n t = 14 - t.work.next:=by
 unfold phi; rw [if_neg (by simp [hb]),if_neg hr,if_pos hn]
theorem phi_u6 {ts : List PThread} (hb : t.busy = true) (hr : ¬ (t.work.kind = 3\/t.work.kind = 4)) (hn : t.work.next = 6) : phi L g M c ts n t = 9 + (n + stale g M c ts t.work) * (L + 2):=by
 unfold phi; rw [if_neg (by simp [hb]),if_neg hr,if_neg (by omega),if_pos hn,if_pos (by omega)]
theorem phi_u5 {ts : List PThread} (hb : t.busy = true) (hr : ¬ (t.work.kind = 3\/t.work.kind = 4)) (hn : t.work.next = 5) : phi L g M c ts n t = 11 - t.work.locks + (n + stale g M c ts t.work) * (L + 2):=by
 unfold phi; rw [if_neg (by simp [hb]),if_neg hr,if_neg (by omega),if_neg (by omega),if_pos hn,if_pos (by omega)]
theorem phi_u4 {ts : List PThread} (hb : t.busy = true) (hr : ¬ (t.work.kind = 3\/t.work.kind = 4)) (hn : t.work.next = 4) : phi L g M c ts n t = 11 + wp L g M c ts t.work.stand + (n + stale g M c ts t.work) * (L + 2):=by
 unfold phi; rw [if_neg (by simp [hb]),if_neg hr,if_neg (by omega),if_neg (by omega),if_neg (by omega),if_pos hn,if_pos (by omega)]
theorem phi_u3 {ts : List PThread} (hb : t.busy = true) (hr : ¬ (t.work.kind = 3\/t.work.kind = 4)) (hn : t.work.next<=3) : phi L g M c ts n t = L + 15 - t.work.next + n * (L + 2):=by
 unfold phi; rw [if_neg (by simp [hb]),if_neg hr,if_neg (by omega),if_neg (by omega),if_neg (by omega),if_neg (by omega),if_neg (by omega)]; simp
theorem phi_late {ts ts' : List PThread} (hb : t.busy = true) (hk : t.work.kind = 1\/t.work.kind = 2) (h6 : 6<=t.work.next) (h1 : k.kind = t.work.kind) (h2 : t.work.next < k.next) (h3 : k.next<=13) : phi L g' M' c' ts' n' { t with work:=k } < phi L g M c ts n t:=by
 rw [phi_u7 (t:={ t with work:=k }) hb (by show ¬ (k.kind = 3\/k.kind = 4); omega) (by show 7<=k.next; omega)];show 14 - k.next < _
 rcases (show t.work.next = 6\/7<=t.work.next by omega) with e | e
 ·rw [phi_u6 hb (by omega) e]; omega
 ·rw [phi_u7 hb (by omega) e]; omega
theorem Inv.near (h : Inv g P) (hV : InvV g P) (hR : InvR g P) (hL : P.mem.ns.length = L) (ht : P.ts[i]? = some t) (hb : t.busy = true) (hmv : (P.step i t).2≠2) (hn : n'<=n) :
  ∃ t',(P.step i t).1.ts = P.ts.set i t'/\phi L (nextG g P i t) (P.step i t).1.mem (P.step i t).1.clock (P.step i t).1.ts n' t' < phi L g P.mem P.clock P.ts n t:=by
 have hT:=h.th i t ht;have hkd:=hT.kd hb;have hL2 : 2<=L:=by have:=h.wm.len; omega
 have hmul : n' * (L + 2)<=n * (L + 2):=Nat.mul_le_mul_right _ hn;obtain ⟨P',m,hs,ho⟩:=h.out ht hb;have hG : ∀ {k : Nat},t.work.next = k->k≠8->nextG g P i t = g:=fun e1 e2=>nextG_no (fun q=>e2 (e1.symm.trans q.1))
 rw [hs] at hmv ⊢;simp only at hmv ⊢;cases ho with
 | come1 hn1 =>
  refine ⟨_,rfl,?_⟩;by_cases hr : t.work.kind = 3\/t.work.kind = 4
  ·rw [phi_r3 hb hr (by omega),phi_r3 (t:={ t with slot:=1,work:={ t.work with next:=2 } }) hb hr (by show 2<=3; omega)];show L + 7 - 2 < _; omega
  ·rw [phi_u3 hb hr (by omega),phi_u3 (t:={ t with slot:=1,work:={ t.work with next:=2 } }) hb hr (by show 2<=3; omega)];show L + 15 - 2 + _ < _; omega
 | come2 hn1 =>
  refine ⟨_,rfl,?_⟩;by_cases hr : t.work.kind = 3\/t.work.kind = 4
  ·rw [phi_r3 hb hr (by omega),phi_r3 (t:={ t with work:={ t.work with time:=P.clock,next:=3 } }) hb hr (by show 3<=3; omega)];show L + 7 - 3 < _; omega
  ·rw [phi_u3 hb hr (by omega),phi_u3 (t:={ t with work:={ t.work with time:=P.clock,next:=3 } }) hb hr (by show 3<=3; omega)];show L + 15 - 3 + _ < _; omega
 | come3 hn1 =>
  refine ⟨_,rfl,?_⟩;by_cases hr : t.work.kind = 3\/t.work.kind = 4
  ·rw [phi_r3 hb hr (by omega),phi_r4 (t:={ t with slot:=2,work:=t.work.home }) hb hr rfl,hG hn1 (by omega)];obtain ⟨hv,t0,t1⟩:=hV.rd i t ht ⟨hb,hr,by omega,by omega⟩;have hg:=hV.gts _ t0 t1;have hsz:=hv.size hg.dj hg.z;have hle : rs g t.work.home<=(g.V t.work.time).size:=by
    unfold rs;show (if t.work.kind = 3 then (if (0 : Int) = 0 then (g.V t.work.time).len t.work.key + 1 else _) else lsz (g.V t.work.time) t.work.links)<=_;rcases hr with hr | hr
    ·rw [if_pos hr,if_pos rfl]; exact Tr.len_size _
    ·rw [if_neg (by omega),hT.lk hb hr (by omega)]
     have:=Stk.lsz hg.dj hg.z (L:=[(0,false)]) (W:=[g.V t.work.time]) ⟨Tr.su_root 0 false _,trivial⟩
     rw [this]; simp [wsz]
   show 2 + rs g t.work.home < _;omega
  ·rw [phi_u3 hb hr (by omega),phi_u4 (t:={ t with slot:=2,work:=t.work.home }) hb hr rfl];rw [stale_zero (show Okk _ _ _ _ t.work.home from ⟨.inl rfl,fun e=>absurd rfl e,fun e=>by have : 5<=4:=e; omega⟩)]
   have:=wp_le (L:=L) (by omega) (nextG g P i t) P.mem P.clock (P.ts.set i { t with slot:=2,work:=t.work.home }) 0
   show 11 + wp L (nextG g P i t) P.mem P.clock (P.ts.set i { t with slot:=2,work:=t.work.home }) 0 + (n' + 0) * (L + 2) < _;rw [Nat.add_zero]; omega
 | leave hn1 =>
  refine ⟨_,rfl,?_⟩;rw [phi_idle (t:=t.leave) rfl];by_cases hr : t.work.kind = 3\/t.work.kind = 4
  ·rw [phi_r13 hb hr hn1]; omega
  ·rw [phi_u7 hb hr (by omega)]; omega
 | rwait=>exact absurd rfl hmv
 | lwait=>exact absurd rfl hmv
 | rgo hn1 hk hp k ek hsk =>
  refine ⟨_,rfl,?_⟩;obtain ⟨_,h2,h3⟩:=h.readStep hV hR ht hb hn1 hk hp ek;have hk' : k.kind = 3\/k.kind = 4:=by rw [hsk.1]; exact hk
  rw [phi_r4 hb hk hn1,hG hn1 (by omega)];rcases hsk.2.1 with e | e
  ·rw [phi_r4 (t:={ t with work:=k }) hb hk' e]
   have:=h2 e
   show 2 + rs g k < _; omega
  ·rw [phi_r13 (t:={ t with work:=k }) hb hk' e]; omega
 | walkOn hn1 hk hl =>
  refine ⟨_,rfl,?_⟩;have x1:=(hT.xs hb hk (by omega) (by omega)).1;have xz:=x1.sn;have hs0 : t.work.stand = 0->sd P.mem t.work.stand t.work.key = false:=fun e=>by rw [e]; exact sd0 h.n.n0.2.1 _
  obtain ⟨p1,p2,_,_⟩:=h.n.ph _ _ xz hs0;rw [phi_u4 hb (by omega) hn1,phi_u4 (t:={ t with work:={ t.work with above:=t.work.stand,stand:=Ld P.mem t.work.stand (sd P.mem t.work.stand t.work.key) } }) hb (by show ¬ (t.work.kind = 3\/t.work.kind = 4); omega) hn1,hG hn1 (by omega)];have hct : Calm t:=calm7 fun _=>by omega
  have hct' : Calm { t with work:={ t.work with above:=t.work.stand,stand:=Ld P.mem t.work.stand (sd P.mem t.work.stand t.work.key) } }:=calm7 fun _=>.inl (by show t.work.next<=7; omega)
  have hsm:=Same.calm ht hct hct';have hlt:=h.wp_lt hL hl p1 (p2 hl);have hwp : wp L g P.mem P.clock (P.ts.set i { t with work:={ t.work with above:=t.work.stand,stand:=Ld P.mem t.work.stand (sd P.mem t.work.stand t.work.key) } }) (Ld P.mem t.work.stand (sd P.mem t.work.stand t.work.key))<=wp L g P.mem P.clock P.ts (Ld P.mem t.work.stand (sd P.mem t.work.stand t.work.key)):=by
   refine wp_mono ?_;rintro p (e | ⟨e1,e2,e3,e4⟩)
   ·exact .inl e
   ·exact .inr ⟨e1,e2,(hsm.gd p).2 e3,e4⟩
  have hah : ∀ y,Ex (P.ts.set i { t with work:={ t.work with above:=t.work.stand,stand:=Ld P.mem t.work.stand (sd P.mem t.work.stand t.work.key) } }) (Ahd y) ↔ Ex P.ts (Ahd y):=fun y=>ex_iff ht (iff_of_false (by rintro ⟨_,_,e,_⟩; have : t.work.next = 9\/t.work.next = 10:=e; omega) (by rintro ⟨_,_,e,_⟩; omega))
  have lk : ∀ y,Lk g P.mem P.clock P.ts y->Lk g P.mem P.clock (P.ts.set i { t with work:={ t.work with above:=t.work.stand,stand:=Ld P.mem t.work.stand (sd P.mem t.work.stand t.work.key) } }) y:=by
   rintro y (e | ⟨e1,e2,e3⟩)
   ·exact .inl e
   ·exact .inr ⟨e1,(hsm.gd y).2 e2,by rw [hah]; exact e3⟩
  have hst : stale g P.mem P.clock (P.ts.set i { t with work:={ t.work with above:=t.work.stand,stand:=Ld P.mem t.work.stand (sd P.mem t.work.stand t.work.key) } }) { t.work with above:=t.work.stand,stand:=Ld P.mem t.work.stand (sd P.mem t.work.stand t.work.key) }<=stale g P.mem P.clock P.ts t.work:=by
   refine stale_mono (fun ok=>⟨?_,fun _=>⟨lk _ ok.s,rfl⟩,fun e=>by have : 5<=t.work.next:=e; omega⟩);exact lk _ (h.lkOn ok.s hs0 hl)
  have:=mul_mono (L:=L) hn hst
  refine Nat.lt_of_lt_of_le (Nat.add_lt_add_right ?_ _) (Nat.add_le_add_left this _);exact Nat.add_lt_add_left (Nat.lt_of_le_of_lt hwp hlt) 11
 | walkEnd hn1 hk hl =>
  refine ⟨_,rfl,?_⟩;have hl0:=hT.l4 hb (.inl (by omega));rw [phi_u4 hb (by omega) hn1,phi_u5 (t:={ t with work:={ t.work with ahead:=Ld P.mem t.work.stand (sd P.mem t.work.stand t.work.key),next:=5 } }) hb (by show ¬ (t.work.kind = 3\/t.work.kind = 4); omega) rfl,hG hn1 (by omega)];have hct : Calm t:=calm7 fun _=>by omega
  have hct' : Calm { t with work:={ t.work with ahead:=Ld P.mem t.work.stand (sd P.mem t.work.stand t.work.key),next:=5 } }:=calm7 fun _=>.inl (by show 5<=7; omega)
  have hsm:=Same.calm ht hct hct';have hah : ∀ y,Ex (P.ts.set i { t with work:={ t.work with ahead:=Ld P.mem t.work.stand (sd P.mem t.work.stand t.work.key),next:=5 } }) (Ahd y) ↔ Ex P.ts (Ahd y):=fun y=>ex_iff ht (iff_of_false (by rintro ⟨_,_,e,_⟩; have : (5 : Nat) = 9\/(5 : Nat) = 10:=e; omega) (by rintro ⟨_,_,e,_⟩; omega))
  have lk : ∀ y,Lk g P.mem P.clock P.ts y->Lk g P.mem P.clock (P.ts.set i { t with work:={ t.work with ahead:=Ld P.mem t.work.stand (sd P.mem t.work.stand t.work.key),next:=5 } }) y:=by
   rintro y (e | ⟨e1,e2,e3⟩)
   ·exact .inl e
   ·exact .inr ⟨e1,(hsm.gd y).2 e2,by rw [hah]; exact e3⟩
  have hst : stale g P.mem P.clock (P.ts.set i { t with work:={ t.work with ahead:=Ld P.mem t.work.stand (sd P.mem t.work.stand t.work.key),next:=5 } }) { t.work with ahead:=Ld P.mem t.work.stand (sd P.mem t.work.stand t.work.key),next:=5 }<=stale g P.mem P.clock P.ts t.work :=
   stale_mono (fun ok=>⟨lk _ ok.s,fun e=>⟨lk _ (ok.a e).1,(ok.a e).2⟩,fun _=>rfl⟩)
  have:=mul_mono (L:=L) hn hst
  have hw:=h.wp_pos hL2 t.work.stand;refine Nat.lt_of_lt_of_le (Nat.add_lt_add_right ?_ _) (Nat.add_le_add_left this _);show 11 - t.work.locks < _;omega
 | lock hn1 hk hh nn hnn hn56 =>
  refine ⟨_,rfl,?_⟩;have hlk:=hT.l5 hb hn1;have hll:=hl_len P.mem t.work;obtain ⟨l1,_⟩:=h.lockIs ht hb hn1;have hnd:=node_modN (hasN_used l1) (fun x=>{ x with holder:=(i : Int) });have hq : HoldEq P.mem (P.mem.modN (lockNext P.mem t.work) fun x=>{ x with holder:=(i : Int) }):=by
   intro x;rw [hnd];split
   ·next e=>subst e; exact ⟨_,rfl⟩
   ·exact ⟨(P.mem.node x).holder,rfl⟩
  generalize (P.mem.modN (lockNext P.mem t.work) fun x=>{ x with holder:=(i : Int) }) = M1 at *;have hct : Calm t:=calm7 fun _=>by omega
  have hct' : Calm { t with work:={ t.work with locks:=t.work.locks + 1,next:=nn } }:=calm7 fun _=>.inl (by show nn<=7; omega)
  have hsm:=Same.calm ht hct hct';have hah : ∀ y,Ex (P.ts.set i { t with work:={ t.work with locks:=t.work.locks + 1,next:=nn } }) (Ahd y) ↔ Ex P.ts (Ahd y):=fun y=>ex_iff ht (iff_of_false (by rintro ⟨_,_,e,_⟩; have : nn = 9\/nn = 10:=e; omega) (by rintro ⟨_,_,e,_⟩; omega))
  have lk : ∀ y,Lk g P.mem P.clock P.ts y->Lk g M1 P.clock (P.ts.set i { t with work:={ t.work with locks:=t.work.locks + 1,next:=nn } }) y:=by
   rintro y (e | ⟨e1,e2,e3⟩)
   ·exact .inl e
   ·exact .inr ⟨by simp only [Ln]; rw [(hq.to y).2.2.2.2.2.2.1]; exact e1,(hsm.gd y).2 e2,by rw [hah]; exact e3⟩
  have ld : ∀ y q,Ld M1 y (sd M1 y q) = Ld P.mem y (sd P.mem y q):=fun y q=>by rw [hq.sd]; simp only [Ld]; rw [(hq.to y).2.2.2.2.2.1]
  have hst : stale g M1 P.clock (P.ts.set i { t with work:={ t.work with locks:=t.work.locks + 1,next:=nn } }) { t.work with locks:=t.work.locks + 1,next:=nn }<=stale g P.mem P.clock P.ts t.work :=
   stale_mono (fun ok=>⟨lk _ ok.s,fun e=>⟨lk _ (ok.a e).1,by rw [ld]; exact (ok.a e).2⟩,fun _=>by rw [ld]; exact ok.h (by omega)⟩)
  have hmm:=mul_mono (L:=L) hn hst;rw [phi_u5 hb (by omega) hn1,hG hn1 (by omega)];rcases hn56 with e | e
  ·subst e;rw [phi_u5 (t:={ t with work:={ t.work with locks:=t.work.locks + 1,next:=5 } }) hb (by show ¬ (t.work.kind = 3\/t.work.kind = 4); omega) rfl];refine Nat.lt_of_lt_of_le (Nat.add_lt_add_right ?_ _) (Nat.add_le_add_left hmm _);show 11 - (t.work.locks + 1) < 11 - t.work.locks;omega
  ·subst e;rw [phi_u6 (t:={ t with work:={ t.work with locks:=t.work.locks + 1,next:=6 } }) hb (by show ¬ (t.work.kind = 3\/t.work.kind = 4); omega) rfl];refine Nat.lt_of_lt_of_le (Nat.add_lt_add_right ?_ _) (Nat.add_le_add_left hmm _);omega
 | home hn1 hk ho =>
  refine ⟨_,rfl,?_⟩;rw [phi_u6 hb (by omega) hn1,phi_u4 (t:={ t with work:=({ t.work with locks:=0 } : PWork).home }) hb (by show ¬ (t.work.kind = 3\/t.work.kind = 4); omega) rfl];rw [stale_zero (show Okk _ _ _ _ ({ t.work with locks:=0 } : PWork).home from ⟨.inl rfl,fun e=>absurd rfl e,fun e=>by have : 5<=4:=e; omega⟩)];have h1 : stale g P.mem P.clock P.ts t.work = 1:=by
   unfold stale; rw [if_neg (fun ok=>h.okPass ht hb hn1 ok ho)]
  have:=wp_le (L:=L) (by omega) (nextG g P i t) (P.mem.unlock i) P.clock (P.ts.set i { t with work:=({ t.work with locks:=0 } : PWork).home }) 0
  rw [h1];show 11 + wp L (nextG g P i t) (P.mem.unlock i) P.clock (P.ts.set i { t with work:=({ t.work with locks:=0 } : PWork).home }) 0 + (n' + 0) * (L + 2) < _;have e : (n + 1) * (L + 2) = n * (L + 2) + (L + 2):=by rw [Nat.succ_mul]
  rw [Nat.add_zero,e]; omega
 | same hn1 hk=>exact ⟨_,rfl,phi_late hb hk (by omega) rfl (by show t.work.next < 12; omega) (by show 12<=13; omega)⟩
 | right hn1 hk=>exact ⟨_,rfl,phi_late hb hk (by omega) rfl (by show t.work.next < 7; omega) (by show 7<=13; omega)⟩
 | full hn1 hk=>exact ⟨_,rfl,phi_late hb hk (by omega) rfl (by show t.work.next < 12; omega) (by show 12<=13; omega)⟩
 | prepI hn1 hk=>exact ⟨_,rfl,phi_late hb (.inl hk) (by omega) rfl (by show t.work.next < 8; omega) (by show 8<=13; omega)⟩
 | prepR hn1 hk=>exact ⟨_,rfl,phi_late hb (.inr hk) (by omega) rfl (by show t.work.next < 8; omega) (by show 8<=13; omega)⟩
 | late hn1 hk=>exact ⟨_,rfl,phi_late hb hk (by omega) rfl (by show t.work.next < 12; omega) (by show 12<=13; omega)⟩
 | takeI hn1 hk=>exact ⟨_,rfl,phi_late hb (.inl hk) (by omega) rfl (by show t.work.next < 10; omega) (by show 10<=13; omega)⟩
 | takeR hn1 hk=>exact ⟨_,rfl,phi_late hb (.inr hk) (by omega) rfl (by show t.work.next < 9; omega) (by show 9<=13; omega)⟩
 | kill hn1 hk=>exact ⟨_,rfl,phi_late hb (.inr hk) (by omega) rfl (by show t.work.next < 10; omega) (by show 10<=13; omega)⟩
 | link hn1 hk=>exact ⟨_,rfl,phi_late hb hk (by omega) rfl (by show t.work.next < 11; omega) (by show 11<=13; omega)⟩
 | stamp hn1 hk=>exact ⟨_,rfl,phi_late hb hk (by omega) rfl (by show t.work.next < 12; omega) (by show 12<=13; omega)⟩
 | unlock hn1 hk=>exact ⟨_,rfl,phi_late hb hk (by omega) rfl (by show t.work.next < 13; omega) (by show 13<=13; omega)⟩
end
end T
end
section
structure Kin where
 κ : Int
 hκ : κ = 0\/κ = 1
 Pot : Nat->PSt->Nat->Prop
 kind : ∀ {N n : Nat} {P : PSt},Pot N P n->P.kind = κ
 move : ∀ {N n i : Nat} {P : PSt} {t : PThread},Pot N P n->P.ts[i]? = some t->t.busy = true->(P.step i t).2≠2->∃ n',n' + 1<=n/\Pot N (P.step i t).1 n'
 wait : ∀ {N n i : Nat} {P : PSt} {t : PThread},Pot N P n->P.ts[i]? = some t->t.busy = true->(P.step i t).2 = 2->(P.step i t).1 = P
 live : ∀ {N n i : Nat} {P : PSt} {t : PThread},Pot N P n->P.ts[i]? = some t->t.busy = true->∃ (j : Nat) (u : PThread),P.ts[j]? = some u/\u.busy = true/\(P.step j u).2≠2/\(j = i\/u.work.kind = 1\/u.work.kind = 2)
 bound : ∀ {N n : Nat} {P : PSt},Pot N P n->Pot N P (P.ts.length * ((P.ts.length + 2) * (N + 16)))
 beg : ∀ {N n i : Nat} {P : PSt} {t : PThread} {kd ky va : Int} {sp : List (Int × Int)},Pot N P n->P.ts[i]? = some t->t.busy = false->properB kd ky sp = true->∃ n',Pot N (P.setT i { t with busy:=true,work:=newWork kd ky va sp }) n'
 swp : ∀ {N n : Nat} {P : PSt},Pot N P n->∃ n',Pot N P.doSweep.1 n'
 new : ∀ {T N E L : Int},1<=E->∃ n,Pot N.toNat (freshP κ T N E L) n
section
variable {K : Kin} {i j : Nat} {t : PThread} {P : PSt} {L : Nat} {D D' : PlD}
def Pot (K : Kin) (N : Nat) (D : PlD) (n : Nat) : Prop:=K.Pot N D.P n
end
end
section
open Go.RowKit
section
variable {K : Kin} {own : Own} {z : Nat} {w w' : World} {pb : Nat} {D D1 D2 : PlD} {i f k m s N b : Nat} {t : PThread} {J : PlD->Prop} {T Nn E L : Int}
end
end
section
open Go.RowKit
section
variable {K : Kin} {own : Own} {z : Nat} {w w' : World} {pb : Nat} {D D1 D2 : PlD} {i f k m s N b : Nat} {t : PThread} {J : PlD->Prop} {T Nn E L : Int}
end
end
section
open Go.RowKit
section
variable {K : Kin} {own : Own} {z : Nat} {w w' : World} {pb : Nat} {D D1 D2 : PlD} {i f k m s N b : Nat} {t : PThread} {J : PlD->Prop} {T Nn E L : Int}
end
end
section
open Go.RowKit
section
variable {w w1 : World} {i : Nat}
theorem ActIn.keep {sa : Option Addr} {a : ActD} (h : ActIn w sa i a) (hf : Fr (fun _=>False) w w1) : ActIn w1 sa i a:=by
 obtain ⟨b,off,e,h1,h2,h3⟩:=h;exact ⟨b,off,e,fun j v hj=>hf.keepCell (h1 j v hj),h2.keep hf,h3⟩
theorem OwnSpans.keep {w0 : World} {v : Value} {sp : List (Int × Int)} (h : OwnSpans w0 w v sp) (hf : Fr (fun _=>False) w w1) : OwnSpans w0 w1 v sp:=⟨hf.owns h.row (fun _ _ h=>h),h.new,h.fr.trans hf⟩
end
end
section
open Go.RowKit
section
variable {K : Kin} {own : Own} {z : Nat} {w w1 w' : World} {pb : Nat} {D D1 D2 : PlD} {i f k m s N b : Nat} {t : PThread} {J : PlD->Prop} {T Nn E L : Int}
end
end
section
theorem fresh_nodes (nn : Nat) (es : List PEntry) (x : Int) : (⟨freshNodes nn,es⟩ : PMem).node x = if x = 0 then anchorNode else if x = 1 then endNode else PNode.zero:=by
 unfold PMem.node;have hl : (⟨freshNodes nn,es⟩ : PMem).hasNode x = true ↔ 0<=x/\x < nn + 2:=by
  unfold PMem.hasNode; rw [isIn_iff]; simp [freshNodes]; omega
 by_cases h : (⟨freshNodes nn,es⟩ : PMem).hasNode x = true
 ·rw [if_pos h];rw [hl] at h;by_cases h0 : x = 0
  ·subst h0; rfl
  ·rw [if_neg h0];by_cases h1 : x = 1
   ·subst h1; rfl
   ·rw [if_neg h1];obtain ⟨k,hk⟩ : ∃ k : Nat,x = k + 2:=⟨(x - 2).toNat,by omega⟩;have : x.toNat = k + 2:=by omega
    rw [this];show ((anchorNode :: endNode :: List.replicate nn PNode.zero)[k + 2]?).getD PNode.zero = _;simp only [List.getElem?_cons_succ];rw [List.getElem?_replicate];split <;> rfl
 ·rw [if_neg h];rw [hl] at h;rw [if_neg (by omega),if_neg (by omega)]
theorem count_flip {α : Type} (p : α->Bool) : ∀ {l : List α} {k : Nat} {x : α} (y : α),l[k]? = some x->count p l + (if p y then 1 else 0) = count p (l.set k y) + (if p x then 1 else 0)
 | [],k,x,y,h=>by simp at h
 | z :: r,0,x,y,h=>by
  simp at h; subst h;unfold count;rw [List.set_cons_zero,List.filter_cons,List.filter_cons];by_cases h1 : p z = true <;> by_cases h2 : p y = true <;> simp [h1,h2] <;> omega
 | z :: r,k + 1,x,y,h=>by
  have ih:=count_flip p (l:=r) (k:=k) (x:=x) y (by simpa using h);unfold count at *;rw [List.set_cons_succ,List.filter_cons,List.filter_cons];by_cases h1 : p z = true
  ·simp only [h1,if_true,List.length_cons]; omega
  ·simp only [h1,if_false,Bool.false_eq_true]; exact ih
theorem greatest_le (B : Int) : ∀ (l : List (Int × Int)) (m : Int),m<=B->(∀ p ∈ l,p.2<=B)->l.foldl (fun m p=>if p.2 > m then p.2 else m) m<=B
 | [],m,hm,_=>hm
 | p :: l,m,hm,h=>by
  rw [List.foldl_cons];refine greatest_le B l _ ?_ (fun q hq=>h q (by simp [hq]))
  have:=h p (by simp)
  split <;> omega
theorem spansOkX_hi : ∀ (l : List (Int × Int)),spansOkX l = true->∀ p ∈ l,p.2<=1099511627776
 | [],_,p,hp=>by cases hp
 | q :: l,h,p,hp=>by
  unfold spansOkX at h;simp only [Bool.and_eq_true,isIn_iff,decide_eq_true_eq] at h;rcases List.mem_cons.1 hp with rfl | hp
  ·have:=h.2.1.2; omega
  ·exact spansOkX_hi l h.2.2.2 p hp
theorem newWork_ok {kd ky va : Int} {sp : List (Int × Int)} (h : properB kd ky sp = true) : (newWork kd ky va sp).next = 1/\(newWork kd ky va sp).kind = kd/\(kd = 1\/kd = 2\/kd = 3\/kd = 4)/\(newWork kd ky va sp).locks = 0/\(newWork kd ky va sp).made = []/\(kd≠4->0<=(newWork kd ky va sp).key/\(newWork kd ky va sp).key<=1099511627776/\(newWork kd ky va sp).key = ky)/\(kd = 4->greatestHi (newWork kd ky va sp).spans<=1099511627776/\(newWork kd ky va sp).links = [(0,false)]/\(newWork kd ky va sp).spans = sp)/\(kd≠4->(newWork kd ky va sp).links = [])/\(kd = 1->(newWork kd ky va sp).value = va):=by
 have h0 : checkOp kd ky sp = 0:=of_decide_eq_true h;unfold checkOp at h0;by_cases h1 : kd = 1\/kd = 2\/kd = 3
 ·rw [if_pos h1] at h0;have hk : isIn ky 0 (2 ^ 40) = true:=by
   cases hh : isIn ky 0 (2 ^ 40)
   ·rw [hh] at h0; exact absurd h0 (by decide)
   ·rfl
  rw [isIn_iff] at hk;rcases h1 with e | e | e <;> subst e <;> simp [newWork,PWork.zero] <;> omega
 ·rw [if_neg h1] at h0;by_cases h4 : kd = 4
  ·subst h4;rw [if_pos rfl] at h0;have hk : (isIn sp.length 1 16 && spansOkX sp) = true:=by
    cases hh : (isIn sp.length 1 16 && spansOkX sp)
    ·rw [hh] at h0; exact absurd h0 (by decide)
    ·rfl
   rw [Bool.and_eq_true] at hk;refine ⟨rfl,rfl,.inr (.inr (.inr rfl)),rfl,rfl,fun e=>absurd rfl e,fun _=>⟨?_,rfl,rfl⟩,fun e=>absurd rfl e,fun e=>by cases e⟩;show greatestHi sp<=_;exact greatest_le _ sp 0 (by decide) (spansOkX_hi sp hk.2)
  ·rw [if_neg h4] at h0; exact absurd h0 (by decide)
section
variable {K : Kin} {κ : Int} {D D' : PlD} {i : Nat} {t : PThread} {o : OpV} {T N E L : Int}
end
end
section
open Go.ChangeShapes Go.WideShapes Go.ChangeAt Go.RowKit Go.Joins Go.Deep
theorem Tryz.own : ownKnob Tryz.prog.godebug = none:=by kernel_rfl
theorem Tryz.laidOut : laidOutB Tryz.prog = true:=by kernel_rfl
theorem Tryz.cellsConfig : Tryz.prog.cellsOf 23 = 5:=by kernel_rfl
theorem Tryz.cellsAct : Tryz.prog.cellsOf 29 = 7:=by kernel_rfl
theorem Tryz.cellsSpan : Tryz.prog.cellsOf 81 = 2:=by kernel_rfl
theorem Tryz.cellsSpans : Tryz.prog.cellsOf 27 = 1:=by kernel_rfl
theorem Tryz.cellsInt : Tryz.prog.cellsOf 3 = 1:=by kernel_rfl
theorem list5 {α : Type} {l : List α} (h : l.length = 5) : ∃ a b c d e,l = [a,b,c,d,e]:=by
 match l,h with
 | [a,b,c,d,e],_=>exact ⟨a,b,c,d,e,rfl⟩
theorem array5 {α : Type} {l : Array α} (h : l.size = 5) : ∃ a b c d e,l = #[a,b,c,d,e]:=by
 obtain ⟨l⟩:=l;obtain ⟨a,b,c,d,e,rfl⟩:=list5 (l:=l) h;exact ⟨a,b,c,d,e,rfl⟩
section
variable {H : Type} {enc : TypeId × Value->H} {P : Program} {w : World} {base : Nat} {spare : Nat->Bool} {held : Bool}
theorem trod_struct5 {t : TypeId} {f0 f1 f2 f3 f4 : Field} {fuel : Nat} {cs : List Value} {x : DataW H × List MemPlace} (ht : P.underlying t = some (.struct #[f0,f1,f2,f3,f4])) (h : DataW.trod enc P w base spare held fuel t cs = some x) :
  ∃ y0 y1 y2 y3 y4 n,DataW.trod enc P w base spare held n f0.type ((cs.drop f0.offset).take (P.cellsOf f0.type)) = some y0 /\
   DataW.trod enc P w base spare held n f1.type ((cs.drop f1.offset).take (P.cellsOf f1.type)) = some y1/\DataW.trod enc P w base spare held n f2.type ((cs.drop f2.offset).take (P.cellsOf f2.type)) = some y2 /\
   DataW.trod enc P w base spare held n f3.type ((cs.drop f3.offset).take (P.cellsOf f3.type)) = some y3/\DataW.trod enc P w base spare held n f4.type ((cs.drop f4.offset).take (P.cellsOf f4.type)) = some y4:=by
 obtain ⟨xs,n,_,rfl,hl,hlen,hf⟩:=DataW.trod_struct ht h;obtain ⟨y0,y1,y2,y3,y4,rfl⟩:=list5 (l:=xs) hlen;exact ⟨y0,y1,y2,y3,y4,n,by simpa using hf 0 f0 rfl,by simpa using hf 1 f1 rfl,by simpa using hf 2 f2 rfl,by simpa using hf 3 f3 rfl,by simpa using hf 4 f4 rfl⟩
def rawI (c : Int) : Prop:=-9223372036854775808<=c/\c<=9223372036854775807
theorem ints5 {r : Reach} {b0 : Nat} {t ti : TypeId} {f0 f1 f2 f3 f4 : Field} {v : Value} {d : DataW H} {p : List MemPlace} (hs : P.underlying t = some (.struct #[f0,f1,f2,f3,f4])) (hone : oneCellFields P #[f0,f1,f2,f3,f4] = true) (hC : P.cellsOf t = 5)
  (hi : P.underlying ti = some (.int .i64)) (h0 : f0.type = ti) (h1 : f1.type = ti) (h2 : f2.type = ti) (h3 : f3.type = ti) (h4 : f4.type = ti)
  (hv : Value.okWide P w r b0 t v) (h : DataW.Trod enc P w base spare held t v d p) : ∃ k t n e l : Int,v = cfg k t n e l/\rawI t/\rawI n/\rawI e/\rawI l:=by
 obtain ⟨cs,rfl,hsz⟩:=okWide_struct hs hv;obtain ⟨c0,c1,c2,c3,c4,rfl⟩:=array5 (hsz.trans hC);obtain ⟨fuel,hf⟩:=h;obtain ⟨y0,y1,y2,y3,y4,n,g0,g1,g2,g3,g4⟩:=trod_struct5 hs hf;obtain ⟨o0,k0⟩:=hone_of hone 0 f0 rfl;obtain ⟨o1,_⟩:=hone_of hone 1 f1 rfl;obtain ⟨o2,_⟩:=hone_of hone 2 f2 rfl;obtain ⟨o3,_⟩:=hone_of hone 3 f3 rfl;obtain ⟨o4,_⟩:=hone_of hone 4 f4 rfl;rw [h0] at k0;simp only [o0,o1,o2,o3,o4,h0,h1,h2,h3,h4,k0] at g0 g1 g2 g3 g4;obtain ⟨a0,e0,_,_⟩:=DataW.trod_int hi g0;obtain ⟨a1,e1,_,wf1⟩:=DataW.trod_int hi g1;obtain ⟨a2,e2,_,wf2⟩:=DataW.trod_int hi g2;obtain ⟨a3,e3,_,wf3⟩:=DataW.trod_int hi g3;obtain ⟨a4,e4,_,wf4⟩:=DataW.trod_int hi g4;have b1:=Go.bounds_i64 wf1;have b2:=Go.bounds_i64 wf2;have b3:=Go.bounds_i64 wf3;have b4:=Go.bounds_i64 wf4;simp [Value.cells] at e0 e1 e2 e3 e4;subst e0 e1 e2 e3 e4;exact ⟨a0,a1,a2,a3,a4,rfl,b1,b2,b3,b4⟩
end
theorem cfg_open {H : Type} {enc : TypeId × Value->H} {W : World} {r : Reach} {b0 base : Nat} {spare : Nat->Bool} {held : Bool} {v : Value} {d : DataW H} {p : List MemPlace}
  (hv : Value.okWide Tryz.prog W r b0 23 v) (h : DataW.Trod enc Tryz.prog W base spare held 23 v d p) : ∃ k t n e l : Int,v = cfg k t n e l/\rawI t/\rawI n/\rawI e/\rawI l :=
 ints5 Tryz.underlying23 (by kernel_rfl) Tryz.cellsConfig Tryz.underlying3 rfl rfl rfl rfl rfl hv h
theorem bulk_one {H : Type} (d : DataW H) : 1<=Rows.uptoBulk d:=by
 cases d with
 | lit l=>cases l <;> simp [Rows.uptoBulk]
 | nil=>simp [Rows.uptoBulk]
 | ptr d=>simp [Rows.uptoBulk]
 | slice elems spare=>simp [Rows.uptoBulk]
 | agg parts=>simp [Rows.uptoBulk]
 | iface t d=>simp [Rows.uptoBulk]
 | map entries=>simp [Rows.uptoBulk]
 | held h=>simp [Rows.uptoBulk]
theorem bulk_part {H : Type} {d : DataW H} : ∀ {l : List (DataW H)},d ∈ l->Rows.uptoBulk d<=Rows.uptoBulkAll l
 | [],h=>by cases h
 | x :: r,h=>by
  simp only [Rows.uptoBulkAll];rcases List.mem_cons.1 h with rfl | e
  ·omega
  ·have:=bulk_part e; omega
theorem bulk_len {H : Type} : ∀ (l : List (DataW H)),l.length<=Rows.uptoBulkAll l
 | []=>by simp
 | x :: r=>by have h1:=bulk_one x; have h2:=bulk_len r; simp only [Rows.uptoBulkAll,List.length_cons]; omega
theorem acts_open {H : Type} {enc : TypeId × Value->H} {W : World} {r : Reach} {b0 base : Nat} {spare : Nat->Bool} {held : Bool} {v : Value} {d : DataW H} {p : List MemPlace}
  (hv : Value.okWide Tryz.prog W r b0 24 v) (h : DataW.Trod enc Tryz.prog W base spare held 24 v d p) :
  ∃ sa n c,∃ acts : List ActD,v = .slice sa n c/\n<=Rows.uptoBulk d/\acts.length = n/\∀ i a,acts[i]? = some a->ActIn W sa i a/\a.sn<=Rows.uptoBulk d:=by
 obtain ⟨fuel,hf⟩:=h;obtain ⟨sa0,n0,c0,rfl⟩:=okWide_slice Tryz.underlying24 hv;obtain ⟨sa,n,c,acts,e,h1,h2,h3⟩:=script_open (B:=Rows.uptoBulk) Tryz.underlying24 Tryz.underlying29 Tryz.cellsAct rfl rfl rfl rfl rfl rfl rfl rfl rfl rfl rfl rfl rfl rfl Tryz.cellsInt Tryz.underlying3 Tryz.cellsSpans
  Tryz.underlying27 Tryz.underlying81 Tryz.cellsSpan rfl rfl rfl rfl
  (fun elems sp=>by have:=bulk_len elems; simp only [Rows.uptoBulk]; omega) (fun elems sp d hd=>by have:=bulk_part hd; simp only [Rows.uptoBulk]; omega) (fun parts d hd=>by have:=bulk_part hd; simp only [Rows.uptoBulk]; omega) hf
 simp [Value.cells] at e;obtain ⟨rfl,rfl,rfl⟩:=e;exact ⟨_,_,_,acts,rfl,h1,h2,h3⟩
end
section
open Go.ChangeShapes Go.WideShapes Go.ChangeAt Go.RowKit Go.Joins Go.Deep
def LawHolds (fn : Nat) : Prop:=∀ (k t n e l : Int) (W : World) (sa : Option Addr) (c : Nat) (acts : List ActD),rawI t->rawI n->rawI e->rawI l->acts.length<=2 ^ 20->(∀ i a,acts[i]? = some a->ActIn W sa i a/\a.sn<=2 ^ 20) ->
 Calls Tryz.prog fn #[cfg k t n e l,.slice sa acts.length c] W fun r W'=>r = .returned (.bool true)/\Fr (fun _=>False) W W'
end
section
open Go.RowKit
section
variable {K : Kin} {W w w1 : World} {own : Own} {pb : Nat} {D : PlD} {f b : Nat} {J Q : PlD->Prop} {T Nn E L : Int}
end
end
section
namespace T
theorem unpend_ns (M : PMem) (n : Int) (s : Bool) : (M.unpend n s).ns = M.ns:=by unfold PMem.unpend; split <;> rfl
theorem stamp_ns (M : PMem) (n : Int) (s : Bool) (st : Int) : (M.stamp n s st).ns = M.ns:=by unfold PMem.stamp; split <;> rfl
theorem stampsNew_ns (st : Int) : ∀ (l : List Int) (M : PMem),(M.stampsNew st l).ns = M.ns
 | [],_=>rfl
 | n :: l,M=>by
  show ((M.stampNew n st).stampsNew st l).ns = _;rw [stampsNew_ns st l];unfold PMem.stampNew;rw [stamp_ns,stamp_ns]
theorem pend_len (M : PMem) (n : Int) (s : Bool) (to : Int) : (M.pend n s to).ns.length = M.ns.length:=by rw [pend_ns]
theorem addLink_len (M : PMem) (n to : Int) : (M.addLink n to).ns.length = M.ns.length:=by
 unfold PMem.addLink;split
 ·split
  ·rw [pend_len,modN_len]
  ·rw [pend_len,modN_len]
  ·rfl
 ·rfl
theorem make_len (M : PMem) (a b : Int) : (M.make a b).1.ns.length = M.ns.length:=by unfold PMem.make; split <;> simp
theorem free_len (M : PMem) (n : Int) : (M.free n).ns.length = M.ns.length:=by unfold PMem.free; split <;> simp
theorem frees_len : ∀ (l : List Int) (M : PMem),(M.frees l).ns.length = M.ns.length
 | [],_=>rfl
 | n :: l,M=>by show ((M.free n).frees l).ns.length = _; rw [frees_len l,free_len]
theorem kills_len : ∀ (l : List Int) (M : PMem),(M.kills l).ns.length = M.ns.length
 | [],_=>rfl
 | n :: l,M=>by show ((M.kill n).kills l).ns.length = _; rw [kills_len l]; exact modN_len _ _ _
theorem retires_len (tm : Int) : ∀ (l : List Int) (M : PMem),(M.retires tm l).ns.length = M.ns.length
 | [],_=>rfl
 | n :: l,M=>by show ((M.retire n tm).retires tm l).ns.length = _; rw [retires_len tm l]; exact modN_len _ _ _
theorem lock_len (M : PMem) (n t : Int) : (M.lock n t).1.ns.length = M.ns.length:=by
 unfold PMem.lock;split
 ·split
  ·rfl
  ·exact modN_len _ _ _
 ·rfl
theorem lead_len (M : PMem) (n : Int) (s : Bool) : (M.lead n s).ns.length = M.ns.length:=by
 unfold PMem.lead; split
 ·exact modN_len _ _ _
 ·rfl
theorem unlock_len (M : PMem) (t : Int) : (M.unlock t).ns.length = M.ns.length:=by simp [PMem.unlock]
theorem filt_len {α : Type} (p : α->Bool) (l : List α) : count p l<=l.length:=by unfold count; exact List.length_filter_le _ _
theorem join_len (M : PMem) (a b : Int) : (M.join a b).1.ns.length = M.ns.length:=by
 unfold PMem.join;simp only;rw [addLink_len,addLink_len,make_len]
section
variable {g g' : Gh} {M M' : PMem} {c c' T : Int} {r r' : PSweep} {i j : Nat} {t t' u : PThread} {ts ts' : List PThread} {P P' : PSt} {x d st : Int} {s : Bool} {key : Int} {k : PWork} {tr : Tr} {L n n' : Nat}
theorem step_len : (P.step i t).1.mem.ns.length = P.mem.ns.length:=by
 unfold PSt.step;split
 ·rfl
 ·rfl
 ·rfl
 ·rfl
 ·split
  ·unfold PSt.read;simp only;split <;> rfl
  ·unfold PSt.update;split
   ·rfl
   ·unfold PSt.lock;split
    ·split
     ·exact lock_len _ _ _
     ·rfl
    ·rfl
   ·show (P.check i t.work).mem.ns.length = _;unfold PSt.check;split
    ·exact unlock_len _ _
    ·split <;> rfl
   ·show (P.prepare i t.work).mem.ns.length = _;unfold PSt.prepare;split
    ·rfl
    ·show (if t.work.kind = 1 then P.prepareInsert t.work else P.prepareRemove t.work).1.ns.length = _;split
     ·unfold PSt.prepareInsert;simp only;split
      ·show ((((P.mem.make _ _).1.addLink _ _).pend _ _ _)).ns.length = _;rw [pend_len,addLink_len,make_len]
      ·show ((((P.mem.make _ _).1.join _ _).1.pend _ _ _)).ns.length = _;rw [pend_len,join_len,make_len]
     ·unfold PSt.prepareRemove;simp only;split <;> exact pend_len _ _ _ _
   ·show (P.take i t.work).mem.ns.length = _;unfold PSt.take;split
    ·show ((P.mem.unpend _ _).frees _).ns.length = _;rw [frees_len,unpend_ns]
    ·simp only;split
     ·rfl
     ·show (P.mem.stampsNew _ _).ns.length = _;rw [stampsNew_ns]
   ·exact kills_len _ _
   ·exact lead_len _ _ _
   ·show (P.mem.stamp _ _ _).ns.length = _;rw [stamp_ns]
   ·show (P.unlock i t.work).mem.ns.length = _;unfold PSt.unlock;simp only;show (if _ then _ else _ : PMem).ns.length = _;split
    ·rw [retires_len,unlock_len]
    ·exact unlock_len _ _
   ·rfl
end
theorem fresh_seen (nn en : Nat) (he : 1<=en) : Wm (freshMem nn en)/\(freshMem nn en).ns.length = nn + 2/\(∀ x,(freshMem nn en).node x = if x = 0 then linked false 1 anchorNode else if x = 1 then endNode else PNode.zero)/\(∀ x b,Pd (freshMem nn en) x b = [])/\(∀ x b s d,Sd (freshMem nn en) x b s d ↔ x = 0/\b = false/\s = 0/\d = 1):=by
 have hz : ∀ e ∈ List.replicate en PEntry.zero,e = PEntry.zero:=fun e he=>(List.mem_replicate.1 he).2
 obtain ⟨M0,hM0⟩ : ∃ M0 : PMem,M0 = ⟨freshNodes nn,List.replicate en PEntry.zero⟩:=⟨_,rfl⟩;have hn0 : ∀ x,M0.node x = if x = 0 then anchorNode else if x = 1 then endNode else PNode.zero:=fun x=>by rw [hM0]; exact fresh_nodes nn _ x
 have hw0 : Wm M0:=by
  refine ⟨by rw [hM0]; simp [freshNodes],?_,?_⟩
  ·intro e he _; rw [hM0] at he; exact hz e he
  ·intro x hx;rw [hn0] at hx ⊢;by_cases h0 : x = 0
   ·rw [if_pos h0] at hx; exact nomatch hx
   ·rw [if_neg h0] at hx ⊢;by_cases h1 : x = 1
    ·rw [if_pos h1] at hx; exact nomatch hx
    ·rw [if_neg h1]
 have hp0 : ∀ x b,Pd M0 x b = []:=by
  intro x b;rw [hM0];unfold Pd;rw [List.filter_eq_nil_iff.2]
  ·rfl
  ·intro e he; rw [hz e he,isPd_z]; decide
 have hs0 : ∀ x b s d,¬ Sd M0 x b s d:=by
  rintro x b s d ⟨e,he,h1,_⟩;rw [hM0] at he;rw [hz e he,isSt_z] at h1; cases h1
 have hr0 : 0 < M0.room.2:=by
  rw [hM0];unfold PMem.room;simp only;have : count (fun x : PEntry=>!x.used) (List.replicate en PEntry.zero) = en:=by
   unfold count;rw [List.filter_eq_self.2]
   ·simp
   ·intro e he; rw [hz e he]; rfl
  rw [this]; omega
 obtain ⟨g1,g2,g3,g4,g5,_⟩:=addLink_e (n:=0) (to:=1) (s:=false) hw0 (by rw [hn0,if_pos rfl]; rfl) (by rw [hn0,if_pos rfl]; rfl) (hp0 0 false) hr0;have hfm : freshMem nn en = (M0.addLink 0 1).stampNew 0 0:=by rw [hM0]; rfl
 generalize M0.addLink 0 1 = M1 at *;obtain ⟨s1,s2,s3,s4⟩:=stamp_e (n:=0) (d:=1) (s:=false) 0 g2 (by rw [g4,if_pos ⟨rfl,rfl⟩]);have hfm2 : freshMem nn en = M1.stamp 0 false 0:=by
  rw [hfm];unfold PMem.stampNew;rw [stamp_no (M:=M1.stamp 0 false 0) (by rw [s3,if_neg (by simp),g4,if_neg (by simp)]; exact hp0 0 true)]
 rw [hfm2];refine ⟨s2,?_,?_,?_,?_⟩
 ·rw [s1,g1,hM0]; simp [freshNodes]
 ·intro x;rw [node_ns s1,g3];split
  ·rw [hn0,if_pos rfl]
  ·next h=>rw [hn0,if_neg h]
 ·intro x b;rw [s3];split
  ·rfl
  ·next h=>rw [g4,if_neg h]; exact hp0 x b
 ·intro x b s d;rw [s4,g5];constructor
  ·rintro (h | h)
   ·exact absurd h (hs0 x b s d)
   ·exact h
  ·exact .inr
def newG : Gh:=⟨fun _=>.lf 1 1099511627777 0,fun _=>0,fun _ _=>False,fun _=>False⟩
theorem newG_gt : Gt (newG.V 0):=by
 refine ⟨trivial,?_,trivial,⟨rfl,rfl,rfl⟩,?_⟩
 ·intro e; have : (0 : Int) = 1:=e; omega
 ·intro x k v h h1; exact absurd h.1 h1
theorem inv_fresh {T N E L : Int} (hE : 1<=E) : Inv newG (freshP 1 T N E L)/\InvV newG (freshP 1 T N E L)/\InvR newG (freshP 1 T N E L)/\(freshP 1 T N E L).mem.ns.length = N.toNat + 2:=by
 obtain ⟨w1,w2,w3,w4,w5⟩:=fresh_seen N.toNat E.toNat (by omega);have hm : (freshP 1 T N E L).mem = freshMem N.toNat E.toNat:=rfl;have hts : ∀ (i : Nat) t,(freshP 1 T N E L).ts[i]? = some t->t = PThread.zero:=fun i t ht=>(List.mem_replicate.1 (List.mem_of_getElem? ht)).2
 have nb : ∀ (i : Nat) t,(freshP 1 T N E L).ts[i]? = some t->t.busy = false:=fun i t ht=>by rw [hts i t ht]; rfl
 have nex : ∀ {p : PThread->Prop},(∀ t,p t->t.busy = true)->¬ Ex (freshP 1 T N E L).ts p:=by
  rintro p hp ⟨i,t,ht,hh⟩
  have:=hp t hh
  rw [nb i t ht] at this; cases this
 have nd:=w3;have us : ∀ x,Us (freshMem N.toNat E.toNat) x->x = 0\/x = 1:=by
  intro x hx;simp only [Us] at hx; rw [nd] at hx;by_cases h0 : x = 0
  ·exact .inl h0
  ·by_cases h1 : x = 1
   ·exact .inr h1
   ·rw [if_neg h0,if_neg h1] at hx; exact nomatch hx
 have nde : ∀ x,((freshMem N.toNat E.toNat).node x).dead = false/\((freshMem N.toNat E.toNat).node x).retired = false:=by
  intro x; rw [nd]; split
  ·exact ⟨rfl,rfl⟩
  ·split <;> exact ⟨rfl,rfl⟩
 have n0 : (freshMem N.toNat E.toNat).node 0 = linked false 1 anchorNode:=by rw [nd,if_pos rfl]
 have n1 : (freshMem N.toNat E.toNat).node 1 = endNode:=by rw [nd,if_neg (by decide),if_pos rfl]
 have nin : ∀ {p : Prop} {x : Int},(newG.V 0).Inn x->p:=fun h=>h.elim
 have gd : ∀ x,Gd newG 0 (freshP 1 T N E L).ts x ↔ x = 1:=by
  intro x;constructor
  ·rintro ⟨e | e,_⟩
   ·exact e.elim
   ·exact e
  ·rintro rfl; exact ⟨.inr rfl,nex (fun t h=>h.1)⟩
 have n1l : Ln (freshMem N.toNat E.toNat) 1 = 0:=by simp only [Ln]; rw [n1]; rfl
 have hN : InvN newG (freshMem N.toNat E.toNat) 0 PSweep.zero (freshP 1 T N E L).ts:=by
  refine ⟨newG_gt,⟨fun x q h=>h.elim,?_⟩,?_,?_,?_,fun x h=>h.elim,?_,fun x h=>h.elim,?_,?_,?_,?_,?_,fun x s h=>h.elim,fun x k h=>h.elim,fun x=>Int.le_refl _⟩
  ·rintro x q w ⟨rfl,rfl,rfl⟩;simp only [Us,Ln,Ky]; rw [n1]; exact ⟨rfl,rfl,rfl,rfl⟩
  ·simp only [Us,Ln]; rw [n0]; exact ⟨rfl,rfl,rfl,rfl⟩
  ·intro x _; exact nde x
  ·intro x hx;rcases us x hx with e | e
   ·exact .inl e
   ·exact .inr (.inl e)
  ·intro x hx; simp only [De] at hx; rw [(nde x).1] at hx; cases hx
  ·intro x hx; simp only [Re] at hx; rw [(nde x).2] at hx; cases hx
  ·intro x hx; simp only [De] at hx; rw [(nde x).1] at hx; cases hx
  ·rintro x s d ⟨rfl,rfl,rfl⟩;left; simp only [Ld]; rw [n0]; rfl
  ·intro x s hx hs;have h0 : x = 0:=by
    rcases hx with e | ⟨e1,e2⟩
    ·exact e
    ·rw [gd] at e2; subst e2; omega
   have hs':=hs h0;subst h0; subst hs';have hl : Ld (freshMem N.toNat E.toNat) 0 false = 1:=by simp only [Ld]; rw [n0]; rfl
   rw [hl,gd];refine ⟨rfl,fun e=>by omega,fun e=>?_,?_⟩
   ·simp only [Re] at e; rw [(nde 1).2] at e; cases e
   ·rintro ⟨n,hn,_⟩; cases hn
  ·intro x s k hx _ hs hl;exfalso;have h0 : x = 0:=by
    rcases hx with e | ⟨e1,e2⟩
    ·exact e
    ·rw [gd] at e2; subst e2; omega
   subst h0;have : s = false:=by rw [<- hs]; exact sd0 (by simp only [Ln]; rw [n0]; rfl) k
   subst this;have hld : Ld (freshMem N.toNat E.toNat) 0 false = 1:=by simp only [Ld]; rw [n0]; rfl
   rw [hld] at hl; omega
 have hI : Inv newG (freshP 1 T N E L):=by
  refine ⟨rfl,w1,hN,⟨?_,?_⟩,⟨?_,?_,?_,?_,?_,?_,fun _=>⟨rfl,rfl⟩⟩,?_⟩
  ·intro x s st d hd;rw [hm] at hd;obtain ⟨rfl,rfl,rfl,rfl⟩:=(w5 x s st d).1 hd;rw [hm]; simp only [Us,Ln]; rw [n0];exact ⟨rfl,Int.le_refl _,Int.le_refl _,by decide⟩
  ·intro x s d hd; rw [hm,w4] at hd; cases hd
  ·intro x hx;rw [hm] at hx ⊢;left;simp only [Ho];rcases us x hx with e | e
   ·rw [e,n0]; rfl
   ·rw [e,n1]; rfl
  ·intro a b u v x ha hb hu _; have:=hu.1; rw [nb a u ha] at this; cases this
  ·intro a b u v x x' y ha hb hu _; have:=hu.1; rw [nb a u ha] at this; cases this
  ·rintro x ⟨n,hn,_⟩; cases hn
  ·exact ⟨Int.le_refl _,Int.le_refl _⟩
  ·show 0<=_; omega
  ·intro i t ht;have htz:=hts i t ht;subst htz;refine Th.low (fun b=>nomatch b) (fun b=>nomatch b) (fun b=>nomatch b) rfl (fun b=>nomatch b) ?_ (fun b=>nomatch b) (fun b=>nomatch b) (fun b=>nomatch b) (fun b=>nomatch b) (fun b=>nomatch b) (fun b=>nomatch b) (fun b=>nomatch b) (fun b=>nomatch b);intro x hx h;rw [hm] at hx h;simp only [Ho] at h;rcases us x hx with e | e
   ·rw [e,n0] at h; have : (-1 : Int) = i:=h; omega
   ·rw [e,n1] at h; have : (-1 : Int) = i:=h; omega
 refine ⟨hI,⟨?_,fun T' _ _=>newG_gt,?_⟩,?_,w2⟩
 ·refine hI.nowOf ?_;rintro x s d ⟨rfl,rfl,rfl⟩;refine ⟨0,.inl (by rw [hm,w5]; exact ⟨rfl,rfl,rfl,rfl⟩),?_⟩;rintro st' d' (e | ⟨e,_⟩)
  ·rw [hm,w5] at e; exact .inr ⟨e.2.2.1,e.2.2.2⟩
  ·exact absurd e (nex (fun t h=>h.1))
 ·intro i t ht hr; have:=hr.1; rw [nb i t ht] at this; cases this
 ·intro i t ht;have htz:=hts i t ht;subst htz;exact ⟨(fun b=>nomatch b),(fun b=>nomatch b),(fun b=>nomatch b),(fun b=>nomatch b),(fun b=>nomatch b)⟩
end T
end
section
namespace T
section
variable {g g' : Gh} {i j : Nat} {t t' u : PThread} {P P' : PSt} {N n n' : Nat}
structure All (g : Gh) (P : PSt) : Prop where
 i : Inv g P
 v : InvV g P
 r : InvR g P
theorem All.step (h : All g P) (ht : P.ts[i]? = some t) (hb : t.busy = true) : All (nextG g P i t) (P.step i t).1:=⟨h.i.step ht hb,h.v.step h.i ht hb,h.r.step h.v h.i ht hb⟩
theorem All.sweep (h : All g P) : All (sweepG g P) P.doSweep.1:=⟨h.i.sweep,h.v.sweep h.i,h.r.sweep⟩
theorem All.begin (h : All g P) (ht : P.ts[i]? = some t) (hb : t.busy = false) {kd ky va : Int} {sp : List (Int × Int)} (hp : properB kd ky sp = true) : All g (P.setT i { t with busy:=true,work:=newWork kd ky va sp }):=by
 obtain ⟨w1,w2,w3,w4,w5,w6,w7,w8,w9⟩:=newWork_ok (va:=va) hp;have hsp : kd = 4->spansOkX sp = true:=by
  intro e;have h0 : checkOp kd ky sp = 0:=of_decide_eq_true hp;unfold checkOp at h0;rw [if_neg (by omega),if_pos e] at h0;cases hh : (isIn sp.length 1 16 && spansOkX sp)
  ·rw [hh] at h0; exact absurd h0 (by decide)
  ·rw [Bool.and_eq_true] at hh; exact hh.2
 have hnt : kd = 4->(newWork kd ky va sp).noted = []:=by
  intro e; subst e; rfl
 have hspan : kd = 4->(newWork kd ky va sp).spans = sp:=by
  intro e; subst e; rfl
 refine ⟨h.i.begin ht hb w1 (by rw [w2]; exact w3) w4 w5 (fun e=>by rw [w2] at e; exact ⟨(w6 e).1,(w6 e).2.1⟩) (fun e=>by rw [w2] at e; exact (w7 e).1) (fun e=>by rw [w2] at e; exact (w7 e).2.1) (fun e=>by rw [w2] at e; exact w8 e),h.v.begin ht hb w1,h.r.begin ht w1 (fun _ e=>?_) (fun e=>?_)⟩
 ·have e : (newWork kd ky va sp).kind = 4:=e;rw [w2] at e;show spansOkX (newWork kd ky va sp).spans = true;rw [hspan e]; exact hsp e
 ·have e : (newWork kd ky va sp).kind = 4:=e;rw [w2] at e; exact hnt e
end
end T
end
end Go.Proofs.YtfccelbmacjifabGreat
