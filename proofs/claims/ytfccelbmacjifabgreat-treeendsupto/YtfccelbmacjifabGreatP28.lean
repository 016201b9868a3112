import Derived.Test.YtfccelbmacjifabGreatP0
import Derived.Test.YtfccelbmacjifabGreatP27
import Derived.Test.YtfccelbmacjifabGreatP26
set_option linter.unusedSimpArgs false
set_option maxRecDepth 100000
set_option maxHeartbeats 4000000
namespace Go.Proofs.YtfccelbmacjifabGreat
section
namespace T
section
variable {g g' : Gh} {M M' : PMem} {c c' T : Int} {r r' : PSweep} {i j : Nat} {t t' u : PThread} {ts ts' : List PThread} {P P' : PSt} {x d st : Int} {s : Bool} {key : Int} {k : PWork} {tr : Tr} {L n n' : Nat}
theorem mul_mono (h : n'<=n) {a b : Nat} (hab : a<=b) : (n' + a) * (L + 2)<=(n + b) * (L + 2):=Nat.mul_le_mul_right _ (by omega)
theorem Inv.wpStep (h : Inv g P) (ht : P.ts[i]? = some t) (hb : t.busy = true) (hx : x = 0\/Gd g P.clock P.ts x) : wp L (nextG g P i t) (P.step i t).1.mem (P.step i t).1.clock (P.step i t).1.ts x<=wp L g P.mem P.clock P.ts x:=by
 refine wp_mono ?_;rintro p (e | ⟨e1,e2,e3,e4⟩)
 ·exact .inl e
 ·exact .inr ⟨e1,by rw [(h.lnStep ht hb (.inr e3)).1]; exact e2,h.gdStep ht hb e3,by rw [h.bStep ht hb (.inr e3),h.bStep ht hb hx]; exact e4⟩
theorem Inv.phi_le (h : Inv g P) (ht : P.ts[i]? = some t) (hb : t.busy = true) (hj : P.ts[j]? = some u) (hn : n' + 1<=n\/(n'<=n/\t.work.next≠10)) :
  phi L (nextG g P i t) (P.step i t).1.mem (P.step i t).1.clock (P.step i t).1.ts n' u<=phi L g P.mem P.clock P.ts n u:=by
 have hU:=h.th j u hj;unfold phi;by_cases hub : u.busy = false
 ·rw [if_pos hub,if_pos hub]; exact Nat.le_refl _
 ·rw [if_neg hub,if_neg hub];have b : u.busy = true:=by simpa using hub
  by_cases hr : u.work.kind = 3\/u.work.kind = 4
  ·rw [if_pos hr,if_pos hr];by_cases h13 : u.work.next = 13
   ·rw [if_pos h13,if_pos h13]; exact Nat.le_refl _
   ·rw [if_neg h13,if_neg h13];by_cases h4 : u.work.next = 4
    ·rw [if_pos h4,if_pos h4];have : rs (nextG g P i t) u.work = rs g u.work:=by unfold rs; rw [nextG_V P t i (hU.tm b (by omega)).1]
     rw [this]; exact Nat.le_refl _
    ·rw [if_neg h4,if_neg h4]; exact Nat.le_refl _
  ·rw [if_neg hr,if_neg hr];by_cases h7 : 7<=u.work.next
   ·rw [if_pos h7,if_pos h7]; exact Nat.le_refl _
   ·rw [if_neg h7,if_neg h7];have hkd:=hU.kd b;have hk : u.work.kind = 1\/u.work.kind = 2:=by omega
    have hg : 4<=u.work.next->u.work.stand = 0\/Gd g P.clock P.ts u.work.stand:=fun h4=>(hU.xs b hk h4 (by omega)).1.z
    have h1 : (if u.work.next = 6 then 9 else if u.work.next = 5 then 11 - u.work.locks else if u.work.next = 4 then 11 + wp L (nextG g P i t) (P.step i t).1.mem (P.step i t).1.clock (P.step i t).1.ts u.work.stand else L + 15 - u.work.next)<=(if u.work.next = 6 then 9 else if u.work.next = 5 then 11 - u.work.locks else if u.work.next = 4 then 11 + wp L g P.mem P.clock P.ts u.work.stand else L + 15 - u.work.next):=by
     by_cases h6 : u.work.next = 6
     ·rw [if_pos h6,if_pos h6]; omega
     ·rw [if_neg h6,if_neg h6];by_cases h5 : u.work.next = 5
      ·rw [if_pos h5,if_pos h5]; omega
      ·rw [if_neg h5,if_neg h5];by_cases h4 : u.work.next = 4
       ·rw [if_pos h4,if_pos h4]
        have:=h.wpStep (L:=L) ht hb (hg (by omega)); omega
       ·rw [if_neg h4,if_neg h4]; omega
    refine Nat.add_le_add h1 ?_;by_cases h4 : 4<=u.work.next
    ·rw [if_pos h4,if_pos h4];rcases hn with hn | ⟨hn,h10⟩
     ·refine Nat.mul_le_mul_right _ ?_
      have:=stale_le (nextG g P i t) (P.step i t).1.mem (P.step i t).1.clock (P.step i t).1.ts u.work
      omega
     ·refine mul_mono hn (stale_mono ?_);intro ok;have lk:=fun x=>h.lkStep (x:=x) ht hb h10
      have gz : ∀ x,Lk g P.mem P.clock P.ts x->x = 0\/Gd g P.clock P.ts x:=by
       rintro x (e | e)
       ·exact .inl e
       ·exact .inr e.2.1
      have ld : ∀ x,Lk g P.mem P.clock P.ts x->∀ k,Ld (P.step i t).1.mem x (sd (P.step i t).1.mem x k) = Ld P.mem x (sd P.mem x k):=by
       intro x hx k;have hz:=gz x hx;have e1:=h.lnStep ht hb hz;rw [sd_congr e1.2 e1.1];simp only [Ld];rw [h.ldStep ht hb h10 (h.usedGd hz) (h.not8 ht hz)]
      refine ⟨lk _ ok.s,fun h0=>?_,fun h5=>?_⟩
      ·have:=ok.a h0
       exact ⟨lk _ this.1,by rw [ld _ this.1]; exact this.2⟩
      ·rw [ld _ ok.s]; exact ok.h h5
    ·rw [if_neg h4,if_neg h4];refine mul_mono ?_ (Nat.le_refl 0);omega
theorem phi_idle {ts : List PThread} (hb : t.busy = false) : phi L g M c ts n t = 0:=by unfold phi; rw [if_pos hb]
theorem phi_r13 {ts : List PThread} (hb : t.busy = true) (hr : t.work.kind = 3\/t.work.kind = 4) (hn : t.work.next = 13) : phi L g M c ts n t = 1:=by
 unfold phi; rw [if_neg (by simp [hb]),if_pos hr,if_pos hn]
theorem phi_r4 {ts : List PThread} (hb : t.busy = true) (hr : t.work.kind = 3\/t.work.kind = 4) (hn : t.work.next = 4) : phi L g M c ts n t = 2 + rs g t.work:=by
 unfold phi; rw [if_neg (by simp [hb]),if_pos hr,if_neg (by omega),if_pos hn]
theorem phi_r3 {ts : List PThread} (hb : t.busy = true) (hr : t.work.kind = 3\/t.work.kind = 4) (hn : t.work.next<=3) : phi L g M c ts n t = L + 7 - t.work.next:=by
 unfold phi; rw [if_neg (by simp [hb]),if_pos hr,if_neg (by omega),if_neg (by omega)]
theorem phi_u7 {ts : List PThread} (hb : t.busy = true) (hr : ¬ (t.work.kind = 3\/t.work.kind = 4)) (hn : 7<=t.work.next) : phi L g M c ts n t = 14 - t.work.next:=by
 unfold phi; rw [if_neg (by simp [hb]),if_neg hr,if_pos hn]
theorem phi_u6 {ts : List PThread} (hb : t.busy = true) (hr : ¬ (t.work.kind = 3\/t.work.kind = 4)) (hn : t.work.next = 6) : phi L g M c ts n t = 9 + (n + stale g M c ts t.work) * (L + 2):=by
 unfold phi; rw [if_neg (by simp [hb]),if_neg hr,if_neg (by omega),if_pos hn,if_pos (by omega)]
theorem phi_u5 {ts : List PThread} (hb : t.busy = true) (hr : ¬ (t.work.kind = 3\/t.work.kind = 4)) (hn : t.work.next = 5) : phi L g M c ts n t = 11 - t.work.locks + (n + stale g M c ts t.work) * (L + 2):=by
 unfold phi; rw [if_neg (by simp [hb]),if_neg hr,if_neg (by omega),if_neg (by omega),if_pos hn,if_pos (by omega)]
theorem phi_u4 {ts : List PThread} (hb : t.busy = true) (hr : ¬ (t.work.kind = 3\/t.work.kind = 4)) (hn : t.work.next = 4) : phi L g M c ts n t = 11 + wp L g M c ts t.work.stand + (n + stale g M c ts t.work) * (L + 2):=by
 unfold phi; rw [if_neg (by simp [hb]),if_neg hr,if_neg (by omega),if_neg (by omega),if_neg (by omega),if_pos hn,if_pos (by omega)]
theorem phi_u3 {ts : List PThread} (hb : t.busy = true) (hr : ¬ (t.work.kind = 3\/t.work.kind = 4)) (hn : t.work.next<=3) : phi L g M c ts n t = L + 15 - t.work.next + n * (L + 2):=by
 unfold phi; rw [if_neg (by simp [hb]),if_neg hr,if_neg (by omega),if_neg (by omega),if_neg (by omega),if_neg (by omega),if_neg (by omega)]; simp
theorem phi_late {ts ts' : List PThread} (hb : t.busy = true) (hk : t.work.kind = 1\/t.work.kind = 2) (h6 : 6<=t.work.next) (h1 : k.kind = t.work.kind) (h2 : t.work.next < k.next) (h3 : k.next<=13) : phi L g' M' c' ts' n' { t with work:=k } < phi L g M c ts n t:=by
 rw [phi_u7 (t:={ t with work:=k }) hb (by show ¬ (k.kind = 3\/k.kind = 4); omega) (by show 7<=k.next; omega)];show 14 - k.next < _
 rcases (show t.work.next = 6\/7<=t.work.next by omega) with e | e
 ·rw [phi_u6 hb (by omega) e]; omega
 ·rw [phi_u7 hb (by omega) e]; omega
theorem Inv.near (h : Inv g P) (hV : InvV g P) (hR : InvR g P) (hL : P.mem.ns.length = L) (ht : P.ts[i]? = some t) (hb : t.busy = true) (hmv : (P.step i t).2≠2) (hn : n'<=n) :
  ∃ t',(P.step i t).1.ts = P.ts.set i t'/\phi L (nextG g P i t) (P.step i t).1.mem (P.step i t).1.clock (P.step i t).1.ts n' t' < phi L g P.mem P.clock P.ts n t:=by
 have hT:=h.th i t ht;have hkd:=hT.kd hb;have hL2 : 2<=L:=by have:=h.wm.len; omega
 have hmul : n' * (L + 2)<=n * (L + 2):=Nat.mul_le_mul_right _ hn;obtain ⟨P',m,hs,ho⟩:=h.out ht hb;have hG : ∀ {k : Nat},t.work.next = k->k≠8->nextG g P i t = g:=fun e1 e2=>nextG_no (fun q=>e2 (e1.symm.trans q.1))
 rw [hs] at hmv ⊢;simp only at hmv ⊢;cases ho with
 | come1 hn1 =>
  refine ⟨_,rfl,?_⟩;by_cases hr : t.work.kind = 3\/t.work.kind = 4
  ·rw [phi_r3 hb hr (by omega),phi_r3 (t:={ t with slot:=1,work:={ t.work with next:=2 } }) hb hr (by show 2<=3; omega)];show L + 7 - 2 < _; omega
  ·rw [phi_u3 hb hr (by omega),phi_u3 (t:={ t with slot:=1,work:={ t.work with next:=2 } }) hb hr (by show 2<=3; omega)];show L + 15 - 2 + _ < _; omega
 | come2 hn1 =>
  refine ⟨_,rfl,?_⟩;by_cases hr : t.work.kind = 3\/t.work.kind = 4
  ·rw [phi_r3 hb hr (by omega),phi_r3 (t:={ t with work:={ t.work with time:=P.clock,next:=3 } }) hb hr (by show 3<=3; omega)];show L + 7 - 3 < _; omega
  ·rw [phi_u3 hb hr (by omega),phi_u3 (t:={ t with work:={ t.work with time:=P.clock,next:=3 } }) hb hr (by show 3<=3; omega)];show L + 15 - 3 + _ < _; omega
 | come3 hn1 =>
  refine ⟨_,rfl,?_⟩;by_cases hr : t.work.kind = 3\/t.work.kind = 4
  ·rw [phi_r3 hb hr (by omega),phi_r4 (t:={ t with slot:=2,work:=t.work.home }) hb hr rfl,hG hn1 (by omega)];obtain ⟨hv,t0,t1⟩:=hV.rd i t ht ⟨hb,hr,by omega,by omega⟩;have hg:=hV.gts _ t0 t1;have hsz:=hv.size hg.dj hg.z;have hle : rs g t.work.home<=(g.V t.work.time).size:=by
    unfold rs;show (if t.work.kind = 3 then (if (0 : Int) = 0 then (g.V t.work.time).len t.work.key + 1 else _) else lsz (g.V t.work.time) t.work.links)<=_;rcases hr with hr | hr
    ·rw [if_pos hr,if_pos rfl]; exact Tr.len_size _
    ·rw [if_neg (by omega),hT.lk hb hr (by omega)]
     have:=Stk.lsz hg.dj hg.z (L:=[(0,false)]) (W:=[g.V t.work.time]) ⟨Tr.su_root 0 false _,trivial⟩
     rw [this]; simp [wsz]
   show 2 + rs g t.work.home < _;omega
  ·rw [phi_u3 hb hr (by omega),phi_u4 (t:={ t with slot:=2,work:=t.work.home }) hb hr rfl];rw [stale_zero (show Okk _ _ _ _ t.work.home from ⟨.inl rfl,fun e=>absurd rfl e,fun e=>by have : 5<=4:=e; omega⟩)]
   have:=wp_le (L:=L) (by omega) (nextG g P i t) P.mem P.clock (P.ts.set i { t with slot:=2,work:=t.work.home }) 0
   show 11 + wp L (nextG g P i t) P.mem P.clock (P.ts.set i { t with slot:=2,work:=t.work.home }) 0 + (n' + 0) * (L + 2) < _;rw [Nat.add_zero]; omega
 | leave hn1 =>
  refine ⟨_,rfl,?_⟩;rw [phi_idle (t:=t.leave) rfl];by_cases hr : t.work.kind = 3\/t.work.kind = 4
  ·rw [phi_r13 hb hr hn1]; omega
  ·rw [phi_u7 hb hr (by omega)]; omega
 | rwait=>exact absurd rfl hmv
 | lwait=>exact absurd rfl hmv
 | rgo hn1 hk hp k ek hsk =>
  refine ⟨_,rfl,?_⟩;obtain ⟨_,h2,h3⟩:=h.readStep hV hR ht hb hn1 hk hp ek;have hk' : k.kind = 3\/k.kind = 4:=by rw [hsk.1]; exact hk
  rw [phi_r4 hb hk hn1,hG hn1 (by omega)];rcases hsk.2.1 with e | e
  ·rw [phi_r4 (t:={ t with work:=k }) hb hk' e]
   have:=h2 e
   show 2 + rs g k < _; omega
  ·rw [phi_r13 (t:={ t with work:=k }) hb hk' e]; omega
 | walkOn hn1 hk hl =>
  refine ⟨_,rfl,?_⟩;have x1:=(hT.xs hb hk (by omega) (by omega)).1;have xz:=x1.sn;have hs0 : t.work.stand = 0->sd P.mem t.work.stand t.work.key = false:=fun e=>by rw [e]; exact sd0 h.n.n0.2.1 _
  obtain ⟨p1,p2,_,_⟩:=h.n.ph _ _ xz hs0;rw [phi_u4 hb (by omega) hn1,phi_u4 (t:={ t with work:={ t.work with above:=t.work.stand,stand:=Ld P.mem t.work.stand (sd P.mem t.work.stand t.work.key) } }) hb (by show ¬ (t.work.kind = 3\/t.work.kind = 4); omega) hn1,hG hn1 (by omega)];have hct : Calm t:=calm7 fun _=>by omega
  have hct' : Calm { t with work:={ t.work with above:=t.work.stand,stand:=Ld P.mem t.work.stand (sd P.mem t.work.stand t.work.key) } }:=calm7 fun _=>.inl (by show t.work.next<=7; omega)
  have hsm:=Same.calm ht hct hct';have hlt:=h.wp_lt hL hl p1 (p2 hl);have hwp : wp L g P.mem P.clock (P.ts.set i { t with work:={ t.work with above:=t.work.stand,stand:=Ld P.mem t.work.stand (sd P.mem t.work.stand t.work.key) } }) (Ld P.mem t.work.stand (sd P.mem t.work.stand t.work.key))<=wp L g P.mem P.clock P.ts (Ld P.mem t.work.stand (sd P.mem t.work.stand t.work.key)):=by
   refine wp_mono ?_;rintro p (e | ⟨e1,e2,e3,e4⟩)
   ·exact .inl e
   ·exact .inr ⟨e1,e2,(hsm.gd p).2 e3,e4⟩
  have hah : ∀ y,Ex (P.ts.set i { t with work:={ t.work with above:=t.work.stand,stand:=Ld P.mem t.work.stand (sd P.mem t.work.stand t.work.key) } }) (Ahd y) ↔ Ex P.ts (Ahd y):=fun y=>ex_iff ht (iff_of_false (by rintro ⟨_,_,e,_⟩; have : t.work.next = 9\/t.work.next = 10:=e; omega) (by rintro ⟨_,_,e,_⟩; omega))
  have lk : ∀ y,Lk g P.mem P.clock P.ts y->Lk g P.mem P.clock (P.ts.set i { t with work:={ t.work with above:=t.work.stand,stand:=Ld P.mem t.work.stand (sd P.mem t.work.stand t.work.key) } }) y:=by
   rintro y (e | ⟨e1,e2,e3⟩)
   ·exact .inl e
   ·exact .inr ⟨e1,(hsm.gd y).2 e2,by rw [hah]; exact e3⟩
  have hst : stale g P.mem P.clock (P.ts.set i { t with work:={ t.work with above:=t.work.stand,stand:=Ld P.mem t.work.stand (sd P.mem t.work.stand t.work.key) } }) { t.work with above:=t.work.stand,stand:=Ld P.mem t.work.stand (sd P.mem t.work.stand t.work.key) }<=stale g P.mem P.clock P.ts t.work:=by
   refine stale_mono (fun ok=>⟨?_,fun _=>⟨lk _ ok.s,rfl⟩,fun e=>by have : 5<=t.work.next:=e; omega⟩);exact lk _ (h.lkOn ok.s hs0 hl)
  have:=mul_mono (L:=L) hn hst
  refine Nat.lt_of_lt_of_le (Nat.add_lt_add_right ?_ _) (Nat.add_le_add_left this _);exact Nat.add_lt_add_left (Nat.lt_of_le_of_lt hwp hlt) 11
 | walkEnd hn1 hk hl =>
  refine ⟨_,rfl,?_⟩;have hl0:=hT.l4 hb (.inl (by omega));rw [phi_u4 hb (by omega) hn1,phi_u5 (t:={ t with work:={ t.work with ahead:=Ld P.mem t.work.stand (sd P.mem t.work.stand t.work.key),next:=5 } }) hb (by show ¬ (t.work.kind = 3\/t.work.kind = 4); omega) rfl,hG hn1 (by omega)];have hct : Calm t:=calm7 fun _=>by omega
  have hct' : Calm { t with work:={ t.work with ahead:=Ld P.mem t.work.stand (sd P.mem t.work.stand t.work.key),next:=5 } }:=calm7 fun _=>.inl (by show 5<=7; omega)
  have hsm:=Same.calm ht hct hct';have hah : ∀ y,Ex (P.ts.set i { t with work:={ t.work with ahead:=Ld P.mem t.work.stand (sd P.mem t.work.stand t.work.key),next:=5 } }) (Ahd y) ↔ Ex P.ts (Ahd y):=fun y=>ex_iff ht (iff_of_false (by rintro ⟨_,_,e,_⟩; have : (5 : Nat) = 9\/(5 : Nat) = 10:=e; omega) (by rintro ⟨_,_,e,_⟩; omega))
  have lk : ∀ y,Lk g P.mem P.clock P.ts y->Lk g P.mem P.clock (P.ts.set i { t with work:={ t.work with ahead:=Ld P.mem t.work.stand (sd P.mem t.work.stand t.work.key),next:=5 } }) y:=by
   rintro y (e | ⟨e1,e2,e3⟩)
   ·exact .inl e
   ·exact .inr ⟨e1,(hsm.gd y).2 e2,by rw [hah]; exact e3⟩
  have hst : stale g P.mem P.clock (P.ts.set i { t with work:={ t.work with ahead:=Ld P.mem t.work.stand (sd P.mem t.work.stand t.work.key),next:=5 } }) { t.work with ahead:=Ld P.mem t.work.stand (sd P.mem t.work.stand t.work.key),next:=5 }<=stale g P.mem P.clock P.ts t.work :=
   stale_mono (fun ok=>⟨lk _ ok.s,fun e=>⟨lk _ (ok.a e).1,(ok.a e).2⟩,fun _=>rfl⟩)
  have:=mul_mono (L:=L) hn hst
  have hw:=h.wp_pos hL2 t.work.stand;refine Nat.lt_of_lt_of_le (Nat.add_lt_add_right ?_ _) (Nat.add_le_add_left this _);show 11 - t.work.locks < _;omega
 | lock hn1 hk hh nn hnn hn56 =>
  refine ⟨_,rfl,?_⟩;have hlk:=hT.l5 hb hn1;have hll:=hl_len P.mem t.work;obtain ⟨l1,_⟩:=h.lockIs ht hb hn1;have hnd:=node_modN (hasN_used l1) (fun x=>{ x with holder:=(i : Int) });have hq : HoldEq P.mem (P.mem.modN (lockNext P.mem t.work) fun x=>{ x with holder:=(i : Int) }):=by
   intro x;rw [hnd];split
   ·next e=>subst e; exact ⟨_,rfl⟩
   ·exact ⟨(P.mem.node x).holder,rfl⟩
  generalize (P.mem.modN (lockNext P.mem t.work) fun x=>{ x with holder:=(i : Int) }) = M1 at *;have hct : Calm t:=calm7 fun _=>by omega
  have hct' : Calm { t with work:={ t.work with locks:=t.work.locks + 1,next:=nn } }:=calm7 fun _=>.inl (by show nn<=7; omega)
  have hsm:=Same.calm ht hct hct';have hah : ∀ y,Ex (P.ts.set i { t with work:={ t.work with locks:=t.work.locks + 1,next:=nn } }) (Ahd y) ↔ Ex P.ts (Ahd y):=fun y=>ex_iff ht (iff_of_false (by rintro ⟨_,_,e,_⟩; have : nn = 9\/nn = 10:=e; omega) (by rintro ⟨_,_,e,_⟩; omega))
  have lk : ∀ y,Lk g P.mem P.clock P.ts y->Lk g M1 P.clock (P.ts.set i { t with work:={ t.work with locks:=t.work.locks + 1,next:=nn } }) y:=by
   rintro y (e | ⟨e1,e2,e3⟩)
   ·exact .inl e
   ·exact .inr ⟨by simp only [Ln]; rw [(hq.to y).2.2.2.2.2.2.1]; exact e1,(hsm.gd y).2 e2,by rw [hah]; exact e3⟩
  have ld : ∀ y q,Ld M1 y (sd M1 y q) = Ld P.mem y (sd P.mem y q):=fun y q=>by rw [hq.sd]; simp only [Ld]; rw [(hq.to y).2.2.2.2.2.1]
  have hst : stale g M1 P.clock (P.ts.set i { t with work:={ t.work with locks:=t.work.locks + 1,next:=nn } }) { t.work with locks:=t.work.locks + 1,next:=nn }<=stale g P.mem P.clock P.ts t.work :=
   stale_mono (fun ok=>⟨lk _ ok.s,fun e=>⟨lk _ (ok.a e).1,by rw [ld]; exact (ok.a e).2⟩,fun _=>by rw [ld]; exact ok.h (by omega)⟩)
  have hmm:=mul_mono (L:=L) hn hst;rw [phi_u5 hb (by omega) hn1,hG hn1 (by omega)];rcases hn56 with e | e
  ·subst e;rw [phi_u5 (t:={ t with work:={ t.work with locks:=t.work.locks + 1,next:=5 } }) hb (by show ¬ (t.work.kind = 3\/t.work.kind = 4); omega) rfl];refine Nat.lt_of_lt_of_le (Nat.add_lt_add_right ?_ _) (Nat.add_le_add_left hmm _);show 11 - (t.work.locks + 1) < 11 - t.work.locks;omega
  ·subst e;rw [phi_u6 (t:={ t with work:={ t.work with locks:=t.work.locks + 1,next:=6 } }) hb (by show ¬ (t.work.kind = 3\/t.work.kind = 4); omega) rfl];refine Nat.lt_of_lt_of_le (Nat.add_lt_add_right ?_ _) (Nat.add_le_add_left hmm _);omega
 | home hn1 hk ho =>
  refine ⟨_,rfl,?_⟩;rw [phi_u6 hb (by omega) hn1,phi_u4 (t:={ t with work:=({ t.work with locks:=0 } : PWork).home }) hb (by show ¬ (t.work.kind = 3\/t.work.kind = 4); omega) rfl];rw [stale_zero (show Okk _ _ _ _ ({ t.work with locks:=0 } : PWork).home from ⟨.inl rfl,fun e=>absurd rfl e,fun e=>by have : 5<=4:=e; omega⟩)];have h1 : stale g P.mem P.clock P.ts t.work = 1:=by
   unfold stale; rw [if_neg (fun ok=>h.okPass ht hb hn1 ok ho)]
  have:=wp_le (L:=L) (by omega) (nextG g P i t) (P.mem.unlock i) P.clock (P.ts.set i { t with work:=({ t.work with locks:=0 } : PWork).home }) 0
  rw [h1];show 11 + wp L (nextG g P i t) (P.mem.unlock i) P.clock (P.ts.set i { t with work:=({ t.work with locks:=0 } : PWork).home }) 0 + (n' + 0) * (L + 2) < _;have e : (n + 1) * (L + 2) = n * (L + 2) + (L + 2):=by rw [Nat.succ_mul]
  rw [Nat.add_zero,e]; omega
 | same hn1 hk=>exact ⟨_,rfl,phi_late hb hk (by omega) rfl (by show t.work.next < 12; omega) (by show 12<=13; omega)⟩
 | right hn1 hk=>exact ⟨_,rfl,phi_late hb hk (by omega) rfl (by show t.work.next < 7; omega) (by show 7<=13; omega)⟩
 | full hn1 hk=>exact ⟨_,rfl,phi_late hb hk (by omega) rfl (by show t.work.next < 12; omega) (by show 12<=13; omega)⟩
 | prepI hn1 hk=>exact ⟨_,rfl,phi_late hb (.inl hk) (by omega) rfl (by show t.work.next < 8; omega) (by show 8<=13; omega)⟩
 | prepR hn1 hk=>exact ⟨_,rfl,phi_late hb (.inr hk) (by omega) rfl (by show t.work.next < 8; omega) (by show 8<=13; omega)⟩
 | late hn1 hk=>exact ⟨_,rfl,phi_late hb hk (by omega) rfl (by show t.work.next < 12; omega) (by show 12<=13; omega)⟩
 | takeI hn1 hk=>exact ⟨_,rfl,phi_late hb (.inl hk) (by omega) rfl (by show t.work.next < 10; omega) (by show 10<=13; omega)⟩
 | takeR hn1 hk=>exact ⟨_,rfl,phi_late hb (.inr hk) (by omega) rfl (by show t.work.next < 9; omega) (by show 9<=13; omega)⟩
 | kill hn1 hk=>exact ⟨_,rfl,phi_late hb (.inr hk) (by omega) rfl (by show t.work.next < 10; omega) (by show 10<=13; omega)⟩
 | link hn1 hk=>exact ⟨_,rfl,phi_late hb hk (by omega) rfl (by show t.work.next < 11; omega) (by show 11<=13; omega)⟩
 | stamp hn1 hk=>exact ⟨_,rfl,phi_late hb hk (by omega) rfl (by show t.work.next < 12; omega) (by show 12<=13; omega)⟩
 | unlock hn1 hk=>exact ⟨_,rfl,phi_late hb hk (by omega) rfl (by show t.work.next < 13; omega) (by show 13<=13; omega)⟩
theorem Inv.drops (h : Inv g P) (hV : InvV g P) (hR : InvR g P) (hL : P.mem.ns.length = L) (ht : P.ts[i]? = some t) (hb : t.busy = true) (hmv : (P.step i t).2≠2) : Phi L (nextG g P i t) (P.step i t).1 < Phi L g P:=by
 have hi:=(List.getElem?_eq_some_iff.1 ht).1;obtain ⟨t1,q1,_,_,q4,q5⟩:=h.tsStep ht hb;have hn : count unl (P.step i t).1.ts<=count unl P.ts:=by rw [q1]; exact count_set_le _ ht q4
 obtain ⟨t',e1,e2⟩:=h.near hV hR hL ht hb hmv hn;have hn' : count unl (P.step i t).1.ts + 1<=count unl P.ts\/(count unl (P.step i t).1.ts<=count unl P.ts/\t.work.next≠10):=by
  by_cases e : t.work.next = 10
  ·left;rw [q1]
   have:=count_set_e (p:=unl) (y:=t1) ht (q5 e).2 (q5 e).1
   omega
  ·exact .inr ⟨hn,e⟩
 unfold Phi;have hmap : ((P.step i t).1.ts.map (phi L (nextG g P i t) (P.step i t).1.mem (P.step i t).1.clock (P.step i t).1.ts (count unl (P.step i t).1.ts))).sum = ((P.ts.set i t').map (phi L (nextG g P i t) (P.step i t).1.mem (P.step i t).1.clock (P.step i t).1.ts (count unl (P.step i t).1.ts))).sum:=by rw [<- e1]
 rw [hmap];refine sum_set _ _ P.ts i t t' ht ?_ e2;intro j u hj hu;exact h.phi_le ht hb hu hn'
end
end T
end
section
def SameOp (t t' : PThread) : Prop:=t'.work.kind = t.work.kind/\t'.work.key = t.work.key/\t'.work.value = t.work.value/\t'.work.spans = t.work.spans
theorem setW_at {i : Nat} {t : PThread} (P : PSt) (ht : P.ts[i]? = some t) (k : PWork) : P.setW i k = { P with ts:=P.ts.set i { t with work:=k } }:=by
 unfold PSt.setW
 congr 1
 apply List.ext_getElem?;intro j;rw [List.getElem?_modify,List.getElem?_set];by_cases e : i = j
 ·subst e;obtain ⟨h1,h2⟩:=List.getElem?_eq_some_iff.1 ht;simp [h1,h2]
 ·simp [e]
structure Kin where
 κ : Int
 hκ : κ = 0\/κ = 1
 Pot : Nat->PSt->Nat->Prop
 kind : ∀ {N n : Nat} {P : PSt},Pot N P n->P.kind = κ
 move : ∀ {N n i : Nat} {P : PSt} {t : PThread},Pot N P n->P.ts[i]? = some t->t.busy = true->(P.step i t).2≠2->∃ n',n' + 1<=n/\Pot N (P.step i t).1 n'
 wait : ∀ {N n i : Nat} {P : PSt} {t : PThread},Pot N P n->P.ts[i]? = some t->t.busy = true->(P.step i t).2 = 2->(P.step i t).1 = P
 live : ∀ {N n i : Nat} {P : PSt} {t : PThread},Pot N P n->P.ts[i]? = some t->t.busy = true->∃ (j : Nat) (u : PThread),P.ts[j]? = some u/\u.busy = true/\(P.step j u).2≠2/\(j = i\/u.work.kind = 1\/u.work.kind = 2)
 bound : ∀ {N n : Nat} {P : PSt},Pot N P n->Pot N P (P.ts.length * ((P.ts.length + 2) * (N + 16)))
 beg : ∀ {N n i : Nat} {P : PSt} {t : PThread} {kd ky va : Int} {sp : List (Int × Int)},Pot N P n->P.ts[i]? = some t->t.busy = false->properB kd ky sp = true->∃ n',Pot N (P.setT i { t with busy:=true,work:=newWork kd ky va sp }) n'
 swp : ∀ {N n : Nat} {P : PSt},Pot N P n->∃ n',Pot N P.doSweep.1 n'
 new : ∀ {T N E L : Int},1<=E->∃ n,Pot N.toNat (freshP κ T N E L) n
section
variable {K : Kin} {i j : Nat} {t : PThread} {P : PSt} {L : Nat} {D D' : PlD}
theorem step_work (ht : P.ts[i]? = some t) (hb : t.busy = true) : ∃ t',(P.step i t).1.ts = P.ts.set i t'/\((P.step i t).2 = 3->t'.busy = false)/\((P.step i t).2≠3->t'.busy = true/\SameOp t t'/\t'.hasEnded = t.hasEnded/\t'.last = t.last):=by
 have same : P.ts.set i t = P.ts:=by
  apply List.ext_getElem?;intro j;rw [List.getElem?_set];split
  ·next e=>subst e; split <;> simp_all
  ·rfl
 have fin : ∀ (Q : PSt) (k : PWork),Q.ts = P.ts->k.kind = t.work.kind->k.key = t.work.key->k.value = t.work.value->k.spans = t.work.spans->∀ n : Int,n≠3->∃ t',(Q.setW i k,n).1.ts = P.ts.set i t'/\((Q.setW i k,n).2 = 3->t'.busy = false)/\((Q.setW i k,n).2≠3->t'.busy = true/\SameOp t t'/\t'.hasEnded = t.hasEnded/\t'.last = t.last):=by
  intro Q k hQ h1 h2 h3 h4 n hn;refine ⟨{ t with work:=k },?_,fun e=>absurd e hn,fun _=>⟨hb,⟨h1,h2,h3,h4⟩,rfl,rfl⟩⟩;show (Q.setW i k).ts = _;rw [setW_at Q (t:=t) (by rw [hQ]; exact ht) k,hQ]
 have stay : ∀ n : Int,n≠3->∃ t',(P,n).1.ts = P.ts.set i t'/\((P,n).2 = 3->t'.busy = false)/\((P,n).2≠3->t'.busy = true/\SameOp t t'/\t'.hasEnded = t.hasEnded/\t'.last = t.last) :=
  fun n hn=>⟨t,same.symm,fun e=>absurd e hn,fun _=>⟨hb,⟨rfl,rfl,rfl,rfl⟩,rfl,rfl⟩⟩
 unfold PSt.step;split
 ·exact ⟨_,rfl,fun e=>absurd e (by show ¬ (1 : Int) = 3; decide),fun _=>⟨hb,⟨rfl,rfl,rfl,rfl⟩,rfl,rfl⟩⟩
 ·exact ⟨_,rfl,fun e=>absurd e (by show ¬ (1 : Int) = 3; decide),fun _=>⟨hb,⟨rfl,rfl,rfl,rfl⟩,rfl,rfl⟩⟩
 ·exact ⟨_,rfl,fun e=>absurd e (by show ¬ (1 : Int) = 3; decide),fun _=>⟨hb,⟨rfl,rfl,rfl,rfl⟩,rfl,rfl⟩⟩
 ·exact ⟨_,rfl,fun _=>rfl,fun e=>absurd rfl e⟩
 ·split
  ·unfold PSt.read;simp only;split
   ·exact stay 2 (by decide)
   ·split
    ·refine fin P _ rfl ?_ ?_ ?_ ?_ 1 (by decide) <;> (unfold PSt.lookUp; split <;> rfl)
    ·refine fin P _ rfl ?_ ?_ ?_ ?_ 1 (by decide) <;> (unfold PSt.scan; simp only; split <;> rfl)
  ·unfold PSt.update;split
   ·refine fin P _ rfl ?_ ?_ ?_ ?_ 1 (by decide) <;> (unfold PSt.walk; split <;> rfl)
   ·unfold PSt.lock;split
    ·split
     ·refine fin _ _ ?_ ?_ ?_ ?_ ?_ 1 (by decide) <;> rfl
     ·exact stay 2 (by decide)
    ·refine fin _ _ ?_ ?_ ?_ ?_ ?_ 1 (by decide) <;> rfl
   ·unfold PSt.check;split
    ·refine fin _ _ ?_ ?_ ?_ ?_ ?_ 1 (by decide) <;> rfl
    ·split
     ·refine fin _ _ ?_ ?_ ?_ ?_ ?_ 1 (by decide) <;> rfl
     ·refine fin _ _ ?_ ?_ ?_ ?_ ?_ 1 (by decide) <;> rfl
   ·unfold PSt.prepare;split
    ·refine fin _ _ ?_ ?_ ?_ ?_ ?_ 1 (by decide) <;> rfl
    ·have hpp : ∀ pp : PMem × PWork,pp.2.kind = t.work.kind/\pp.2.key = t.work.key/\pp.2.value = t.work.value/\pp.2.spans = t.work.spans->∃ t',(((P.setM pp.1).setW i { pp.2 with next:=8 },(1 : Int)) : PSt × Int).1.ts = P.ts.set i t'/\(((((P.setM pp.1).setW i { pp.2 with next:=8 },(1 : Int)) : PSt × Int)).2 = 3->t'.busy = false)/\(((((P.setM pp.1).setW i { pp.2 with next:=8 },(1 : Int)) : PSt × Int)).2≠3->t'.busy = true/\SameOp t t'/\t'.hasEnded = t.hasEnded/\t'.last = t.last):=by
      rintro pp ⟨h1,h2,h3,h4⟩;exact fin (P.setM pp.1) { pp.2 with next:=8 } rfl h1 h2 h3 h4 1 (by decide)
     refine hpp (if t.work.kind = 1 then P.prepareInsert t.work else P.prepareRemove t.work) ?_;split
     ·unfold PSt.prepareInsert;simp only;split <;> exact ⟨rfl,rfl,rfl,rfl⟩
     ·unfold PSt.prepareRemove;simp only;split <;> exact ⟨rfl,rfl,rfl,rfl⟩
   ·unfold PSt.take;split
    ·refine fin _ _ ?_ ?_ ?_ ?_ ?_ 1 (by decide) <;> rfl
    ·simp only;split
     ·refine fin _ _ ?_ ?_ ?_ ?_ ?_ 1 (by decide) <;> rfl
     ·refine fin _ _ ?_ ?_ ?_ ?_ ?_ 1 (by decide) <;> rfl
   ·refine fin _ _ ?_ ?_ ?_ ?_ ?_ 1 (by decide) <;> rfl
   ·refine fin _ _ ?_ ?_ ?_ ?_ ?_ 1 (by decide) <;> rfl
   ·refine fin _ _ ?_ ?_ ?_ ?_ ?_ 1 (by decide) <;> rfl
   ·refine fin _ _ ?_ ?_ ?_ ?_ ?_ 1 (by decide) <;> rfl
   ·exact stay 1 (by decide)
theorem ok_step (hok : D.ok) (ht : D.P.ts[i]? = some t) (hb : t.busy = true) (hs : Stepped D i t D') : D'.ok:=by
 obtain ⟨t',h1,h2,h3⟩:=step_work ht hb;show D'.bs = D'.P.ts.map (·.busy);rw [hs.P,h1,hs.bs,List.map_set];have hok' : D.bs = D.P.ts.map (·.busy):=hok;split
 ·next e=>rw [h2 e,hok']
 ·next e =>
  rw [(h3 e).1,hok'];apply List.ext_getElem?;intro j;rw [List.getElem?_set];split
  ·next e=>subst e; rw [List.getElem?_map,ht]; simp [hb]; exact (List.getElem?_eq_some_iff.1 ht).1
  ·rfl
def bu (t : PThread) : Bool:=t.busy && decide (t.work.kind = 1\/t.work.kind = 2)
def Pot (K : Kin) (N : Nat) (D : PlD) (n : Nat) : Prop:=K.Pot N D.P n
theorem Pot.move {N n : Nat} (h : Pot K N D n) (ht : D.P.ts[i]? = some t) (hb : t.busy = true) (hs : Stepped D i t D') (hm : (D.P.step i t).2≠2) : ∃ n',n' + 1<=n/\Pot K N D' n':=by
 obtain ⟨n',h1,h2⟩:=K.move h ht hb hm;exact ⟨n',h1,by unfold Pot; rw [hs.P]; exact h2⟩
theorem Pot.wait {N n : Nat} (h : Pot K N D n) (ht : D.P.ts[i]? = some t) (hb : t.busy = true) (hs : Stepped D i t D') (hm : (D.P.step i t).2 = 2) : Pot K N D' n/\D'.P = D.P/\D'.bs = D.bs:=by
 have hP : D'.P = D.P:=by rw [hs.P,K.wait h ht hb hm]
 exact ⟨by unfold Pot; rw [hP]; exact h,hP,by rw [hs.bs,if_neg (by omega)]⟩
structure Plays (K : Kin) (f : Nat) (T N E L : Int) (J : PlD->Prop) : Prop where
 inv : ∀ {D},J D->∃ n,K.Pot N.toNat D.P n
 ok : ∀ {D},J D->D.ok
 cfg : ∀ {D},J D->D.k = K.κ/\D.t = T/\D.n = N/\D.e = E/\D.l = L
 step : ∀ {D D' : PlD} {i : Nat} {t : PThread},J D->Fit D.N D.P->D.P.ts[i]? = some t->t.busy = true->f<=i->Stepped D i t D'->J D'
 begin : ∀ {D D' : PlD} {i : Nat} {t : PThread} {o : OpV},J D->D.P.ts[i]? = some t->f<=i->Begun D i t o D'->J D'
 sweep : ∀ {D : PlD} (L' : ZLay),J D->J { D with L:=L',P:=D.P.doSweep.1 }
 low : ∀ {D : PlD} {i : Nat} {t : PThread},J D->i < f->D.P.ts[i]? = some t->t.busy = true->t.work.kind = 3\/t.work.kind = 4
def Sz (b : Nat) (D : PlD) : Prop:=D.N<=b/\D.deeds.length<=b/\0<=D.puts/\D.puts<=b/\0<=D.takes/\D.takes<=b
theorem Sz.mono {b b' : Nat} (h : Sz b D) (hb : b<=b') : Sz b' D:=by unfold Sz at *; omega
theorem Sz.step {b : Nat} (h : Sz b D) (hs : Stepped D i t D') : Sz (b + 1) D':=by
 have hd : D'.deeds.length<=D.deeds.length + 1:=by
  by_cases e : (D.P.step i t).2 = 3
  ·obtain ⟨av,o,f,_,_,q⟩:=hs.deeds.2 e;rw [q]; simp
  ·rw [hs.deeds.1 e]; omega
 unfold Sz at *;rw [hs.N,hs.cnt.1,hs.cnt.2]; omega
theorem Sz.begin {b : Nat} {o : OpV} (h : Sz b D) (hs : Begun D i t o D') : Sz (b + 1) D':=by
 have hc : (D'.puts = D.puts\/D'.puts = D.puts + 1)/\(D'.takes = D.takes\/D'.takes = D.takes + 1):=by
  by_cases hh : t.busy = true\/properB o.kind o.key o.spans = false
  ·obtain ⟨_,_,_,_,q1,q2⟩:=hs.no hh; exact ⟨.inl q1,.inl q2⟩
  ·simp only [not_or,Bool.not_eq_true,Bool.not_eq_false] at hh;obtain ⟨_,_,_,_,q1,q2⟩:=hs.yes hh.1 hh.2;rw [q1,q2];exact ⟨by split <;> omega,by split <;> omega⟩
 unfold Sz at *;rw [hs.N,hs.deeds]; omega
end
end
section
open Go.RowKit
structure Turning (K : Kin) (f N : Nat) (D : PlD) (k m s : Nat) (D1 : PlD) : Prop where
 pot : ∀ n,Pot K N D n->∃ n',n' + m<=n/\Pot K N D1 n'
 still : m = 0->D1.P = D.P/\∀ j u,f<=j->j < k->D.P.ts[j]? = some u->u.busy = true->(D.P.step j u).2 = 2
 none_ : s = 0->D1.P = D.P/\m = 0/\∀ j u,f<=j->j < k->D.P.ts[j]? = some u->u.busy = false
 some_ : s≠0->m = 0->∃ j u,f<=j/\D.P.ts[j]? = some u/\u.busy = true
 le : m<=k/\s<=k
section
variable {K : Kin} {own : Own} {z : Nat} {w w' : World} {pb : Nat} {D D1 D2 : PlD} {i f k m s N b : Nat} {t : PThread} {J : PlD->Prop} {T Nn E L : Int}
theorem Turning.start : Turning K f N D f 0 0 D:=⟨fun n h=>⟨n,by omega,h⟩,fun _=>⟨rfl,fun j u h1 h2=>by omega⟩,fun _=>⟨rfl,rfl,fun j u h1 h2=>by omega⟩,fun h=>absurd rfl h,by omega⟩
theorem Turning.skip (h : Turning K f N D k m s D1) (hk : D1.P.ts[k]? = some t) (hb : t.busy = false) : Turning K f N D (k + 1) m s D1:=by
 refine ⟨h.pot,?_,?_,h.some_,by have:=h.le; omega⟩
 ·intro hm;obtain ⟨h1,h2⟩:=h.still hm;refine ⟨h1,?_⟩;intro j u hj hjk hu hub;rcases (show j < k\/j = k by omega) with e | e
  ·exact h2 j u hj e hu hub
  ·subst e; rw [<- h1,hk] at hu; injection hu with hu; subst hu; rw [hb] at hub; cases hub
 ·intro hs;obtain ⟨h1,h2,h3⟩:=h.none_ hs;refine ⟨h1,h2,?_⟩;intro j u hj hjk hu;rcases (show j < k\/j = k by omega) with e | e
  ·exact h3 j u hj e hu
  ·subst e; rw [<- h1,hk] at hu; injection hu with hu; subst hu; exact hb
theorem Turning.wait (h : Turning K f N D k m s D1) (hf : f<=k) (hp : ∃ n,K.Pot N D1.P n) (hk : D1.P.ts[k]? = some t) (hb : t.busy = true) (hs : Stepped D1 k t D2) (h2 : (D1.P.step k t).2 = 2) : Turning K f N D (k + 1) m (s + 1) D2:=by
 obtain ⟨_,hC⟩:=hp;have hP2 : D2.P = D1.P:=by rw [hs.P,K.wait hC hk hb h2]
 refine ⟨?_,?_,fun e=>by omega,?_,by have:=h.le; omega⟩
 ·intro n hn;obtain ⟨n',q1,q2⟩:=h.pot n hn;exact ⟨n',q1,(q2.wait hk hb hs h2).1⟩
 ·intro hm;obtain ⟨g1,g2⟩:=h.still hm;refine ⟨hP2.trans g1,?_⟩;intro j u hj hjk hu hub;rcases (show j < k\/j = k by omega) with e | e
  ·exact g2 j u hj e hu hub
  ·subst e; rw [<- g1,hk] at hu; injection hu with hu; subst hu; rw [<- g1]; exact h2
 ·intro _ hm;obtain ⟨g1,_⟩:=h.still hm;exact ⟨k,t,hf,by rw [<- g1]; exact hk,hb⟩
theorem Turning.move (h : Turning K f N D k m s D1) (hk : D1.P.ts[k]? = some t) (hb : t.busy = true) (hs : Stepped D1 k t D2) (h2 : (D1.P.step k t).2≠2) : Turning K f N D (k + 1) (m + 1) (s + 1) D2:=by
 refine ⟨?_,fun e=>by omega,fun e=>by omega,fun _ e=>by omega,by have:=h.le; omega⟩;intro n hn;obtain ⟨n',q1,q2⟩:=h.pot n hn;obtain ⟨n'',q3,q4⟩:=q2.move hk hb hs h2;exact ⟨n'',by omega,q4⟩
theorem Turning.done (hJ : Plays K f T Nn E L J) (hj : J D) (h : Turning K f N D D.P.ts.length m s D1) (hm : m = 0) : s = 0:=by
 by_cases hs : s = 0
 ·exact hs
 ·exfalso;obtain ⟨j,u,h1,h2,h3⟩:=h.some_ hs hm;obtain ⟨_,hC⟩:=hJ.inv hj;obtain ⟨j',u',g1,g2,g3,g4⟩:=K.live hC h2 h3;have hf : f<=j':=by
   rcases Nat.lt_or_ge j' f with hlt | hge
   ·have hl:=hJ.low hj hlt g1 g2;rcases g4 with e | e
    ·omega
    ·omega
   ·exact hge
  exact g3 ((h.still hm).2 j' u' hf (List.getElem?_eq_some_iff.1 g1).1 g1 g2)
theorem Psteps_busy (h : PlAt own z w pb D) (hb : D.bs[i]? = some true) (ht : D.P.ts[i]? = some t) (htb : t.busy = true) (hN : D.N < 2 ^ 39) (hdl : D.deeds.length<=2 ^ 38) :
  Calls Tryz.prog 35 #[pv pb,.int .i64 i] w fun r w'=>r = .returned (.tuple #[.int .i64 (D.P.step i t).2,.bool true])/\PlGoes own z w pb w' (Stepped D i t):=by
 by_cases h3 : (D.P.step i t).2 = 3
 ·rw [h3]; exact Psteps_end h hb ht htb hN hdl h3
 ·exact Psteps_on h hb ht htb hN h3
theorem Pturn_calls (hJ : Plays K f T Nn E L J) (h : PlAt own z w pb D) (hj : J D) (hS : Sz b D) (hb : b<=2 ^ 37) (hf : (f : Int) < T) :
  Calls Tryz.prog 47 #[pv pb,.int .i64 f] w fun r w'=>∃ m s : Nat,r = .returned (.tuple #[.int .i64 m,.int .i64 s,.bool true])/\m<=8/\PlGoes own z w pb w' (fun D1=>J D1/\Sz (b + 8) D1/\Turning K f Nn.toNat D D.P.ts.length m s D1):=by
 have hT8:=h.fit.thr;have hTt : D.t = D.P.ts.length:=h.thr;obtain ⟨q,hq⟩ : ∃ q : Nat,Hid (q = D.P.ts.length):=⟨_,rfl⟩;have hTq : Hid (T = q):=by show T = q; rw [<- (hJ.cfg hj).2.1,hTt,hq.out]
 have hq8 : q<=8:=by have:=hq.out; omega
 have hfq : f < q:=by have:=hTq.out; omega
 have H:=(mkH (PlAt own z w pb D/\J D/\Sz b D) <|⟨h,hj,hS⟩);have HJ:=(mkH (Plays K f T Nn E L J) <|hJ);have HL:=(mkH (∀ (own1 : Own) (w1 : World) (D1 : PlD),PlAt own1 z w1 pb D1->J D1->D1.P.ts.length = q/\D1.t = q) <|by
  intro own1 w1 D1 h1 j1;have h2:=h1.thr;have h3:=(hJ.cfg j1).2.1;have h4:=hTq.out;have : (D1.P.ts.length : Int) = q:=by rw [<- h2,h3,h4]
  exact ⟨by omega,by rw [h3,h4]⟩)
 have HQ:=(mkH (∀ (w' : World) (m s : Nat),PlGoes own z w pb w' (fun D1=>J D1/\Sz (b + 8) D1/\Turning K f Nn.toNat D q m s D1)->PlGoes own z w pb w' (fun D1=>J D1/\Sz (b + 8) D1/\Turning K f Nn.toNat D D.P.ts.length m s D1)) <|by
  intro w' m s hh; rw [hq.out] at hh; exact hh)
 clear h hj hS hT8 hTt hJ hq hTq hf;unfold pv
 go_enter Tryz.func47,Tryz.ntmps47
 go_wp2
 go_loopw [7,8,9] (fun v1 v2 v3 wr=>∃ k m s : Nat,f<=k/\k<=q/\m<=8/\s<=8/\v1 = .int .i64 m/\v2 = .int .i64 s/\v3 = .int .i64 k/\Hid (PlGoes own z w pb wr (fun D1=>J D1/\Sz (b + k) D1/\Turning K f Nn.toNat D k m s D1))) (fun _ _ v3 _=>q - (intOf v3).toNat)
 case atStart=>exact ⟨f,0,0,Nat.le_refl _,by omega,by omega,by omega,rfl,rfl,rfl,own,D,H.out.1,Ext.refl _ _,Fr.refl _ _,H.out.2.1,H.out.2.2.mono (by omega),Turning.start⟩
 case round =>
  clear H;obtain ⟨k,m,s,hfk,hkq,hm8,hs8,rfl,rfl,rfl,HG⟩:=hrel;obtain ⟨own1,D1,hP,hE,hF,hj1,hS1,hTu⟩:=HG.out;obtain ⟨l1,l2⟩:=HL.out own1 wr D1 hP hj1;have HP:=(mkH (PlAt own1 z wr pb D1/\J D1/\Sz (b + k) D1/\Turning K f Nn.toNat D k m s D1) <|⟨hP,hj1,hS1,hTu⟩);have HX:=(mkH (Ext own own1 w/\FrP own z w wr) <|⟨hE,hF⟩);have hok : D1.ok:=HJ.out.ok hj1;by_cases hlt : k < q
  ·have hkl : k < D1.P.ts.length:=by omega
   have ht1 : D1.P.ts[k]? = some D1.P.ts[k]:=List.getElem?_eq_getElem hkl;generalize D1.P.ts[k] = t1 at ht1;have hbs : D1.bs[k]? = some t1.busy:=by
    have hok' : D1.bs = D1.P.ts.map (·.busy):=hok;rw [hok',List.getElem?_map,ht1]; rfl
   obtain ⟨g,gc,hv,hc,hz,hg,hgl⟩:=hP.busyRow hbs;have ha:=hP.at_.cell;rw [l1] at hv;simp only [PlD.cells,hv,l2,pv] at ha;have HT:=(mkH (D1.P.ts[k]? = some t1/\D1.bs[k]? = some t1.busy) <|⟨ht1,hbs⟩);have hle:=hTu.le;clear hP hE hF hj1 hS1 hTu HG hok ht1 hbs hv hg;cases hbz : t1.busy
   ·rw [hbz] at hc;have HG2:=(mkH (PlGoes own z w pb wr (fun D1=>J D1/\Sz (b + (k + 1)) D1/\Turning K f Nn.toNat D (k + 1) m s D1)) <|⟨own1,D1,HP.out.1,HX.out.1,HX.out.2,HP.out.2.1,HP.out.2.2.1.mono (by omega),HP.out.2.2.2.skip HT.out.1 hbz⟩);clear HT hbz;go_wp2
    go_roundw
    case rel=>exact ⟨k + 1,m,s,by omega,by omega,hm8,hs8,rfl,rfl,by go_num,HG2⟩
    case measure=>simp [intOf]; omega
   ·rw [hbz] at hc;have HT2:=(mkH (t1.busy = true/\D1.bs[k]? = some true) <|⟨hbz,by rw [<- hbz]; exact HT.out.2⟩);clear hbz;have HN:=(mkH (D1.N < 2 ^ 39/\D1.deeds.length<=2 ^ 38) <|by have:=HP.out.2.2.1; unfold Sz at this; exact ⟨by omega,by omega⟩);go_wp2_with fail;refine (Psteps_busy HP.out.1 HT2.out.2 HT.out.1 HT2.out.1 HN.out.1 HN.out.2).mono ?_;rintro r w2 ⟨rfl,own2,D2,hP2,hE2,hF2,hS2⟩;have HS2:=(mkH (PlGoes own z w pb w2 (fun D2=>J D2/\Sz (b + (k + 1)) D2/\Stepped D1 k t1 D2)) <|PlGoes.trans HX.out.1 HX.out.2 ⟨own2,D2,hP2,hE2,hF2,HJ.out.step HP.out.2.1 HP.out.1.fit HT.out.1 HT2.out.1 hfk hS2,HP.out.2.2.1.step hS2,hS2⟩);have hrg:=(HP.out.1.fit.turn HT.out.1 HT2.out.1).how;clear hP2 hE2 hF2 hS2 ha hc hz;by_cases h2 : (D1.P.step k t1).2 = 2
    ·have HG2:=(mkH (PlGoes own z w pb w2 (fun D2=>J D2/\Sz (b + (k + 1)) D2/\Turning K f Nn.toNat D (k + 1) m (s + 1) D2)) <|by
      obtain ⟨o,d,y1,y2,y3,y4,y5,y6⟩:=HS2.out;exact ⟨o,d,y1,y2,y3,y4,y5,HP.out.2.2.2.wait hfk (HJ.out.inv HP.out.2.1) HT.out.1 HT2.out.1 y6 h2⟩)
     rw [h2];clear h2 HS2 hrg;go_wp2
     go_roundw
     case rel=>exact ⟨k + 1,m,s + 1,by omega,by omega,hm8,by omega,rfl,by go_num,by go_num,HG2⟩
     case measure=>simp [intOf]; omega
    ·have HG2:=(mkH (PlGoes own z w pb w2 (fun D2=>J D2/\Sz (b + (k + 1)) D2/\Turning K f Nn.toNat D (k + 1) (m + 1) (s + 1) D2)) <|by
      obtain ⟨o,d,y1,y2,y3,y4,y5,y6⟩:=HS2.out;exact ⟨o,d,y1,y2,y3,y4,y5,HP.out.2.2.2.move HT.out.1 HT2.out.1 y6 h2⟩)
     generalize (D1.P.step k t1).2 = hw at h2 hrg ⊢;have h2' : (hw == 2) = false:=by simpa using h2
     clear HS2 h2;go_wp2
     go_roundw
     case rel=>exact ⟨k + 1,m + 1,s + 1,by omega,by omega,by omega,by omega,by go_num,by go_num,by go_num,HG2⟩
     case measure=>simp [intOf]; omega
  ·have hkq' : Hid (k = q):=by show k = q; omega
   have ha:=hP.at_.cell;simp only [PlD.cells,l2,pv] at ha;have HF:=(mkH (PlGoes own z w pb wr (fun D1=>J D1/\Sz (b + 8) D1/\Turning K f Nn.toNat D q m s D1)) <|⟨own1,D1,hP,hE,hF,hj1,hS1.mono (by omega),by rw [<- hkq'.out]; exact hTu⟩);clear hP hE hF hj1 hS1 hTu HG hok HP HX;go_wp2;go_ret3;exact ⟨m,s,rfl,hm8,HQ.out _ _ _ HF.out⟩
end
end
section
open Go.RowKit
section
variable {K : Kin} {own : Own} {z : Nat} {w w' : World} {pb : Nat} {D D1 D2 : PlD} {i f k m s N b : Nat} {t : PThread} {J : PlD->Prop} {T Nn E L : Int}
theorem Plays.pot (hJ : Plays K f T Nn E L J) (hj : J D) (hT : (D.P.ts.length : Int) = T) (hN : 0<=Nn) : Pot K Nn.toNat D (T * (T + 2) * (Nn + 16)).toNat:=by
 obtain ⟨_,hC⟩:=hJ.inv hj
 have:=K.bound hC
 have e : (T * (T + 2) * (Nn + 16)).toNat = D.P.ts.length * ((D.P.ts.length + 2) * (Nn.toNat + 16)):=by
  rw [<- hT];have : ((D.P.ts.length : Int) * (D.P.ts.length + 2) * (Nn + 16)) = ((D.P.ts.length * ((D.P.ts.length + 2) * (Nn.toNat + 16)) : Nat) : Int):=by
   rw [<- Nat.mul_assoc];simp only [Int.natCast_mul,Int.natCast_add];rw [Int.toNat_of_nonneg hN]; rfl
  rw [this]; rfl
 rw [e]; exact this
def Still (f : Nat) (D : PlD) : Prop:=∀ j u,f<=j->D.P.ts[j]? = some u->u.busy = false
theorem most_le {T Nn : Int} (hT : 1<=T/\T<=8) (hN : 0<=Nn/\Nn<=64) : (0<=T * (T + 2)/\T * (T + 2)<=80)/\0<=T * (T + 2) * (Nn + 16)/\T * (T + 2) * (Nn + 16)<=6400:=by
 have h1 : T * (T + 2)<=8 * 10:=Int.mul_le_mul hT.2 (by omega) (by omega) (by omega);have h2 : 0<=T * (T + 2):=Int.mul_nonneg (by omega) (by omega);have h3 : T * (T + 2) * (Nn + 16)<=80 * 80:=Int.mul_le_mul (by omega) (by omega) (by omega) (by omega);have h4 : 0<=T * (T + 2) * (Nn + 16):=Int.mul_nonneg h2 (by omega);omega
theorem Pfinish_calls (hJ : Plays K f T Nn E L J) (h : PlAt own z w pb D) (hj : J D) (hS : Sz b D) (hb : b<=2 ^ 36) (hf : (f : Int) < T) (hNn : 0<=Nn/\Nn<=64) :
  Calls Tryz.prog 27 #[pv pb,.int .i64 f] w fun r w'=>r = .returned (.bool true)/\PlGoes own z w pb w' (fun D1=>J D1/\Sz (b + 60000) D1/\Still f D1):=by
 have hT8:=h.fit.thr;have hTt : D.t = D.P.ts.length:=h.thr;have hT1 : (1 : Int)<=T/\T<=8:=by have:=(hJ.cfg hj).2.1; omega
 obtain ⟨⟨m1,m2⟩,m3,m4⟩:=most_le hT1 hNn;obtain ⟨n1,n2⟩:=hNn;obtain ⟨t1,t2⟩:=hT1;have hpot:=hJ.pot hj (by rw [<- hTt]; exact (hJ.cfg hj).2.1) n1;have H:=(mkH (PlAt own z w pb D/\J D/\Sz b D) <|⟨h,hj,hS⟩);have HJ:=(mkH (Plays K f T Nn E L J) <|hJ);have HF:=(mkH ((f : Int) < T) <|hf);have ha:=h.at_.cell;simp only [PlD.cells,(hJ.cfg hj).2.1,(hJ.cfg hj).2.2.1,pv] at ha;obtain ⟨M,hM⟩ : ∃ M : Nat,Hid (T * (T + 2) * (Nn + 16) = M):=⟨(T * (T + 2) * (Nn + 16)).toNat,by show _ = _; omega⟩;have hM6 : M<=6400:=by have:=hM.out; omega
 have HPot:=(mkH (Pot K Nn.toNat D M) <|by
  show Pot K Nn.toNat D M;rw [hM.out] at hpot; simpa using hpot)
 clear h hj hS hT8 hTt hJ hf hpot;unfold pv
 go_enter Tryz.func27,Tryz.ntmps27
 go_wp2;go_region;rw [hM.out];have HD:=(mkH (PlAt own z w.drew pb D) <|H.out.1.calm ((Fr.refl _ _).drew));have HW:=(mkH (FrP own z w w.drew) <|(Fr.refl _ _).drew);clear ha;generalize w.drew = w0 at HD HW ⊢;go_wp2
 go_loopw [6] (fun v wr=>∃ j : Nat,j<=M/\v = .int .i64 j/\Hid (PlGoes own z w pb wr (fun D1=>J D1/\Sz (b + 8 * j) D1/\∃ n,n + j<=M/\Pot K Nn.toNat D1 n))) (fun v _=>M + 1 - (intOf v).toNat)
 case atStart=>exact ⟨0,by omega,rfl,own,D,HD.out,Ext.refl _ _,HW.out,H.out.2.1,H.out.2.2,M,by omega,HPot.out⟩
 case round =>
  clear H HD HW HPot;obtain ⟨j,hjM,rfl,HG⟩:=hrel;obtain ⟨own1,D1,hP,hE,hF,hj1,hS1,n,hn,hpt⟩:=HG.out;have HP:=(mkH (PlAt own1 z wr pb D1/\J D1/\Sz (b + 8 * j) D1/\n + j<=M/\Pot K Nn.toNat D1 n) <|⟨hP,hj1,hS1,hn,hpt⟩);have HX:=(mkH (Ext own own1 w/\FrP own z w wr) <|⟨hE,hF⟩);clear hP hE hF hj1 hS1 hn hpt HG;have HB:=(mkH (b + 8 * j<=2 ^ 37) <|by show b + 8 * j<=2 ^ 37; omega);go_wp2_with fail;refine (Pturn_calls HJ.out HP.out.1 HP.out.2.1 HP.out.2.2.1 HB.out HF.out).mono ?_;rintro r w2 ⟨mm,ss,rfl,hm8,own2,D2,hP2,hE2,hF2,hj2,hS2,hTu⟩;have HG2:=(mkH (PlGoes own z w pb w2 (fun D2=>J D2/\Sz (b + 8 * (j + 1)) D2/\Turning K f Nn.toNat D1 D1.P.ts.length mm ss D2)) <|PlGoes.trans HX.out.1 HX.out.2 ⟨own2,D2,hP2,hE2,hF2,hj2,hS2.mono (by omega),hTu⟩);clear hP2 hE2 hF2 hj2 hS2 hTu hm8;by_cases hs : ss = 0
  ·have HR:=(mkH (PlGoes own z w pb w2 (fun D1=>J D1/\Sz (b + 60000) D1/\Still f D1)) <|by
    obtain ⟨o,d,y1,y2,y3,y4,y5,y6⟩:=HG2.out;obtain ⟨z1,z2,z3⟩:=y6.none_ hs;refine ⟨o,d,y1,y2,y3,y4,y5.mono (by omega),?_⟩;intro q u hq hu;rw [z1] at hu;exact z3 q u hq (List.getElem?_eq_some_iff.1 hu).1 hu)
   subst hs;clear HG2;go_wp2;go_ret;exact ⟨rfl,HR.out⟩
  ·have hm : mm≠0:=by
    intro e;obtain ⟨o,d,y1,y2,y3,y4,y5,y6⟩:=HG2.out;exact hs (y6.done HJ.out HP.out.2.1 e)
   have HG3:=(mkH (j + 1<=M/\PlGoes own z w pb w2 (fun D2=>J D2/\Sz (b + 8 * (j + 1)) D2/\∃ n,n + (j + 1)<=M/\Pot K Nn.toNat D2 n)) <|by
    obtain ⟨o,d,y1,y2,y3,y4,y5,y6⟩:=HG2.out;obtain ⟨n',q1,q2⟩:=y6.pot n HP.out.2.2.2.2
    have:=HP.out.2.2.2.1
    exact ⟨by omega,o,d,y1,y2,y3,y4,y5,n',by omega,q2⟩)
   have hs' : ((ss : Int) == 0) = false:=by simp; exact hs
   have hm' : ((mm : Int) == 0) = false:=by simp; exact hm
   have hj1:=HG3.out.1;have HG4:=(mkH (PlGoes own z w pb w2 (fun D2=>J D2/\Sz (b + 8 * (j + 1)) D2/\∃ n,n + (j + 1)<=M/\Pot K Nn.toNat D2 n)) <|HG3.out.2);clear HG2 HG3 hs hm;go_wp2
   go_roundw
   case rel=>exact ⟨j + 1,hj1,by go_num,HG4⟩
   case measure=>simp [intOf]; omega
end
end
end Go.Proofs.YtfccelbmacjifabGreat
