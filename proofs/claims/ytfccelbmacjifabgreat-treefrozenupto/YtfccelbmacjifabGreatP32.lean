import Derived.Test.YtfccelbmacjifabGreatP0
import Derived.Test.YtfccelbmacjifabGreatP31
import Derived.Test.YtfccelbmacjifabGreatP30
set_option linter.unusedSimpArgs false
set_option maxRecDepth 100000
set_option maxHeartbeats 4000000
namespace Go.Proofs.YtfccelbmacjifabGreat
section
namespace T
structure Dn (L n e c : Int) (ps : List (Int × Int)) (kd ky va : Int) (g : Gh) (Q : PSt) (a : BAns) : Prop where
 u : shUpd ps kd ky = true
 en : spendN 1 kd<=n/\spendE 1 kd<=e/\c < L
 rm : Q.mem.room.1 = n - spendN 1 kd/\Q.mem.room.2 = e - spendE 1 kd
 ck : Q.clock = c + 1
 rt : Rt g (c + 1) = shNew ps kd ky va
 an : a = { did:=true,stamp:=c + 1,value:=if kd = 2 then (shVal ps ky).1 else 0 }
structure Nd (L n e c : Int) (ps : List (Int × Int)) (kd ky : Int) (g : Gh) (Q : PSt) (a : BAns) : Prop where
 d : doneOf 1 L n e c ps kd ky = false
 rm : Q.mem.room.1 = n/\Q.mem.room.2 = e
 ck : Q.clock = c
 rt : Rt g c = ps
 an : a = wantOf 1 L n e c ps kd ky []
structure Ph (L n e c : Int) (ps : List (Int × Int)) (kd ky va : Int) (g : Gh) (Q : PSt) (k : PWork) : Prop where
 op : k.kind = kd/\k.key = ky/\(kd = 1->k.value = va)
 p7 : k.next<=7->(Q.mem.room.1 = n/\Q.mem.room.2 = e)/\Q.clock = c/\Rt g c = ps
 u7 : k.next = 7\/k.next = 8->shUpd ps kd ky = true
 p8 : k.next = 8->(spendN 1 kd<=n/\spendE 1 kd<=e)/\(Q.mem.room.1 = n - spendN 1 kd/\Q.mem.room.2 = e - spendE 1 kd)/\Q.clock = c/\Rt g c = ps
 p9 : 9<=k.next->k.next<=11->Dn L n e c ps kd ky va g Q k.ans
 p12 : 12<=k.next->Dn L n e c ps kd ky va g Q k.ans\/Nd L n e c ps kd ky g Q k.ans
section
variable {g g' : Gh} {i j : Nat} {t t' u : PThread} {P P' Q : PSt} {L n e c kd ky va : Int} {ps : List (Int × Int)} {k : PWork}
theorem Dn.same {Q' : PSt} (h : Dn L n e c ps kd ky va g Q k.ans) (h1 : Q'.mem.room = Q.mem.room) (h2 : Q'.clock = Q.clock) {a : BAns} (h3 : a = k.ans) : Dn L n e c ps kd ky va g Q' a :=
 ⟨h.u,h.en,by rw [h1]; exact h.rm,by rw [h2]; exact h.ck,h.rt,by rw [h3]; exact h.an⟩
theorem Nd.same {Q' : PSt} (h : Nd L n e c ps kd ky g Q k.ans) (h1 : Q'.mem.room = Q.mem.room) (h2 : Q'.clock = Q.clock) {a : BAns} (h3 : a = k.ans) : Nd L n e c ps kd ky g Q' a :=
 ⟨h.d,by rw [h1]; exact h.rm,by rw [h2]; exact h.ck,h.rt,by rw [h3]; exact h.an⟩
theorem Ph.low {Q' : PSt} {k' : PWork} (h : Ph L n e c ps kd ky va g Q k) (h7 : k.next<=7) (h1 : k'.kind = k.kind/\k'.key = k.key/\k'.value = k.value) (h2 : k'.next<=6) (h3 : Q'.mem.room = Q.mem.room) (h4 : Q'.clock = Q.clock) : Ph L n e c ps kd ky va g Q' k':=by
 have:=h.p7 h7
 refine ⟨by rw [h1.1,h1.2.1,h1.2.2]; exact h.op,fun _=>⟨by rw [h3]; exact this.1,by rw [h4]; exact this.2.1,this.2.2⟩,fun q=>by omega,fun q=>by omega,fun q=>by omega,fun q=>by omega⟩
theorem Ph.step (h : Ph L n e c ps kd ky va g P t.work) (hA : All g P) (hkd : kd = 1\/kd = 2) (ht : P.ts[i]? = some t) (hb : t.busy = true) (hl : P.limit = L) (hcl : c<=L) (h1 : (P.step i t).2 = 1) :
  ∃ t',(P.step i t).1.ts = P.ts.set i t'/\t'.busy = true/\Ph L n e c ps kd ky va (nextG g P i t) (P.step i t).1 t'.work:=by
 have hI:=hA.i;have hT:=hI.th i t ht;have hk : t.work.kind = 1\/t.work.kind = 2:=by rw [h.op.1]; exact hkd
 have rs:=hI.roomSame ht hb;have hck:=hI.clockStep ht hb;have hG : ∀ {k : Nat},t.work.next = k->k≠8->nextG g P i t = g:=fun e1 e2=>nextG_no (fun q=>e2 (e1.symm.trans q.1))
 have hnT : ∀ {k : Nat},t.work.next = k->k≠8->(P.step i t).1.clock = P.clock:=fun e1 e2=>by rw [hck,if_neg (fun q=>e2 (e1.symm.trans q.1))]
 obtain ⟨P',m,hs,ho⟩:=hI.out ht hb;rw [hs] at rs hck h1 ⊢;have hnT : ∀ {k : Nat},t.work.next = k->k≠8->P'.clock = P.clock:=fun e1 e2=>by have:=hnT e1 e2; rw [hs] at this; exact this
 have low : ∀ {k' : PWork} {kk : Nat},t.work.next = kk->kk<=6->k'.kind = t.work.kind/\k'.key = t.work.key/\k'.value = t.work.value->k'.next<=6->Ph L n e c ps kd ky va (nextG g P i t) P' k':=by
  intro k' kk e1 e2 e3 e4;rw [hG e1 (by omega)];exact h.low (by omega) e3 e4 (rs (by omega) (by omega)) (hnT e1 (by omega))
 have later : ∀ {k' : PWork},9<=t.work.next->t.work.next<=12->k'.kind = t.work.kind/\k'.key = t.work.key/\k'.value = t.work.value->k'.next = t.work.next + 1->k'.ans = t.work.ans->Ph L n e c ps kd ky va (nextG g P i t) P' k':=by
  intro k' e1 e2 e3 e4 e5;rw [hG rfl (by omega)];have r1:=rs (by omega) (by omega);have c1 : P'.clock = P.clock:=hnT rfl (by omega);refine ⟨by rw [e3.1,e3.2.1,e3.2.2]; exact h.op,fun q=>by omega,fun q=>by omega,fun q=>by omega,fun q1 q2=>(h.p9 e1 (by omega)).same r1 c1 e5,fun q=>?_⟩;by_cases h11 : t.work.next<=11
  ·exact .inl ((h.p9 e1 h11).same r1 c1 e5)
  ·rcases h.p12 (by omega) with z | z
   ·exact .inl (z.same r1 c1 e5)
   ·exact .inr (z.same r1 c1 e5)
 have hne : P.needs t.work.kind = (spendN 1 kd,spendE 1 kd):=by
  unfold PSt.needs spendN spendE;rw [h.op.1];rcases hkd with e | e
  ·subst e; rw [if_neg (by decide),if_pos hI.kind]; rfl
  ·subst e; rw [if_pos rfl]; rfl
 cases ho with
 | come1 hn=>exact ⟨_,rfl,hb,low hn (by omega) ⟨rfl,rfl,rfl⟩ (by show 2<=6; omega)⟩
 | come2 hn=>exact ⟨_,rfl,hb,low hn (by omega) ⟨rfl,rfl,rfl⟩ (by show 3<=6; omega)⟩
 | come3 hn=>exact ⟨_,rfl,hb,low hn (by omega) ⟨rfl,rfl,rfl⟩ (by show 4<=6; omega)⟩
 | leave=>exact absurd h1 (show ¬ (3 : Int) = 1 by decide)
 | rwait=>exact absurd h1 (show ¬ (2 : Int) = 1 by decide)
 | lwait=>exact absurd h1 (show ¬ (2 : Int) = 1 by decide)
 | rgo hn hk'=>omega
 | walkOn hn=>exact ⟨_,rfl,hb,low hn (by omega) ⟨rfl,rfl,rfl⟩ (by show t.work.next<=6; omega)⟩
 | walkEnd hn=>exact ⟨_,rfl,hb,low hn (by omega) ⟨rfl,rfl,rfl⟩ (by show 5<=6; omega)⟩
 | lock hn hk' hh nn hnn hn56=>exact ⟨_,rfl,hb,low hn (by omega) ⟨rfl,rfl,rfl⟩ (by show nn<=6; omega)⟩
 | home hn=>exact ⟨_,rfl,hb,low hn (by omega) ⟨rfl,rfl,rfl⟩ (by show 4<=6; omega)⟩
 | same hn hk' ho hm =>
  refine ⟨_,rfl,hb,?_⟩;rw [hG hn (by omega)];obtain ⟨p1,p2,p3⟩:=h.p7 (by omega);have hv:=hI.idle6 ht hb hn ho;rw [p2,p3,h.op.2.1] at hv;have hu : shUpd ps kd ky = false:=by
   unfold shUpd;rw [hv];rw [h.op.1,h.op.2.1] at hm;rcases hkd with e | e
   ·subst e; rw [if_pos (hm.2 rfl)]; rfl
   ·subst e; rw [if_neg (fun q=>by have:=hm.1 q; omega)]; rfl
  refine ⟨h.op,fun q=>absurd q (by show ¬ 12<=7; omega),fun q=>absurd q (by show ¬ (12 = 7\/12 = 8); omega),fun q=>absurd q (by show ¬ 12 = 8; omega),fun _ q=>absurd q (by show ¬ 12<=11; omega),fun _=>.inr ⟨?_,p1,p2,p3,?_⟩⟩
  ·unfold doneOf; rw [hu]; rfl
  ·show ({ stamp:=P.clock } : BAns) = _;unfold wantOf shAns;rw [hu,p2];rcases hkd with e | e
   ·subst e; simp
   ·subst e; simp
 | right hn hk' ho hm =>
  refine ⟨_,rfl,hb,?_⟩;rw [hG hn (by omega)];obtain ⟨p1,p2,p3⟩:=h.p7 (by omega);have hv:=hI.idle6 ht hb hn ho;rw [p2,p3,h.op.2.1] at hv;have hu : shUpd ps kd ky = true:=by
   unfold shUpd;rw [hv];rw [h.op.1,h.op.2.1] at hm;rcases hkd with e | e
   ·subst e; rw [if_neg (fun q=>by have:=hm.1 q; omega)]; rfl
   ·subst e; rw [if_pos (hm.2 rfl)]; rfl
  exact ⟨h.op,fun _=>⟨p1,p2,p3⟩,fun _=>hu,fun q=>absurd q (by show ¬ 7 = 8; omega),fun q=>absurd q (by show ¬ 9<=7; omega),fun q=>absurd q (by show ¬ 12<=7; omega)⟩
 | full hn hk' hr =>
  refine ⟨_,rfl,hb,?_⟩;rw [hG hn (by omega)];obtain ⟨p1,p2,p3⟩:=h.p7 (by omega);have hu:=h.u7 (.inl hn);rw [hne] at hr;simp only at hr;have hse : spendErr 1 L kd n e c = 7:=by unfold spendErr; rw [if_pos (by rw [p1.1,p1.2] at hr; exact hr)]
  refine ⟨h.op,fun q=>absurd q (by show ¬ 12<=7; omega),fun q=>absurd q (by show ¬ (12 = 7\/12 = 8); omega),fun q=>absurd q (by show ¬ 12 = 8; omega),fun _ q=>absurd q (by show ¬ 12<=11; omega),fun _=>.inr ⟨?_,p1,p2,p3,?_⟩⟩
  ·unfold doneOf; rw [hu,hse]; rfl
  ·show ({ err:=7 } : BAns) = _;unfold wantOf;rw [hu,hse]; rfl
 | prepI hn hk1 hr1 hr2 a nn M1 ep ua un ne nd pd sdd rm =>
  refine ⟨_,rfl,hb,?_⟩;rw [hG hn (by omega)];obtain ⟨p1,p2,p3⟩:=h.p7 (by omega);have k1 : kd = 1:=by rw [<- h.op.1]; exact hk1
  have hu:=h.u7 (.inl hn);have e1 : spendN 1 kd = 2:=by rw [k1]; rfl
  have e2 : spendE 1 kd = 3:=by rw [k1]; rfl
  refine ⟨h.op,fun q=>absurd q (by show ¬ 8<=7; omega),fun _=>hu,fun _=>⟨⟨by omega,by omega⟩,⟨?_,?_⟩,p2,p3⟩,fun q=>absurd q (by show ¬ 9<=8; omega),fun q=>absurd q (by show ¬ 12<=8; omega)⟩
  ·show M1.room.1 = _; omega
  ·show M1.room.2 = _; omega
 | prepR hn hk2 hr M1 em nd pd sdd rm =>
  refine ⟨_,rfl,hb,?_⟩;rw [hG hn (by omega)];obtain ⟨p1,p2,p3⟩:=h.p7 (by omega);have k2 : kd = 2:=by rw [<- h.op.1]; exact hk2
  have hu:=h.u7 (.inl hn);have e1 : spendN 1 kd = 0:=by rw [k2]; rfl
  have e2 : spendE 1 kd = 1:=by rw [k2]; rfl
  have h0 : (0 : Int)<=P.mem.room.1:=by
   have e1 : P.mem.room.1 = (count (fun x : PNode=>!x.used) P.mem.ns : Nat):=rfl;omega
  refine ⟨h.op,fun q=>absurd q (by show ¬ 8<=7; omega),fun _=>hu,fun _=>⟨⟨by omega,by omega⟩,⟨?_,?_⟩,p2,p3⟩,fun q=>absurd q (by show ¬ 9<=8; omega),fun q=>absurd q (by show ¬ 12<=8; omega)⟩
  ·show M1.room.1 = _; omega
  ·show M1.room.2 = _; omega
 | late hn hk' hll M1 em nd pd sdd =>
  refine ⟨_,rfl,hb,?_⟩;rw [nextG_no (fun q=>q.2.2 hll)];obtain ⟨p0,p1,p2,p3⟩:=h.p8 hn;have hu:=h.u7 (.inr hn);have hlr:=hI.lateRoom ht hb hn;rw [<- em] at hlr;have hcL : c = L:=by omega
  have hse : spendErr 1 L kd n e c = 8:=by unfold spendErr; rw [if_neg (by omega),if_pos hcL]
  have e1 : (if t.work.kind = 1 then (2 : Int) else 0) = spendN 1 kd:=by rw [h.op.1]; unfold spendN; split <;> rfl
  have e2 : (if t.work.kind = 1 then (3 : Int) else 1) = spendE 1 kd:=by rw [h.op.1]; unfold spendE; split <;> rfl
  rw [e1,e2] at hlr;refine ⟨h.op,fun q=>absurd q (by show ¬ 12<=7; omega),fun q=>absurd q (by show ¬ (12 = 7\/12 = 8); omega),fun q=>absurd q (by show ¬ 12 = 8; omega),fun _ q=>absurd q (by show ¬ 12<=11; omega),fun _=>.inr ⟨?_,⟨?_,?_⟩,p2,p3,?_⟩⟩
  ·unfold doneOf; rw [hu,hse]; rfl
  ·show M1.room.1 = _; omega
  ·show M1.room.2 = _; omega
  ·show ({ err:=8 } : BAns) = _;unfold wantOf;rw [hu,hse]; rfl
 | takeI hn hk1 hll a nn q M1 em nd pd sdd =>
  refine ⟨_,rfl,hb,?_⟩;obtain ⟨p0,p1,p2,p3⟩:=h.p8 hn;have hu:=h.u7 (.inr hn);have hTk : Took P t:=⟨hn,.inl hk1,hll⟩;obtain ⟨r1,r2,r3⟩:=hI.tookRows ht hb hTk;rw [p2,p3,h.op.1,h.op.2.1] at r1;have k1 : kd = 1:=by rw [<- h.op.1]; exact hk1
  rw [h.op.2.2 k1] at r1;have rr:=rs (by omega) (fun _=>hll);have dn : Dn L n e c ps kd ky va (nextG g P i t) { P with mem:=M1,clock:=P.clock + 1,ts:=P.ts.set i { t with work:={ t.work with ans:={ did:=true,stamp:=P.clock + 1 },next:=10 } } } { did:=true,stamp:=P.clock + 1 }:=by
   refine ⟨hu,⟨p0.1,p0.2,by omega⟩,?_,by show P.clock + 1 = _; rw [p2],r1,?_⟩
   ·have rr : M1.room = P.mem.room:=rr;show M1.room.1 = _/\M1.room.2 = _;rw [rr]; exact p1
   ·rw [if_neg (by omega),p2]
  exact ⟨h.op,fun q=>absurd q (by show ¬ 10<=7; omega),fun q=>absurd q (by show ¬ (10 = 7\/10 = 8); omega),fun q=>absurd q (by show ¬ 10 = 8; omega),fun _ _=>dn,fun q=>absurd q (by show ¬ 12<=10; omega)⟩
 | takeR hn hk2 hll =>
  refine ⟨_,rfl,hb,?_⟩;obtain ⟨p0,p1,p2,p3⟩:=h.p8 hn;have hu:=h.u7 (.inr hn);have hTk : Took P t:=⟨hn,.inr hk2,hll⟩;obtain ⟨r1,r2,r3⟩:=hI.tookRows ht hb hTk;rw [p2,p3,h.op.1,h.op.2.1] at r1;have k2 : kd = 2:=by rw [<- h.op.1]; exact hk2
  have r3:=r3 hk2;rw [p2,p3,h.op.2.1] at r3;have hsv : shNew ps kd ky t.work.value = shNew ps kd ky va:=by
   unfold shNew;rw [hu,if_pos rfl,if_pos rfl,if_neg (by omega),if_neg (by omega)]
  rw [hsv] at r1;have dn : Dn L n e c ps kd ky va (nextG g P i t) { P with clock:=P.clock + 1,ts:=P.ts.set i { t with work:={ t.work with ans:={ did:=true,stamp:=P.clock + 1,value:=(P.mem.node t.work.ahead).value },next:=9 } } } { did:=true,stamp:=P.clock + 1,value:=(P.mem.node t.work.ahead).value }:=by
   refine ⟨hu,⟨p0.1,p0.2,by omega⟩,p1,by show P.clock + 1 = _; rw [p2],r1,?_⟩;rw [if_pos k2,p2,r3]
  exact ⟨h.op,fun q=>absurd q (by show ¬ 9<=7; omega),fun q=>absurd q (by show ¬ (9 = 7\/9 = 8); omega),fun q=>absurd q (by show ¬ 9 = 8; omega),fun _ _=>dn,fun q=>absurd q (by show ¬ 12<=9; omega)⟩
 | kill hn=>exact ⟨_,rfl,hb,later (by omega) (by omega) ⟨rfl,rfl,rfl⟩ (by show 10 = _; omega) rfl⟩
 | link hn=>exact ⟨_,rfl,hb,later (by omega) (by omega) ⟨rfl,rfl,rfl⟩ (by show 11 = _; omega) rfl⟩
 | stamp hn=>exact ⟨_,rfl,hb,later (by omega) (by omega) ⟨rfl,rfl,rfl⟩ (by show 12 = _; omega) rfl⟩
 | unlock hn=>exact ⟨_,rfl,hb,later (by omega) (by omega) ⟨rfl,rfl,rfl⟩ (by show 13 = _; omega) rfl⟩
end
end T
end
section
namespace T
structure QT (N E L : Int) (P : PSt) (ps : List (Int × Int)) (n e c : Int) : Prop where
 ex : ∃ g,All g P/\Rt g c = ps
 uq : UQ P.mem
 idle : Idle P
 sw : P.sweep = PSweep.zero
 len : P.mem.ns.length = N.toNat + 2/\P.mem.es.length = E.toNat
 rm : P.mem.room.1 = n/\P.mem.room.2 = e
 ck : P.clock = c/\P.limit = L/\c<=L
section
variable {g g' : Gh} {i j : Nat} {t t' u : PThread} {P P' Q : PSt} {T N E L n e c kd ky va : Int} {ps sp : List (Int × Int)} {k : PWork}
theorem QT.room (h : QT N E L P ps n e c) (hN : 0<=N/\N<=64) (hE : 1<=E/\E<=256) (hL : 0<=L/\L<=1099511627776) : P.mem.room.1 = n/\P.mem.room.2 = e/\P.clock = c/\(0<=n/\n<=64)/\(0<=e/\e<=256)/\(0<=c/\c<=2 ^ 41)/\ps.length<=64:=by
 obtain ⟨g,hA,hr⟩:=h.ex;have e1 : P.mem.room.1 = (count (fun x : PNode=>!x.used) P.mem.ns : Nat):=rfl;have e2 : P.mem.room.2 = (count (fun x : PEntry=>!x.used) P.mem.es : Nat):=rfl;have c2:=filt_len (fun x : PEntry=>!x.used) P.mem.es;have hl:=h.len;have hrm:=h.rm;have hck:=h.ck;have h0:=hA.i.o.sc.2;have hsz:=hA.v.now.size hA.i.n.gt.dj hA.i.n.gt.z;have hlen:=Rt_len hA.i.n.gt;rw [hck.1,hr] at hlen;rw [Tr.size_is,hck.1] at hsz
 -- two of the nodes are used
 have c1 : count (fun x : PNode=>!x.used) P.mem.ns + 2<=P.mem.ns.length:=by
  have h3:=count_not (fun x : PNode=>x.used) P.mem.ns;have h4 : 2<=count (fun x : PNode=>x.used) P.mem.ns:=by
   obtain ⟨k0,x0,a1,a2,a3⟩:=node_at (hasN_used hA.i.n.n0.1);obtain ⟨k1,x1,b1,b2,b3⟩:=node_at (hasN_used hA.i.n.one.2.1);have u0 : x0.used = true:=by rw [<- a3]; exact hA.i.n.n0.1
   have u1 : x1.used = true:=by rw [<- b3]; exact hA.i.n.one.2.1
   have z0 : k0 = 0:=by omega
   have z1 : k1 = 1:=by omega
   subst z0; subst z1
   match hns : P.mem.ns with
   | []=>rw [hns] at a2; simp at a2
   | [a]=>rw [hns] at b2; simp at b2
   | a :: b :: r =>
    rw [hns] at a2 b2;simp at a2 b2;subst a2; subst b2;unfold count;simp [u0,u1]
  omega
 refine ⟨hrm.1,hrm.2,hck.1,by omega,by omega,⟨by omega,by omega⟩,by omega⟩
theorem QT.sweeps (h : QT N E L P ps n e c) (hN : 0<=N) (hE : 1<=E) : (∀ j,j < P.ts.length + 2->P.swHow j = 1)/\P.swHow (P.ts.length + 2) = 3/\QT N E L (P.swIter (P.ts.length + 3)) ps (N - ps.length * (1 + 1)) (E - ps.length * (1 + 1) - 1) c:=by
 obtain ⟨g,hA,hr⟩:=h.ex;obtain ⟨s1,s2,s3⟩:=sweep_run h.sw (hA.i.slot0 h.idle);refine ⟨s1,s2,?_⟩;obtain ⟨g',a1,a2⟩:=hA.sweeps (P.ts.length + 3);rw [s3] at a1 ⊢;obtain ⟨r1,r2,r3,r4⟩:=hA.sweptRoom h.uq h.idle rfl ⟨g',a1.v.now,a2⟩;have hck:=h.ck;rw [hck.1,hr] at r1 r2;rw [h.len.1] at r1 r3;rw [h.len.2] at r2 r4;refine ⟨⟨g',a1,by unfold Rt at hr ⊢; rw [a2]; exact hr⟩,?_,h.idle,rfl,⟨?_,?_⟩,⟨?_,?_⟩,hck⟩
 ·exact uq_freesIf _ _ _ (uq_drop h.uq _)
 ·show ((P.mem.drop P.clock).freesIf false 0 (retiredFrom P.mem.ns 0)).ns.length = _;exact r3
 ·show ((P.mem.drop P.clock).freesIf false 0 (retiredFrom P.mem.ns 0)).es.length = _;exact r4
 ·show ((P.mem.drop P.clock).freesIf false 0 (retiredFrom P.mem.ns 0)).room.1 = _;rw [hck.1,r1]; omega
 ·show ((P.mem.drop P.clock).freesIf false 0 (retiredFrom P.mem.ns 0)).room.2 = _;rw [hck.1,r2]; omega
structure Run1 (N E L : Int) (i : Nat) (P : PSt) (g : Gh) (t : PThread) : Prop where
 a : All g P
 uq : UQ P.mem
 sw : P.sweep = PSweep.zero
 len : P.mem.ns.length = N.toNat + 2/\P.mem.es.length = E.toNat
 lim : P.limit = L
 at_ : P.ts[i]? = some t
 b : t.busy = true
theorem Run1.step (h : Run1 N E L i P g t) (h1 : (P.step i t).2 = 1) : ∃ t',(P.step i t).1.ts = P.ts.set i t'/\Run1 N E L i (P.step i t).1 (nextG g P i t) t':=by
 have hi:=(List.getElem?_eq_some_iff.1 h.at_).1;obtain ⟨e1,e2,e3⟩:=h.a.i.elen h.at_ h.b;rcases h.a.i.outs h.at_ h.b with ⟨_,t',o2,o3,_⟩ | o | ⟨o,_⟩
 ·exact ⟨t',o2,h.a.step h.at_ h.b,h.a.i.uqStep h.uq h.at_ h.b,by rw [e3]; exact h.sw,⟨by rw [step_len]; exact h.len.1,by rw [e1]; exact h.len.2⟩,by rw [e2]; exact h.lim,by rw [o2]; simp [hi],o3⟩
 ·rw [o] at h1; exact absurd h1 (by decide)
 ·rw [o] at h1; exact absurd h1 (by decide)
theorem Run1.last (h : Run1 N E L i P g t) (hn : t.work.next = 13) (hS : Solo P i) {ps' : List (Int × Int)} {n' e' c' : Int} (hr : Rt g c' = ps') (hrm : P.mem.room.1 = n'/\P.mem.room.2 = e') (hc : P.clock = c'/\c'<=L) : QT N E L (P.iter i 1) ps' n' e' c'/\(P.th i).work.ans = t.work.ans:=by
 have hi:=(List.getElem?_eq_some_iff.1 h.at_).1;have hth : P.th i = t:=by unfold PSt.th; rw [h.at_]; rfl
 refine ⟨?_,by rw [hth]⟩;rw [iter_succ h.at_ 0];show QT N E L (P.step i t).1 ps' n' e' c';have hs : (P.step i t).1 = { P with ts:=P.ts.set i t.leave }:=by unfold PSt.step; simp only [hn]; rfl
 have hA:=h.a.step h.at_ h.b;rw [nextG_no (fun q=>by have:=q.1; omega)] at hA;have huq:=h.a.i.uqStep h.uq h.at_ h.b;rw [hs] at hA huq ⊢;refine ⟨⟨g,hA,hr⟩,huq,?_,h.sw,h.len,hrm,hc.1,h.lim,hc.2⟩;intro u hu;obtain ⟨j,hj⟩:=List.mem_iff_getElem?.1 hu;have hj : (P.ts.set i t.leave)[j]? = some u:=hj;rw [List.getElem?_set] at hj;by_cases ej : i = j
 ·subst ej; simp [hi] at hj; subst hj; rfl
 ·rw [if_neg ej] at hj; exact hS j u hj (fun e=>ej e.symm)
theorem wantOf_rd {κ n e c kd ky : Int} {sp : List (Int × Int)} (hk : kd = 3\/kd = 4) (k : PWork) (h1 : k.kind = kd) (h2 : kd = 3->k.key = ky) (h3 : kd = 4->k.spans = sp) (h4 : k.time = c) : readAns ps k = wantOf κ L n e c ps kd ky sp:=by
 have hu : shUpd ps kd ky = false:=by
  unfold shUpd;rcases hk with e | e <;> subst e <;> simp
 unfold wantOf readAns shAns;rw [hu,h1,h4];rcases hk with q | q
 ·subst q;simp [h2 rfl]
 ·subst q;simp only [h3 rfl];unfold answerOf;by_cases hl : lensOf (spanLists sp ps) > 64
  ·simp [hl]
  ·simp [hl]
structure RdA (n e c : Int) (ps : List (Int × Int)) (kd ky : Int) (sp : List (Int × Int)) (g : Gh) (P : PSt) (k : PWork) : Prop where
 op : k.kind = kd/\(kd = 3->k.key = ky)/\(kd = 4->k.spans = sp)
 rm : P.mem.room.1 = n/\P.mem.room.2 = e
 ck : P.clock = c
 rt : Rt g c = ps
 tm : 3<=k.next->k.time = c
theorem RdA.step (h : RdA n e c ps kd ky sp g P t.work) (hA : All g P) (hkd : kd = 3\/kd = 4) (ht : P.ts[i]? = some t) (hb : t.busy = true) (h1 : (P.step i t).2 = 1) {t' : PThread} (hts : (P.step i t).1.ts = P.ts.set i t') :
  RdA n e c ps kd ky sp (nextG g P i t) (P.step i t).1 t'.work:=by
 have hI:=hA.i;have hi:=(List.getElem?_eq_some_iff.1 ht).1;have hk : t.work.kind = 3\/t.work.kind = 4:=by rw [h.op.1]; exact hkd
 have hrd:=(hI.th i t ht).rd hb hk;have nT : ¬ Took P t:=fun q=>by have:=q.2.1; omega
 have rs:=hI.roomSame ht hb (by omega) (by omega);have hck:=hI.clockStep ht hb;rw [if_neg nT] at hck;rw [nextG_no nT];have mk : ∀ {k' : PWork},t'.work = k'->k'.kind = t.work.kind->k'.key = t.work.key->k'.spans = t.work.spans->(3<=k'.next->k'.time = c)->RdA n e c ps kd ky sp g (P.step i t).1 t'.work:=by
  intro k' e0 e1 e2 e3 e4;rw [e0];exact ⟨by rw [e1,e2,e3]; exact h.op,by rw [rs]; exact h.rm,by rw [hck]; exact h.ck,h.rt,e4⟩
 have set : ∀ {w : PThread},(P.step i t).1.ts = P.ts.set i w->t' = w:=by
  intro w hw;have : (P.ts.set i t')[i]? = (P.ts.set i w)[i]?:=by rw [<- hts,hw]
  simp [hi] at this; exact this
 obtain ⟨P',m,hs,ho⟩:=hI.out ht hb;have hs1 : (P.step i t).1 = P':=by rw [hs]
 rw [hs] at h1;cases ho with
 | come1 hn=>exact mk (congrArg PThread.work (set (congrArg PSt.ts hs1))) rfl rfl rfl (fun q=>by have : 3<=2:=q; omega)
 | come2 hn=>exact mk (congrArg PThread.work (set (congrArg PSt.ts hs1))) rfl rfl rfl (fun _=>h.ck)
 | come3 hn=>exact mk (congrArg PThread.work (set (congrArg PSt.ts hs1))) rfl rfl rfl (fun _=>h.tm (by omega))
 | leave=>exact absurd h1 (show ¬ (3 : Int) = 1 by decide)
 | rwait=>exact absurd h1 (show ¬ (2 : Int) = 1 by decide)
 | lwait=>exact absurd h1 (show ¬ (2 : Int) = 1 by decide)
 | rgo hn hk' hp k ek hsk=>exact mk (congrArg PThread.work (set (congrArg PSt.ts hs1))) hsk.1 hsk.2.2.2.1 hsk.2.2.2.2.2.1 (fun _=>hsk.2.2.1.trans (h.tm (by omega)))
 | walkOn hn hk'=>omega
 | walkEnd hn hk'=>omega
 | lock hn hk'=>omega
 | home hn hk'=>omega
 | same hn hk'=>omega
 | right hn hk'=>omega
 | full hn hk'=>omega
 | prepI hn hk'=>omega
 | prepR hn hk'=>omega
 | late hn hk'=>omega
 | takeI hn hk'=>omega
 | takeR hn hk'=>omega
 | kill hn hk'=>omega
 | link hn hk'=>omega
 | stamp hn hk'=>omega
 | unlock hn hk'=>omega
end
end T
end
section
namespace T
section
variable {g g' : Gh} {i j : Nat} {t t' u : PThread} {P P' Q : PSt} {T N E L n e c kd ky va : Int} {ps sp : List (Int × Int)} {k : PWork}
theorem newWork_key (h : kd = 1\/kd = 2\/kd = 3) : (newWork kd ky va sp).key = ky:=by
 rcases h with e | e | e <;> subst e <;> simp [newWork]
theorem newWork_value {ky va : Int} {sp : List (Int × Int)} : (newWork 1 ky va sp).value = va:=by simp [newWork]
theorem newWork_spans : (newWork 4 ky va sp).spans = sp:=by simp [newWork]
theorem QT.op (h : QT N E L P ps n e c) (hN : 0<=N/\N<=64) (ht : P.ts[i]? = some t) (hp : properB kd ky sp = true) :
  ∃ m : Nat,(m : Int) < N + 16/\(∀ j,j < m->(P.setT i { t with busy:=true,work:=newWork kd ky va sp }).how i j = 1)/\(P.setT i { t with busy:=true,work:=newWork kd ky va sp }).how i m = 3 /\
   (((P.setT i { t with busy:=true,work:=newWork kd ky va sp }).iter i m).th i).work.ans = wantOf 1 L n e c ps kd ky sp /\
   QT N E L ((P.setT i { t with busy:=true,work:=newWork kd ky va sp }).iter i (m + 1)) (if doneOf 1 L n e c ps kd ky then shNew ps kd ky va else ps) (if doneOf 1 L n e c ps kd ky then n - spendN 1 kd else n) (if doneOf 1 L n e c ps kd ky then e - spendE 1 kd else e) (if doneOf 1 L n e c ps kd ky then c + 1 else c):=by
 obtain ⟨g,hA,hr⟩:=h.ex;have hi:=(List.getElem?_eq_some_iff.1 ht).1;have htb:=h.idle t (List.mem_of_getElem? ht);have hA1:=hA.begin (va:=va) ht htb hp;obtain ⟨w1,w2,w3,_⟩:=newWork_ok (va:=va) hp;obtain ⟨P1,hP1⟩ : ∃ P1,P1 = P.setT i { t with busy:=true,work:=newWork kd ky va sp }:=⟨_,rfl⟩;rw [<- hP1] at hA1 ⊢;have e1 : P1.mem = P.mem/\P1.clock = P.clock/\P1.limit = P.limit/\P1.sweep = P.sweep/\P1.ts = P.ts.set i { t with busy:=true,work:=newWork kd ky va sp }:=by rw [hP1]; exact ⟨rfl,rfl,rfl,rfl,rfl⟩
 obtain ⟨f1,f2,f3,f4,f5⟩:=e1;have ht1 : P1.ts[i]? = some { t with busy:=true,work:=newWork kd ky va sp }:=by rw [f5]; simp [hi]
 have hS : Solo P1 i:=by
  intro j u hj hne;rw [f5,List.getElem?_set_ne (Ne.symm hne)] at hj;exact h.idle u (List.mem_of_getElem? hj)
 have hck:=h.ck;have hrun : Run1 N E L i P1 g { t with busy:=true,work:=newWork kd ky va sp }:=⟨hA1,by rw [f1]; exact h.uq,by rw [f4]; exact h.sw,by rw [f1]; exact h.len,by rw [f3]; exact hck.2.1,ht1,rfl⟩;have hlen : P1.mem.ns.length = N.toNat + 2:=by rw [f1]; exact h.len.1
 -- the measure at its beginning
 have hphi : phi (N.toNat + 2) g P1.mem P1.clock P1.ts 0 { t with busy:=true,work:=newWork kd ky va sp }<=N.toNat + 16:=by
  by_cases hk : kd = 3\/kd = 4
  ·rw [phi_r3 (t:={ t with busy:=true,work:=newWork kd ky va sp }) rfl (by show (newWork kd ky va sp).kind = 3\/(newWork kd ky va sp).kind = 4; rw [w2]; exact hk) (by show (newWork kd ky va sp).next<=3; omega)];show N.toNat + 2 + 7 - (newWork kd ky va sp).next<=_
   omega
  ·rw [phi_u3 (t:={ t with busy:=true,work:=newWork kd ky va sp }) rfl (by show ¬ ((newWork kd ky va sp).kind = 3\/(newWork kd ky va sp).kind = 4); rw [w2]; exact hk) (by show (newWork kd ky va sp).next<=3; omega)];show N.toNat + 2 + 15 - (newWork kd ky va sp).next + 0 * _<=_
   omega
 by_cases hk : kd = 3\/kd = 4
 ·-- a read
  obtain ⟨m,m1,m2,m3,⟨g2,t2,z1,z2⟩,g',t',a1,a2,a3,a4,a5⟩:=solo_end (i:=i) (fun Q=>∃ g t,Run1 N E L i Q g t/\RdA n e c ps kd ky sp g Q t.work) (by
   rintro Q t ⟨g,t0,q1,q2⟩ hQ hb h1;have e0 : t0 = t:=by have:=q1.at_; rw [hQ] at this; injection this with this; exact this.symm
   subst e0;obtain ⟨t',o1,o2⟩:=q1.step h1;exact ⟨_,t',o2,q2.step q1.a hk q1.at_ q1.b h1 o1⟩) (N.toNat + 16) P1 g _ hA1 hS ht1 rfl hlen hphi ⟨g,_,hrun,by
    refine ⟨⟨w2,fun e=>?_,fun e=>?_⟩,by rw [f1]; exact h.rm,by rw [f2]; exact hck.1,hr,fun q=>?_⟩
    ·show (newWork kd ky va sp).key = ky; exact newWork_key (by omega)
    ·subst e; exact newWork_spans (ky:=ky) (va:=va)
    ·have : 3<=(newWork kd ky va sp).next:=q; omega⟩
  have et : t2 = t':=by have:=z1.at_; rw [a3] at this; injection this with this; exact this.symm
  subst et;have han:=(z1.a.r i t2 z1.at_).an a4 (by rw [z2.op.1]; exact hk) a5;rw [z2.tm (by omega),z2.rt] at han;have hwant:=wantOf_rd (κ:=1) (L:=L) (n:=n) (e:=e) (ps:=ps) hk t2.work z2.op.1 z2.op.2.1 z2.op.2.2 (z2.tm (by omega));have hdn : doneOf 1 L n e c ps kd ky = false:=by
   unfold doneOf shUpd;rcases hk with q | q <;> subst q <;> simp
  obtain ⟨l1,l2⟩:=z1.last a5 a2 z2.rt z2.rm ⟨z2.ck,hck.2.2⟩;refine ⟨m,by omega,m2,m3,by rw [l2,han,hwant],?_⟩;rw [hdn];have e2 : (P1.iter i m).iter i 1 = P1.iter i (m + 1):=rfl;rw [<- e2]; exact l1
 ·-- an update
  have hkd : kd = 1\/kd = 2:=by omega
  obtain ⟨m,m1,m2,m3,⟨g2,t2,z1,z2⟩,g',t',a1,a2,a3,a4,a5⟩:=solo_end (i:=i) (fun Q=>∃ g t,Run1 N E L i Q g t/\Ph L n e c ps kd ky va g Q t.work) (by
   rintro Q t ⟨g,t0,q1,q2⟩ hQ hb h1;have e0 : t0 = t:=by have:=q1.at_; rw [hQ] at this; injection this with this; exact this.symm
   subst e0;obtain ⟨t',o1,o2⟩:=q1.step h1;obtain ⟨t'',o3,_,o5⟩:=q2.step q1.a hkd q1.at_ q1.b q1.lim hck.2.2 h1;have hi':=(List.getElem?_eq_some_iff.1 hQ).1;have ee : t'' = t':=by
    have : (Q.ts.set i t'')[i]? = (Q.ts.set i t')[i]?:=by rw [<- o3,o1]
    simp [hi'] at this; exact this
   subst ee;exact ⟨_,t'',o2,o5⟩) (N.toNat + 16) P1 g _ hA1 hS ht1 rfl hlen hphi ⟨g,_,hrun,by
    refine ⟨⟨w2,newWork_key (by omega),fun e=>by subst e; exact newWork_value (ky:=ky) (va:=va) (sp:=sp)⟩,fun _=>⟨by rw [f1]; exact h.rm,by rw [f2]; exact hck.1,hr⟩,fun q=>?_,fun q=>?_,fun q=>?_,fun q=>?_⟩
    ·have : (newWork kd ky va sp).next = 7\/(newWork kd ky va sp).next = 8:=q; omega
    ·have : (newWork kd ky va sp).next = 8:=q; omega
    ·have : 9<=(newWork kd ky va sp).next:=q; omega
    ·have : 12<=(newWork kd ky va sp).next:=q; omega⟩
  have et : t2 = t':=by have:=z1.at_; rw [a3] at this; injection this with this; exact this.symm
  subst et;have e2 : (P1.iter i m).iter i 1 = P1.iter i (m + 1):=rfl;have hspn : wantOf 1 L n e c ps kd ky sp = wantOf 1 L n e c ps kd ky []:=by
   unfold wantOf shAns;rcases hkd with q | q <;> subst q <;> simp
  rcases z2.p12 (by omega) with z | z
  ·have hse : spendErr 1 L kd n e c = 0:=by
    have:=z.en
    unfold spendErr; rw [if_neg (by omega),if_neg (by omega)]
   have hdn : doneOf 1 L n e c ps kd ky = true:=by unfold doneOf; rw [z.u,hse]; rfl
   obtain ⟨l1,l2⟩:=z1.last a5 a2 z.rt z.rm ⟨z.ck,by have:=z.en; omega⟩;refine ⟨m,by omega,m2,m3,?_,?_⟩
   ·rw [l2,z.an];unfold wantOf shAns;rw [z.u,hse];rcases hkd with q | q <;> subst q <;> simp
   ·rw [hdn,<- e2]; exact l1
  ·obtain ⟨l1,l2⟩:=z1.last a5 a2 z.rt z.rm ⟨z.ck,hck.2.2⟩;refine ⟨m,by omega,m2,m3,by rw [l2,z.an,hspn],?_⟩;rw [z.d,<- e2]; exact l1
theorem QT.fresh (hN : 0<=N) (hE : 1<=E) (hL : 0<=L) : QT N E L (freshP 1 T N E L) [] N (E - 1) 0:=by
 obtain ⟨h1,h2,h3,h4⟩:=inv_fresh (T:=T) (N:=N) (L:=L) hE;have hel : (freshP 1 T N E L).mem.es.length = E.toNat:=by
  show (freshMem N.toNat E.toNat).es.length = _;unfold freshMem PMem.stampNew;rw [stamp_elen,stamp_elen,addLink_elen]
  simp
 have hw:=fresh_seen N.toNat E.toNat (by omega);have hm : (freshP 1 T N E L).mem = freshMem N.toNat E.toNat:=rfl;refine ⟨⟨newG,⟨h1,h2,h3⟩,?_⟩,uq_fresh hE,?_,rfl,⟨h4,hel⟩,⟨?_,?_⟩,rfl,rfl,hL⟩
 ·show Rt newG 0 = [];unfold Rt newG;simp [Tr.rows]
 ·intro t ht; rw [(List.mem_replicate.1 ht).2]; rfl
 ·have:=room1_of (M:=(freshP 1 T N E L).mem) [0,1] (by simp) (by
   intro x;rw [hm];simp only [Us];rw [hw.2.2.1];by_cases e0 : x = 0
   ·subst e0; simp [linked,anchorNode]
   ·by_cases e1 : x = 1
    ·subst e1; simp [endNode]
    ·simp [e0,e1,PNode.zero])
  rw [this,h4];show ((N.toNat + 2 : Nat) : Int) - 2 = N;omega
 ·have hsl : ∀ x s,SL (freshP 1 T N E L).mem x s≠[] ↔ (x,s) ∈ [((0 : Int),false)]:=by
   intro x s;simp only [List.mem_singleton,Prod.mk.injEq];constructor
   ·intro hne;obtain ⟨st,hst⟩:=List.exists_mem_of_ne_nil _ hne;obtain ⟨d,hd⟩:=mem_SL.1 hst;rw [hm] at hd
    have:=(hw.2.2.2.2 _ _ _ _).1 hd
    exact ⟨this.1,this.2.1⟩
   ·rintro ⟨rfl,rfl⟩ e0;have : (0 : Int) ∈ SL (freshP 1 T N E L).mem 0 false:=mem_SL.2 ⟨1,by rw [hm]; exact (hw.2.2.2.2 _ _ _ _).2 ⟨rfl,rfl,rfl,rfl⟩⟩;rw [e0] at this; cases this
  have:=room2_of (M:=(freshP 1 T N E L).mem) (fun x s=>by rw [hm]; exact hw.2.2.2.1 x s) [((0 : Int),false)] (by simp) hsl (by
   intro x s;refine nodup_one (uq_fresh hE x s) ?_;intro a ha b hb;obtain ⟨da,ha⟩:=mem_SL.1 ha;obtain ⟨db,hb⟩:=mem_SL.1 hb;rw [hm] at ha hb;have e1:=((hw.2.2.2.2 _ _ _ _).1 ha).2.2.1;have e2:=((hw.2.2.2.2 _ _ _ _).1 hb).2.2.1;rw [e1,e2])
  rw [this,hel];show ((E.toNat : Nat) : Int) - 1 = E - 1;omega
theorem tquiets (hN : 0<=N/\N<=64) (hE : 1<=E/\E<=256) (hL : 0<=L/\L<=1099511627776) : Quiets 1 T N E L (QT N E L) where
 fresh:=QT.fresh hN.1 hE.1 hL.1
 room:=fun h=>h.room hN hE hL
 idle:=fun h=>h.idle
 op:=fun _ _ _ _ h ht hp=>h.op hN ht hp
 sweep:=fun h=>h.sweeps hN.1 hE.1
end
end T
end
section
namespace T
def tk (d : DeedV) : Int:=if d.a.did = true then (if d.op.kind = 1 then 1 else if d.op.kind = 2 then -1 else 0) else 0
section
variable {g g' : Gh} {i j : Nat} {t : PThread} {P : PSt} {D D' : PlD} {o : OpV} {T N E L : Int}
instance (P : PSt) (t : PThread) : Decidable (Took P t):=inferInstanceAs (Decidable (_/\_))
end
end T
end
section
namespace T
structure FrJ (T N E L : Int) (t0 : PThread) (ps : List (Int × Int)) (D : PlD) : Prop where
 ex : ∃ g,All g D.P/\Rt g t0.work.time = ps
 len : D.P.mem.ns.length = N.toNat + 2
 ok : D.ok
 cfg : D.k = 1/\D.t = T/\D.n = N/\D.e = E/\D.l = L
 at0 : D.P.ts[0]? = some t0
section
variable {g : Gh} {i j b k : Nat} {t t0 : PThread} {P : PSt} {N E L T c kd ky : Int} {ps sp : List (Int × Int)} {D D' : PlD} {o : OpV}
theorem nextG_old (g : Gh) (P : PSt) (i : Nat) (t : PThread) {T : Int} (hT : T<=P.clock) : Rt (nextG g P i t) T = Rt g T:=by
 unfold Rt;have : (nextG g P i t).V T = g.V T:=by
  unfold nextG;split
  ·split
   ·show (if T = P.clock + 1 then _ else _) = _;rw [if_neg (by omega)]
   ·show (if T = P.clock + 1 then _ else _) = _;rw [if_neg (by omega)]
  ·rfl
 rw [this]
theorem fr_plays (hb0 : t0.busy = true) (hk0 : t0.work.kind = 3\/t0.work.kind = 4) (hn0 : t0.work.next = 4) : Plays treeKin 1 T N E L (FrJ T N E L t0 ps):=by
 refine ⟨fun h=>by obtain ⟨g,h1,_⟩:=h.ex; exact ⟨_,g,h1,h.len,Nat.le_refl _⟩,fun h=>h.ok,fun h=>h.cfg,?_,?_,?_,?_⟩
 ·intro D D' i t h hfit ht hb hi hs;obtain ⟨g,hA,hp⟩:=h.ex;have h0:=((hA.i.th 0 t0 h.at0).tm hb0 (by omega)).1;refine ⟨⟨nextG g D.P i t,by rw [hs.P]; exact hA.step ht hb,by rw [nextG_old g D.P i t h0]; exact hp⟩,by rw [hs.P,step_len]; exact h.len,ok_step h.ok ht hb hs,cfg_trans hs.cfg h.cfg,?_⟩;obtain ⟨t',h1,_⟩:=step_work ht hb;rw [hs.P,h1,List.getElem?_set_ne (by omega)]; exact h.at0
 ·intro D D' i t o h ht hi hB;obtain ⟨g,hA,hp⟩:=h.ex;by_cases hh : t.busy = true\/properB o.kind o.key o.spans = false
  ·have e:=(hB.no hh).1;exact ⟨⟨g,by rw [e]; exact hA,hp⟩,by rw [e]; exact h.len,ok_begin h.ok hB,cfg_trans hB.cfg h.cfg,by rw [e]; exact h.at0⟩
  ·simp only [not_or,Bool.not_eq_true,Bool.not_eq_false] at hh;have e:=(hB.yes hh.1 hh.2).1;refine ⟨⟨g,by rw [e]; exact hA.begin ht hh.1 hh.2,hp⟩,by rw [e]; exact h.len,ok_begin h.ok hB,cfg_trans hB.cfg h.cfg,?_⟩;rw [e];show (D.P.ts.set i _)[0]? = _;rw [List.getElem?_set_ne (by omega)]; exact h.at0
 ·intro D L' h;obtain ⟨g,hA,hp⟩:=h.ex;refine ⟨⟨sweepG g D.P,hA.sweep,?_⟩,?_,?_,h.cfg,?_⟩
  ·unfold Rt at hp ⊢;rw [sweepG_V]; exact hp
  ·show D.P.doSweep.1.mem.ns.length = _;rw [sweep_len]; exact h.len
  ·show D.bs = D.P.doSweep.1.ts.map (·.busy);rw [sweep_tsEq]; exact h.ok
  ·show D.P.doSweep.1.ts[0]? = _;rw [sweep_tsEq]; exact h.at0
 ·intro D i t h hi ht _;have : i = 0:=by omega
  subst this;rw [h.at0] at ht; injection ht with ht; subst ht
  exact hk0
structure RdZ (k0 : PWork) (ps : List (Int × Int)) (Q : PSt) (g : Gh) (t : PThread) : Prop where
 a : All g Q
 at_ : Q.ts[0]? = some t
 b : t.busy = true
 kd : t.work.kind = k0.kind/\t.work.key = k0.key/\t.work.spans = k0.spans/\t.work.time = k0.time
 nx : t.work.next = 4\/t.work.next = 13
 rt : Rt g k0.time = ps
theorem RdZ.step {k0 : PWork} (h : RdZ k0 ps P g t) (hk : k0.kind = 3\/k0.kind = 4) (h1 : (P.step 0 t).2 = 1) : ∃ g' t',RdZ k0 ps (P.step 0 t).1 g' t':=by
 have hi:=(List.getElem?_eq_some_iff.1 h.at_).1;have hkt : t.work.kind = 3\/t.work.kind = 4:=by rw [h.kd.1]; exact hk
 have hnx:=h.nx;have htm:=((h.a.i.th 0 t h.at_).tm h.b (by omega)).1;rw [h.kd.2.2.2] at htm;have hA:=h.a.step h.at_ h.b;have hr : Rt (nextG g P 0 t) k0.time = ps:=by rw [nextG_old g P 0 t htm]; exact h.rt
 obtain ⟨P',m,hs,ho⟩:=h.a.i.out h.at_ h.b;have hs1 : (P.step 0 t).1 = P':=by rw [hs]
 rw [hs] at h1;rw [hs1] at hA ⊢;cases ho with
 | rgo hn hk' hp k ek hsk=>exact ⟨_,{ t with work:=k },hA,by show (P.ts.set 0 _)[0]? = _; rw [List.getElem?_set_self hi],h.b,⟨hsk.1.trans h.kd.1,hsk.2.2.2.1.trans h.kd.2.1,hsk.2.2.2.2.2.1.trans h.kd.2.2.1,hsk.2.2.1.trans h.kd.2.2.2⟩,hsk.2.1,hr⟩
 | leave=>exact absurd h1 (show ¬ (3 : Int) = 1 by decide)
 | rwait=>exact absurd h1 (show ¬ (2 : Int) = 1 by decide)
 | lwait=>exact absurd h1 (show ¬ (2 : Int) = 1 by decide)
 | come1 hn=>omega
 | come2 hn=>omega
 | come3 hn=>omega
 | walkOn hn hk'=>omega
 | walkEnd hn hk'=>omega
 | lock hn hk'=>omega
 | home hn hk'=>omega
 | same hn hk'=>omega
 | right hn hk'=>omega
 | full hn hk'=>omega
 | prepI hn hk'=>omega
 | prepR hn hk'=>omega
 | late hn hk'=>omega
 | takeI hn hk'=>omega
 | takeR hn hk'=>omega
 | kill hn hk'=>omega
 | link hn hk'=>omega
 | stamp hn hk'=>omega
 | unlock hn hk'=>omega
theorem FrJ.solo (hb0 : t0.busy = true) (hk0 : t0.work.kind = 3\/t0.work.kind = 4) (hn0 : t0.work.next = 4) (hN : 0<=N) (h : FrJ T N E L t0 ps D) (hst : Still 1 D) : ∃ m : Nat,(m : Int) < N + 16/\(∀ j,j < m->D.P.how 0 j = 1)/\D.P.how 0 m = 3/\((D.P.iter 0 m).th 0).work.ans = readAns ps t0.work:=by
 obtain ⟨g,hA,hp⟩:=h.ex;have hS : Solo D.P 0:=fun j u hj hne=>hst j u (by omega) hj
 have hle : rs g t0.work<=(g.V t0.work.time).size/\(g.V t0.work.time).size + 1<=N.toNat + 2:=by
  obtain ⟨hv,a0,a1⟩:=hA.v.rd 0 t0 h.at0 ⟨hb0,hk0,by omega,by omega⟩;have hg:=hA.v.gts _ a0 a1;have hsz:=hv.size hg.dj hg.z;refine ⟨?_,by rw [h.len] at hsz; omega⟩;unfold rs;rcases hk0 with hr | hr
  ·rw [if_pos hr];have e1:=Tr.len_size (k:=t0.work.key) (g.V t0.work.time);have e2:=Tr.rem_len (k:=t0.work.key) (g.V t0.work.time) t0.work.stand;split <;> omega
  ·rw [if_neg (by omega)];obtain ⟨W,w1,_,w3,_⟩:=(hA.r 0 t0 h.at0).sc hb0 hr hn0;rw [Stk.lsz hg.dj hg.z w1]; exact w3
 obtain ⟨m,m1,m2,m3,⟨g2,t2,z⟩,g',t',a1,a2,a3,a4,a5⟩:=solo_end (i:=0) (fun Q=>∃ g t,RdZ t0.work ps Q g t) (by
  rintro Q t ⟨g,t1,q⟩ hQ hb h1;have e0 : t1 = t:=by have:=q.at_; rw [hQ] at this; injection this with this; exact this.symm
  subst e0;exact q.step hk0 h1) (N.toNat + 16) D.P g t0 hA hS h.at0 hb0 h.len (by rw [phi_r4 hb0 hk0 hn0]; omega) ⟨g,t0,hA,h.at0,hb0,⟨rfl,rfl,rfl,rfl⟩,.inl hn0,hp⟩
 have et : t2 = t':=by have:=z.at_; rw [a3] at this; injection this with this; exact this.symm
 subst et;have han:=(z.a.r 0 t2 z.at_).an z.b (by rw [z.kd.1]; exact hk0) a5;refine ⟨m,by omega,m2,m3,?_⟩;have hth : (D.P.iter 0 m).th 0 = t2:=by unfold PSt.th; rw [z.at_]; rfl
 rw [hth,han,z.kd.2.2.2,z.rt];unfold readAns;rw [z.kd.1,z.kd.2.1,z.kd.2.2.1,z.kd.2.2.2]
structure Fz2 (T N E L : Int) (b k : Nat) (ps : List (Int × Int)) (c kd ky : Int) (sp : List (Int × Int)) (t : PThread) (D : PlD) : Prop where
 ex : ∃ g,All g D.P/\Rt g c = ps
 at0 : D.P.ts[0]? = some t
 tb : t.busy = true
 nx : t.work.next = k + 1
 qd : t.work.kind = kd
 qy : kd = 3->t.work.key = ky
 qs : kd = 4->t.work.spans = sp
 ck : D.P.clock = c
 tm : 2<=k->t.work.time = c
 len : D.P.mem.ns.length = N.toNat + 2
 ok : D.ok
 cfg : D.k = 1/\D.t = T/\D.n = N/\D.e = E/\D.l = L
 sz : Sz b D
theorem Fz2.next (h : Fz2 T N E L b k ps c kd ky sp t D) (hk : k < 3) : (D.P.step 0 t).2 = 1/\∀ D',Stepped D 0 t D'->∃ t',Fz2 T N E L (b + 1) (k + 1) ps c kd ky sp t' D':=by
 obtain ⟨g,hA,hp⟩:=h.ex;have hi:=(List.getElem?_eq_some_iff.1 h.at0).1;have hnx:=h.nx;have ho : (D.P.step 0 t).2 = 1/\(D.P.step 0 t).1.clock = D.P.clock/\∃ t',(D.P.step 0 t).1.ts = D.P.ts.set 0 t'/\t'.busy = true/\t'.work.next = k + 2/\t'.work.kind = t.work.kind/\t'.work.key = t.work.key/\t'.work.spans = t.work.spans/\(1<=k->t'.work.time = c):=by
  rcases (show k = 0\/k = 1\/k = 2 by omega) with e | e | e
  ·have hn : t.work.next = 1:=by omega
   have hs : D.P.step 0 t = (D.P.setT 0 { t with slot:=1,work:={ t.work with next:=2 } },1):=by unfold PSt.step; simp only [hn]
   rw [hs];exact ⟨rfl,rfl,_,rfl,h.tb,by show 2 = k + 2; omega,rfl,rfl,rfl,fun q=>by omega⟩
  ·have hn : t.work.next = 2:=by omega
   have hs : D.P.step 0 t = (D.P.setT 0 { t with work:={ t.work with time:=D.P.clock,next:=3 } },1):=by unfold PSt.step; simp only [hn]
   rw [hs];exact ⟨rfl,rfl,_,rfl,h.tb,by show 3 = k + 2; omega,rfl,rfl,rfl,fun _=>h.ck⟩
  ·have hn : t.work.next = 3:=by omega
   have hs : D.P.step 0 t = (D.P.setT 0 { t with slot:=2,work:=t.work.home },1):=by unfold PSt.step; simp only [hn]
   rw [hs];exact ⟨rfl,rfl,_,rfl,h.tb,by show 4 = k + 2; omega,rfl,rfl,rfl,fun _=>h.tm (by omega)⟩
 obtain ⟨o1,o2,t',o3,o4,o5,o6,o7,o8,o9⟩:=ho;refine ⟨o1,fun D' hs=>⟨t',?_⟩⟩;refine ⟨⟨nextG g D.P 0 t,by rw [hs.P]; exact hA.step h.at0 h.tb,by rw [nextG_old g D.P 0 t (by rw [h.ck]; exact Int.le_refl _)]; exact hp⟩,by rw [hs.P,o3]; simp [hi],o4,by omega,o6.trans h.qd,fun e=>o7.trans (h.qy e),fun e=>o8.trans (h.qs e),by rw [hs.P,o2]; exact h.ck,fun q=>o9 (by omega),by rw [hs.P,step_len]; exact h.len,ok_step h.ok h.at0 h.tb hs,cfg_trans hs.cfg h.cfg,h.sz.step hs⟩
theorem Fz2.fr (h : Fz2 T N E L b 3 ps c kd ky sp t D) : FrJ T N E L t ps D:=by
 obtain ⟨g,hA,hp⟩:=h.ex;exact ⟨⟨g,hA,by rw [h.tm (by omega)]; exact hp⟩,h.len,h.ok,h.cfg,h.at0⟩
theorem FrJ.lay (h : FrJ T N E L t0 ps D) (L' : ZLay) : FrJ T N E L t0 ps { D with L:=L' }:=⟨h.ex,h.len,h.ok,h.cfg,h.at0⟩
theorem FrJ.slots (h : FrJ T N E L t0 ps D) (hn0 : t0.work.next = 4) (hst : Still 1 D) : (∀ t ∈ D.P.ts,t.slot≠1)/\D.P.sweep.made<=D.P.ts.length + 2:=by
 obtain ⟨g,hA,_⟩:=h.ex;refine ⟨?_,hA.i.o.sm⟩;intro t ht;obtain ⟨j,hj⟩:=List.mem_iff_getElem?.1 ht;rw [(hA.i.th j t hj).sl];by_cases h1 : 1<=j
 ·rw [if_neg (by rw [hst j t h1 hj]; exact fun q=>nomatch q.1)]; decide
 ·have : j = 0:=by omega
  subst this;rw [h.at0] at hj; injection hj with hj; subst hj
  split
  ·rw [if_neg (by omega)]; decide
  ·decide
theorem QT.begun {n e va : Int} (hq : QT N E L D.P ps n e c) (hok : D.ok) (hcf : D.k = 1/\D.t = T/\D.n = N/\D.e = E/\D.l = L) (hs : Sz b D) (hp : properB kd ky sp = true) (hkd : kd = 3\/kd = 4) (ht : D.P.ts[0]? = some t) {sv : Value} (hB : Begun D 0 t ⟨kd,ky,va,sp,sv⟩ D') : Fz2 T N E L (b + 1) 0 ps c kd ky sp { t with busy:=true,work:=newWork kd ky va sp } D':=by
 have hl:=(List.getElem?_eq_some_iff.1 ht).1;have htb : t.busy = false:=hq.idle t (List.mem_of_getElem? ht);obtain ⟨g,hA,hr⟩:=hq.ex;obtain ⟨y1,y2,y3,y4,y5,y6⟩:=hB.yes htb hp;obtain ⟨w1,w2,_⟩:=newWork_ok (va:=va) hp;refine ⟨⟨g,by rw [y1]; exact hA.begin ht htb hp,hr⟩,?_,rfl,w1,w2,fun e=>?_,fun e=>?_,?_,fun q=>by omega,?_,ok_begin hok hB,cfg_trans hB.cfg hcf,hs.begin hB⟩
 ·rw [y1]; simp [PSt.setT,hl]
 ·show (newWork kd ky va sp).key = ky;exact newWork_key (by omega)
 ·subst e; exact newWork_spans (ky:=ky) (va:=va)
 ·rw [y1]; exact hq.ck.1
 ·rw [y1]; exact hq.len.1
end
end T
end
end Go.Proofs.YtfccelbmacjifabGreat
