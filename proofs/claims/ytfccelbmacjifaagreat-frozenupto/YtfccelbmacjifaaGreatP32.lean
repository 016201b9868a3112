import Derived.Test.YtfccelbmacjifaaGreatP0
import Derived.Test.YtfccelbmacjifaaGreatP31
import Derived.Test.YtfccelbmacjifaaGreatP2
import Derived.Test.YtfccelbmacjifaaGreatP24
set_option linter.unusedSimpArgs false
set_option maxRecDepth 100000
set_option maxHeartbeats 4000000
namespace Go.Proofs.YtfccelbmacjifaaGreat
section
structure FrJ (T N E L : Int) (t0 : PThread) (ps : List (Int × Int)) (D : PlD) : Prop where
 ex : ∃ C Rt Vt,Inv C D.P/\InvV C Rt Vt D.P/\InvR Rt Vt D.P/\Rt t0.work.time = ps
 len : D.P.mem.ns.length = N.toNat + 2
 ok : D.ok
 cfg : D.k = 0/\D.t = T/\D.n = N/\D.e = E/\D.l = L
 at0 : D.P.ts[0]? = some t0
section
variable {C : Int->Prop} {Rt : Int->List (Int × Int)} {Vt : Int->Int->Prop} {i j : Nat} {t t0 : PThread} {P : PSt} {N E L T : Int} {ps : List (Int × Int)} {D D' : PlD} {o : OpV}
theorem invv_step (h : Inv C P) (hV : InvV C Rt Vt P) (hR : InvR Rt Vt P) (ht : P.ts[i]? = some t) (hb : t.busy = true) : ∃ Rt' Vt',InvV (nextC C t) Rt' Vt' (P.step i t).1/\InvR Rt' Vt' (P.step i t).1/\∀ T,T<=P.clock->Rt' T = Rt T:=by
 rcases hV.step h ht hb with ⟨_,q⟩ | ⟨_,_,_,_,q,_⟩
 ·exact ⟨Rt,Vt,q,hR.step hV h ht hb (fun _ _=>⟨rfl,rfl⟩),fun _ _=>rfl⟩
 ·have hold : ∀ T,T<=P.clock->nextR Rt P t T = Rt T/\nextV Vt P t T = Vt T:=by
   intro T hT;unfold nextR nextV;rw [if_neg (by omega),if_neg (by omega)];exact ⟨rfl,rfl⟩
  exact ⟨_,_,q,hR.step hV h ht hb hold,fun T hT=>(hold T hT).1⟩
theorem fr_plays (hb0 : t0.busy = true) (hk0 : t0.work.kind = 3\/t0.work.kind = 4) (hn0 : t0.work.next = 4) : Plays 1 T N E L (FrJ T N E L t0 ps):=by
 refine ⟨fun h=>by obtain ⟨C,_,_,h1,_⟩:=h.ex; exact ⟨C,h1⟩,fun h=>h.len,fun h=>h.ok,fun h=>h.cfg,?_,?_,?_,?_⟩
 ·intro D D' i t h hfit ht hb hi hs;obtain ⟨C,Rt,Vt,hC,hV,hR,hp⟩:=h.ex;obtain ⟨Rt',Vt',g1,g2,g3⟩:=invv_step hC hV hR ht hb;have h0:=((hC.th 0 t0 h.at0).tm hb0 (by omega)).1;refine ⟨⟨nextC C t,Rt',Vt',by rw [hs.P]; exact hC.step ht hb,by rw [hs.P]; exact g1,by rw [hs.P]; exact g2,by rw [g3 _ h0]; exact hp⟩,by rw [hs.P,step_len hC.kind]; exact h.len,ok_step hC.kind h.ok ht hb hs,cfg_trans hs.cfg h.cfg,?_⟩;obtain ⟨t',h1,_⟩:=step_work hC.kind ht hb;rw [hs.P,h1,List.getElem?_set_ne (by omega)]; exact h.at0
 ·intro D D' i t o h ht hi hB;obtain ⟨C,Rt,Vt,hC,hV,hR,hp⟩:=h.ex;obtain ⟨g1,g2⟩:=inv_begin hC ht hB;refine ⟨⟨C,Rt,Vt,g1,?_,?_,hp⟩,by rw [g2]; exact h.len,ok_begin h.ok hB,cfg_trans hB.cfg h.cfg,?_⟩
  ·by_cases hh : t.busy = true\/properB o.kind o.key o.spans = false
   ·rw [(hB.no hh).1]; exact hV
   ·simp only [not_or,Bool.not_eq_true,Bool.not_eq_false] at hh;rw [(hB.yes hh.1 hh.2).1];exact hV.begin ht hh.1 (newWork_ok (va:=o.value) hh.2).1
  ·by_cases hh : t.busy = true\/properB o.kind o.key o.spans = false
   ·rw [(hB.no hh).1]; exact hR
   ·simp only [not_or,Bool.not_eq_true,Bool.not_eq_false] at hh;rw [(hB.yes hh.1 hh.2).1];obtain ⟨r1,r2⟩:=newWork_rd (va:=o.value) hh.2;exact hR.begin ht (newWork_ok (va:=o.value) hh.2).1 r1 r2
  ·by_cases hh : t.busy = true\/properB o.kind o.key o.spans = false
   ·rw [(hB.no hh).1]; exact h.at0
   ·simp only [not_or,Bool.not_eq_true,Bool.not_eq_false] at hh;rw [(hB.yes hh.1 hh.2).1];show (D.P.ts.set i _)[0]? = _;rw [List.getElem?_set_ne (by omega)]; exact h.at0
 ·intro D L' h;obtain ⟨C,Rt,Vt,hC,hV,hR,hp⟩:=h.ex;refine ⟨⟨C,Rt,Vt,hC.sweep,hV.sweep hC,hR.sweep hV hC,hp⟩,?_,?_,h.cfg,?_⟩
  ·show D.P.doSweep.1.mem.ns.length = _;rw [sweep_len]; exact h.len
  ·show D.bs = D.P.doSweep.1.ts.map (·.busy);rw [sweep_ts]; exact h.ok
  ·show D.P.doSweep.1.ts[0]? = _;rw [sweep_ts]; exact h.at0
 ·intro D i t h hi ht _;have : i = 0:=by omega
  subst this;rw [h.at0] at ht; injection ht with ht; subst ht
  exact hk0
theorem wantOf_rd {n e c : Int} {kd ky : Int} {sp : List (Int × Int)} (hk : kd = 3\/kd = 4) (k : PWork) (h1 : k.kind = kd) (h2 : kd = 3->k.key = ky) (h3 : kd = 4->k.spans = sp) (h4 : k.time = c) : readAns ps k = wantOf 0 L n e c ps kd ky sp:=by
 have hu : shUpd ps kd ky = false:=by
  unfold shUpd;rcases hk with rfl | rfl <;> rfl
 unfold readAns wantOf shAns;simp only [hu,h1,h4,Bool.false_eq_true,if_false];rcases hk with rfl | rfl
 ·simp [h2 rfl]
 ·unfold answerOf;simp only [show ¬ (4 : Int) = 3 by decide,if_false,if_true,h3 rfl];by_cases hl : lensOf (spanLists sp ps) > 64
  ·simp only [if_pos hl]; simp
  ·simp only [if_neg hl]; simp
theorem solo_run {Lz : Nat} : ∀ (n : Nat) (P : PSt) (C : Int->Prop) (Rt : Int->List (Int × Int)) (Vt : Int->Int->Prop) (t : PThread),Inv C P->InvV C Rt Vt P->InvR Rt Vt P->P.ts[0]? = some t->t.busy = true->(t.work.kind = 3\/t.work.kind = 4)->(t.work.next = 4\/t.work.next = 13)->(∀ (j : Nat) u,1<=j->P.ts[j]? = some u->u.busy = false)->P.mem.ns.length = Lz->phi Lz P.mem C 0 t<=n->∃ m : Nat,m < n/\(∀ j,j < m->P.how 0 j = 1)/\P.how 0 m = 3/\((P.iter 0 m).th 0).work.ans = readAns (Rt t.work.time) t.work:=by
 intro n
 induction n with
 | zero =>
  intro P C Rt Vt t h hV hR ht hb hk hn _ _ hph;exfalso;rcases hn with hn | hn
  ·rw [phi_r4 hb hk hn] at hph; omega
  ·rw [phi_r13 hb hk hn] at hph; omega
 | succ n ih =>
  intro P C Rt Vt t h hV hR ht hb hk hn hid hlz hph;have hth:=th_of ht;rcases hn with hn | hn
  ·have hmv : (P.step 0 t).2≠2:=by
    obtain ⟨j,u,q1,q2,q3,_⟩:=h.live ht hb;have hj : j = 0:=by
     by_cases e : 1<=j
     ·rw [hid j u e q1] at q2; cases q2
     ·omega
    subst hj;rw [ht] at q1; injection q1 with q1; subst q1
    exact q3
   obtain ⟨t2,hnr⟩:=h.near hlz ht hb hmv;obtain ⟨k,hs,hkk⟩ : ∃ k : PWork,P.step 0 t = (P.setW 0 k,1)/\k.kind = t.work.kind/\k.key = t.work.key/\k.spans = t.work.spans/\k.time = t.work.time/\(k.next = 4\/k.next = 13):=by
    have hsm:=step_mid (i:=0) (t:=t) P (by omega) (by omega);rw [if_pos hk] at hsm;rw [hsm] at hmv ⊢;unfold PSt.read at hmv ⊢;simp only at hmv ⊢;split
    ·next e=>rw [if_pos e] at hmv; exact absurd rfl hmv
    ·refine ⟨_,rfl,?_⟩;split
     ·unfold PSt.lookUp;split
      ·exact ⟨rfl,rfl,rfl,rfl,.inl hn⟩
      ·exact ⟨rfl,rfl,rfl,rfl,.inr rfl⟩
     ·unfold PSt.scan;simp only;split
      ·exact ⟨rfl,rfl,rfl,rfl,.inr rfl⟩
      ·exact ⟨rfl,rfl,rfl,rfl,.inl hn⟩
   have hi:=(List.getElem?_eq_some_iff.1 ht).1;have hts : (P.step 0 t).1.ts = P.ts.set 0 { t with work:=k }:=by rw [hs]; show (P.setW 0 k).ts = _; rw [setW_to P ht]
   have ht2 : t2 = { t with work:=k }:=by
    have e:=hnr.ts;rw [hts] at e;have : (P.ts.set 0 { t with work:=k })[0]? = (P.ts.set 0 t2)[0]?:=by rw [e]
    simp [hi] at this;exact this.symm
   have hlt:=hnr.lt 0 0 (Nat.le_refl _);rw [ht2] at hlt;obtain ⟨Rt',Vt',g1,g2,g3⟩:=invv_step h hV hR ht hb;have htm:=((h.th 0 t ht).tm hb (by omega)).1;obtain ⟨k1,k2,k3,k4,k5⟩:=hkk;obtain ⟨m,m1,m2,m3,m4⟩:=ih (P.step 0 t).1 (nextC C t) Rt' Vt' { t with work:=k } (h.step ht hb) g1 g2 (by rw [hts]; simp [hi]) hb (by show k.kind = 3\/k.kind = 4; rw [k1]; exact hk) k5 (fun j u hj hu=>by
    rw [hts,List.getElem?_set_ne (by omega)] at hu;exact hid j u hj hu) (by rw [step_len h.kind]; exact hlz) (by omega)
   have hit : ∀ j,P.iter 0 (j + 1) = (P.step 0 t).1.iter 0 j:=by
    intro j
    induction j with
    | zero=>show ((P.iter 0 0).step 0 ((P.iter 0 0).th 0)).1 = _; show (P.step 0 (P.th 0)).1 = _; rw [hth]; rfl
    | succ j ihj =>
     show ((P.iter 0 (j + 1)).step 0 ((P.iter 0 (j + 1)).th 0)).1 = _;rw [ihj]; rfl
   have hho : ∀ j,P.how 0 (j + 1) = (P.step 0 t).1.how 0 j:=by
    intro j;unfold PSt.how;rw [hit]
   refine ⟨m + 1,by omega,?_,by rw [hho]; exact m3,?_⟩
   ·intro j hj;cases j with
    | zero=>show (P.step 0 (P.th 0)).2 = 1; rw [hth,hs]
    | succ j=>rw [hho]; exact m2 j (by omega)
   ·rw [hit,m4];show readAns (Rt' k.time) k = _;rw [k4,g3 _ htm];unfold readAns;rw [k1,k2,k3,k4]
  ·refine ⟨0,by omega,fun j hj=>by omega,?_,?_⟩
   ·show (P.step 0 (P.th 0)).2 = 3;rw [hth];unfold PSt.step;simp only [hn]
   ·show (P.th 0).work.ans = _;rw [hth];exact (hR 0 t ht).an hb hk hn
theorem FrJ.solo (hb0 : t0.busy = true) (hk0 : t0.work.kind = 3\/t0.work.kind = 4) (hn0 : t0.work.next = 4) (hN : 0<=N) (h : FrJ T N E L t0 ps D) (hst : Still 1 D) : ∃ m : Nat,(m : Int) < N + 16/\(∀ j,j < m->D.P.how 0 j = 1)/\D.P.how 0 m = 3/\((D.P.iter 0 m).th 0).work.ans = readAns ps t0.work:=by
 obtain ⟨C,Rt,Vt,hC,hV,hR,hp⟩:=h.ex;have hwp:=wp_le (L:=N.toNat + 2) (by omega) D.P.mem C (rx t0.work);obtain ⟨m,m1,m2,m3,m4⟩:=solo_run (N.toNat + 3) D.P C Rt Vt t0 hC hV hR h.at0 hb0 hk0 (.inl hn0) (fun j u hj hu=>hst j u hj hu) h.len (by rw [phi_r4 hb0 hk0 hn0]; omega);exact ⟨m,by omega,m2,m3,by rw [<- hp]; exact m4⟩
end
end
section
open Go.ChangeShapes Go.WideShapes Go.ChangeAt Go.RowKit Go.Joins Go.Deep
end
section
open Go.RowKit
section
variable {W w w1 : World} {own : Own} {pb : Nat} {D : PlD} {f b : Nat} {J Q : PlD->Prop} {T Nn E L : Int}
end
end
section
open Go.RowKit
def PuAt (w : World) (b : Nat) (n e c : Int) : Prop:=At w b [.int .i64 n,.int .i64 e,.int .i64 c] 86
section
variable {own : Own} {z : Nat} {w w' : World} {pb b : Nat} {D D1 : PlD} {i j : Nat}
theorem isUpdate_calls (kind key value : Int) (sv : Value) (w : World) :
  Calls Tryz.prog 54 #[opVal kind key value sv] w fun r w'=>r = .returned (.bool (kind == 1 || kind == 2))/\Fr (fun _=>False) w w':=by
 unfold opVal;have HF:=(mkH (∀ o,Fr (fun _=>False) w (w.alloc o)) <|fun o=>(Fr.refl _ _).alloc _);by_cases h1 : kind = 1
 ·subst h1
  go_enter Tryz.func54,Tryz.ntmps54
  go_wp2;go_ret;exact ⟨rfl,HF.out _⟩
 ·have h1' : (kind == 1) = false:=by simpa using h1
  by_cases h2 : kind = 2
  ·subst h2;clear h1 h1'
   go_enter Tryz.func54,Tryz.ntmps54
   go_wp2;go_ret;exact ⟨rfl,HF.out _⟩
  ·have h2' : (kind == 2) = false:=by simpa using h2
   have HE : Hid ((kind == 1 || kind == 2) = false):=by show _ = _; simp [h1',h2']
   clear h1 h2
   go_enter Tryz.func54,Tryz.ntmps54
   go_wp2;go_ret;exact ⟨ret_bool HE.out.symm,HF.out _⟩
theorem purse_calls (k t n e l : Int) (w : World) (he : 0<=e/\e<=256) :
  Calls Tryz.prog 42 #[cfg k t n e l] w fun r w'=>∃ b,r = .returned (pv b)/\PuAt w' b n (e - 1) 0/\w.heap.size<=b/\b < w'.heap.size/\Fr (fun _=>False) w w':=by
 obtain ⟨he1,he2⟩:=he;unfold cfg pv;have HF:=(mkH (∀ o o',Fr (fun _=>False) w ((w.alloc o).alloc o')) <|fun o o'=>((Fr.refl _ _).alloc _).alloc _);have HA:=(mkH (∀ o,At ((w.alloc o).alloc (.cells #[.int .i64 n,.int .i64 (e - 1),.int .i64 0] 86)) (w.alloc o).heap.size [.int .i64 n,.int .i64 (e - 1),.int .i64 0] 86) <|fun o=>At.new _ _ _)
 go_enter Tryz.func42,Tryz.ntmps42
 go_wp2;go_ret;exact ⟨w.heap.size + 1,rfl,At.newAt (by simp) _ _,by omega,by simp,HF.out _ _⟩
def Spent (k l kind n e c : Int) (b : Nat) (w' : World) : Prop:=if spendErr k l kind n e c = 0 then PuAt w' b (n - spendN k kind) (e - spendE k kind) (c + 1) else PuAt w' b n e c
theorem Spent.not {k l kind n e c x : Int} (he : spendErr k l kind n e c = x) (hx : x≠0) (h : PuAt w b n e c) : Spent k l kind n e c b w:=by unfold Spent; rw [if_neg (by omega)]; exact h
theorem Spent.yes {k l kind n e c : Int} (he : spendErr k l kind n e c = 0) (h : PuAt w b (n - spendN k kind) (e - spendE k kind) (c + 1)) : Spent k l kind n e c b w:=by unfold Spent; rw [if_pos he]; exact h
theorem PuAt.setN {n e c n' : Int} (h : PuAt w b n e c) : PuAt (w.setCell ⟨b,0,none⟩ (.int .i64 n')) b n' e c:=At.set h 0 _
theorem PuAt.setE {n e c e' : Int} (h : PuAt w b n e c) : PuAt (w.setCell ⟨b,1,none⟩ (.int .i64 e')) b n e' c:=At.set h 1 _
theorem PuAt.setC {n e c c' : Int} (h : PuAt w b n e c) : PuAt (w.setCell ⟨b,2,none⟩ (.int .i64 c')) b n e c':=At.set h 2 _
theorem spend_calls {n e c : Int} (h : PuAt w b n e c) (hn : 0<=n/\n<=64) (he : 0<=e/\e<=256) (hc : 0<=c/\c<=2 ^ 41) (k t n' e' l kind key value : Int) (sv : Value) (hk : k = 0\/k = 1) :
  Calls Tryz.prog 79 #[pv b,cfg k t n' e' l,opVal kind key value sv] w fun r w'=>r = .returned (.int .i64 (spendErr k l kind n e c))/\Fr (fun k=>k = b) w w' /\
   Spent k l kind n e c b w':=by
 obtain ⟨hn1,hn2⟩:=hn;obtain ⟨he1,he2⟩:=he;obtain ⟨hc1,hc2⟩:=hc;have hlt : b < w.heap.size:=At.lt h;have HS : Hid (∀ o o',PuAt ((w.alloc o).alloc o') b n e c/\∀ n e c,PuAt ((((((w.setCell ⟨b,0,none⟩ (.int .i64 n)).setCell ⟨b,1,none⟩ (.int .i64 e)).setCell ⟨b,2,none⟩ (.int .i64 c)).alloc o).alloc o').drew) b n e c):=by
  exact fun o o'=>⟨At.alloc (At.alloc h _) _,fun n e c=>At.drew (At.alloc (At.alloc (((h.setN).setE).setC) _) _)⟩
 have HF : Hid (∀ o o',Fr (fun k=>k = b) w ((w.alloc o).alloc o')/\∀ n e c,Fr (fun k=>k = b) w ((((((w.setCell ⟨b,0,none⟩ (.int .i64 n)).setCell ⟨b,1,none⟩ (.int .i64 e)).setCell ⟨b,2,none⟩ (.int .i64 c)).alloc o).alloc o').drew)) :=
  fun o o'=>⟨((Fr.refl _ _).alloc _).alloc _,fun n e c=>Fr.drew (((((((Fr.refl _ _).set1 _ _).set1 _ _).set1 _ _).alloc _).alloc _))⟩
 have hb:=h.cell;have hfz:=h.frozen;have hne1 : b≠w.heap.size:=by omega
 have hne2 : w.heap.size≠b:=by omega
 have hne3 : b≠w.heap.size + 1:=by omega
 have hne4 : w.heap.size + 1≠b:=by omega
 have hk1 : 0<=k/\k<=1:=by omega
 obtain ⟨hk2,hk3⟩:=hk1;clear hk h;unfold opVal cfg pv;by_cases h1 : kind = 1
 ·subst h1;by_cases h2 : n < 1 + k
  ·have HE : Hid (spendErr k l 1 n e c = 7):=by show _ = _; unfold spendErr spendN; simp [h2]
   have hd : decide (n < 1 + k) = true:=by simpa using h2
   go_enter Tryz.func79,Tryz.ntmps79
   go_wp2;go_ret;exact ⟨by rw [HE.out]; rfl,(HF.out _ _).1,.not HE.out (by decide) (HS.out _ _).1⟩
  ·have hd : decide (n < 1 + k) = false:=by simpa using h2
   by_cases h3 : e < 2 + k
   ·have HE : Hid (spendErr k l 1 n e c = 7):=by show _ = _; unfold spendErr spendE; simp [h3]
    have hd2 : decide (e < 2 + k) = true:=by simpa using h3
    go_enter Tryz.func79,Tryz.ntmps79
    go_wp2;go_ret;exact ⟨by rw [HE.out]; rfl,(HF.out _ _).1,.not HE.out (by decide) (HS.out _ _).1⟩
   ·have hd2 : decide (e < 2 + k) = false:=by simpa using h3
    by_cases h4 : c = l
    ·have HE : Hid (spendErr k l 1 n e c = 8):=by show _ = _; unfold spendErr spendE spendN; rw [if_neg (by simp; omega),if_pos h4]
     have h4' : (c == l) = true:=by simpa using h4
     clear h4
     go_enter Tryz.func79,Tryz.ntmps79
     go_wp2;go_region;go_wp2;go_ret;exact ⟨by rw [HE.out]; rfl,(HF.out _ _).1.drew,.not HE.out (by decide) (HS.out _ _).1.drew⟩
    ·have HE : Hid (spendErr k l 1 n e c = 0):=by show _ = _; unfold spendErr spendE spendN; rw [if_neg (by simp; omega),if_neg h4]
     have h4' : (c == l) = false:=by simpa using h4
     clear h4
     go_enter Tryz.func79,Tryz.ntmps79
     go_wp2;go_region;go_wp2;go_ret;exact ⟨by rw [HE.out]; rfl,(HF.out _ _).2 _ _ _,.yes HE.out ((HS.out _ _).2 _ _ _)⟩
 ·have h1' : (kind == 1) = false:=by simpa using h1
  have HK : Hid (spendN k kind = 0/\spendE k kind = 1):=⟨if_neg h1,if_neg h1⟩;clear h1;have hd : decide (n < 0) = false:=by simp; omega
  by_cases h3 : e < 1
  ·have HE : Hid (spendErr k l kind n e c = 7):=by show _ = _; unfold spendErr; rw [HK.out.1,HK.out.2]; simp [h3]
   have hd2 : decide (e < 1) = true:=by simpa using h3
   go_enter Tryz.func79,Tryz.ntmps79
   go_wp2;go_ret;exact ⟨by rw [HE.out]; rfl,(HF.out _ _).1,.not HE.out (by decide) (HS.out _ _).1⟩
  ·have hd2 : decide (e < 1) = false:=by simpa using h3
   by_cases h4 : c = l
   ·have HE : Hid (spendErr k l kind n e c = 8):=by show _ = _; unfold spendErr; rw [HK.out.1,HK.out.2,if_neg (by omega),if_pos h4]
    have h4' : (c == l) = true:=by simpa using h4
    clear h4
    go_enter Tryz.func79,Tryz.ntmps79
    go_wp2;go_region;go_wp2;go_ret;exact ⟨by rw [HE.out]; rfl,(HF.out _ _).1.drew,.not HE.out (by decide) (HS.out _ _).1.drew⟩
   ·have HE : Hid (spendErr k l kind n e c = 0):=by show _ = _; unfold spendErr; rw [HK.out.1,HK.out.2,if_neg (by omega),if_neg h4]
    have h4' : (c == l) = false:=by simpa using h4
    clear h4
    go_enter Tryz.func79,Tryz.ntmps79
    go_wp2;go_region;go_wp2;go_ret;exact ⟨by rw [HE.out]; rfl,(HF.out _ _).2 _ _ _,.yes HE.out (by rw [HK.out.1,HK.out.2,Int.sub_zero]; exact (HS.out _ _).2 _ _ _)⟩
end
end
section
open Go.RowKit
section
variable {own : Own} {z : Nat} {w w' : World} {pb : Nat} {D D1 : PlD} {i j : Nat}
theorem Prest_calls (h : PlAt own z w pb D) (r : Nat) (hr : r < D.P.ts.length + 3) (hmv : ∀ j,j < r->D.P.swHow j = 1) (hend : D.P.swHow r = 3) :
  Calls Tryz.prog 58 #[pv pb] w fun e w'=>e = .returned (.bool true)/\PlGoes own z w pb w' (SwN D (r + 1)):=by
 have hT : (D.t : Int)<=64/\0<=D.t:=by have:=h.thr; have:=h.fit.thr; omega
 obtain ⟨T,hTe⟩ : ∃ T,Hid (T = D.P.ts.length):=⟨_,rfl⟩;have hTt : Hid (D.t = T):=by show D.t = T; rw [hTe.out]; exact h.thr
 have hTb : T<=64:=by have:=hTt.out; omega
 have hrT : r < T + 3:=by rw [hTe.out]; exact hr
 have H:=(mkH (PlAt own z w pb D) <|h);have HM:=(mkH (∀ j,j < r->D.P.swHow j = 1) <|hmv);have HE:=(mkH (D.P.swHow r = 3) <|hend);have HS:=(mkH (∀ j (own1 : Own) (w1 : World) (D1 : PlD),PlAt own1 z w1 pb D1->Ext own own1 w->FrP own z w w1->SwN D j D1->Calls Tryz.prog 73 #[pv D1.L.s] w1 fun r w2=>r = .returned (.int .i64 (D.P.swHow j))/\PlGoes own z w pb w2 (SwN D (j + 1))) <|by
  intro j own1 w1 D1 h1 hE hF hS;obtain ⟨L1,e1,rfl⟩:=hS;refine (ZSweep_fit h1.st h1.fit).mono ?_;rintro r w2 ⟨rfl,hG⟩;have hf:=(h1.fit.sweep h1.st.mem.nsmall).1;obtain ⟨own2,L2,hP2,hE2,hF2,e2⟩:=h1.store hG hf (by rw [sweep_ts]);exact ⟨rfl,PlGoes.trans hE hF ⟨own2,_,hP2,hE2,hF2,L2,e2.trans e1,rfl⟩⟩)
 clear h hmv hend hT hTe hr;unfold pv at HS ⊢
 go_enter Tryz.func58,Tryz.ntmps58
 go_wp2
 go_loopw [3] (fun v wr=>∃ j : Nat,j<=r/\v = .int .i64 j/\Hid (PlGoes own z w pb wr (SwN D j))) (fun v _=>r + 1 - (intOf v).toNat)
 case atStart=>exact ⟨0,by omega,rfl,own,D,H.out,Ext.refl _ _,Fr.refl _ _,D.L,rfl,rfl⟩
 case round =>
  clear H;obtain ⟨j,hj,rfl,HG⟩:=hrel;obtain ⟨own1,D1,hP,hE,hF,hI⟩:=HG.out;have ha:=hP.at_.cell;have HC:=(mkH (PlAt own1 z wr pb D1/\Ext own own1 w/\FrP own z w wr/\SwN D j D1) <|⟨hP,hE,hF,hI⟩);have ht : D1.t = T:=by obtain ⟨L1,_,rfl⟩:=hI; exact hTt.out
  simp only [PlD.cells,ht,pv] at ha;clear hP hE hF hI HG ht;by_cases hlt : j < r
  ·have h1:=HM.out j hlt;go_wp2_with fail;refine (HS.out j own1 wr D1 HC.out.1 HC.out.2.1 HC.out.2.2.1 HC.out.2.2.2).mono ?_;rw [h1];rintro r w2 ⟨rfl,hG2⟩;have HG2:=(mkH (PlGoes own z w pb w2 (SwN D (j + 1))) <|hG2);clear hG2 h1;go_wp2
   go_roundw
   case rel=>exact ⟨j + 1,by omega,by go_num,HG2⟩
   case measure=>simp [intOf]; omega
  ·have hjm : Hid (j = r):=by show j = r; omega
   have h1 : D.P.swHow j = 3:=by rw [hjm.out]; exact HE.out
   go_wp2_with fail;refine (HS.out j own1 wr D1 HC.out.1 HC.out.2.1 HC.out.2.2.1 HC.out.2.2.2).mono ?_;rw [h1];rintro e w2 ⟨rfl,hG2⟩;have HG2:=(mkH (PlGoes own z w pb w2 (SwN D (r + 1))) <|by rw [<- show j + 1 = r + 1 by rw [hjm.out]]; exact hG2);clear hG2 h1;go_wp2;go_ret;exact ⟨rfl,HG2.out⟩
theorem whole_calls (w : World) : Calls Tryz.prog 49 #[] w fun e w'=>∃ va vc,e = .returned (opVal 4 0 0 (.slice va 1 vc))/\OwnSpans w w' (.slice va 1 vc) [(0,1099511627776)]:=by
 go_enter Tryz.func49,Tryz.ntmps49
 go_wp2_with fail;generalize hw1 : World.alloc (World.alloc w _) _ = w1;have hA : At w1 w.heap.size [.int .i64 4,.int .i64 0,.int .i64 0,.slice (some ⟨w.heap.size + 1,0,none⟩) 1 1] 82:=by subst hw1; exact (At.new w _ _).alloc _
 have hB : At w1 (w.heap.size + 1) [.int .i64 0,.int .i64 1099511627776] 138:=by subst hw1; exact At.newAt (by simp) _ _
 have hF : Fr (fun _=>False) w w1:=by subst hw1; exact ((Fr.refl _ _).alloc _).alloc _
 have f0:=hA.cell;have HO : OwnSpans w w1 (.slice (some ⟨w.heap.size + 1,0,none⟩) 1 1) [(0,1099511627776)]:=by
  refine ⟨⟨rfl,.inr ⟨w.heap.size + 1,1,_,rfl,Nat.zero_le _,hB,Nat.le_refl _,by unfold maxLen; decide,rfl,rfl⟩⟩,?_,hF⟩;intro k hk;simp [Value.ownBlock] at hk;omega
 clear hw1 hA hB hF;refine bodyPost_ret (v:=opVal 4 0 0 (.slice (some ⟨w.heap.size + 1,0,none⟩) 1 1)) (by simp [results,Tryz.results49,go_sem,opVal,f0]) rfl ⟨_,_,rfl,HO⟩
end
end
section
open Go.RowKit
section
variable {D D' : PlD} {i j : Nat} {t : PThread} {T N E L : Int}
theorem proper_whole : properB 4 0 [(0,1099511627776)] = true:=by decide
end
end
section
open Go.RowKit
section
variable {own : Own} {z : Nat} {w w' : World} {pb b : Nat} {D D' : PlD} {i j : Nat} {t : PThread} {T N E L : Int} {ps : List (Int × Int)} {o : OpV}
theorem Sz.eq {b : Nat} (h : Sz b D) (h1 : D'.N<=D.N) (h2 : D'.deeds = D.deeds) (h3 : D'.puts = D.puts) (h4 : D'.takes = D.takes) : Sz b D':=by
 unfold Sz at *;rw [h2,h3,h4]; omega
end
end
section
open Go.RowKit
def ShAt (w : World) (sb : Nat) (a : Option Addr) (c : Nat) (ps : List (Int × Int)) : Prop:=At w sb [.slice a ps.length c] 72/\PairsAt w a ps
section
variable {w w' : World} {sb : Nat} {a : Option Addr} {c : Nat} {ps : List (Int × Int)}
theorem ShAt.calm (h : ShAt w sb a c ps) (hf : Fr (fun _=>False) w w') : ShAt w' sb a c ps:=⟨hf.at h.1 (fun h=>h),h.2.calm hf⟩
theorem shValue_calls (h : ShAt w sb a c ps) (key : Int) (hsm : ps.length<=2 ^ 20) :
  Calls Tryz.prog 83 #[pv sb,.int .i64 key] w fun r w'=>r = .returned (.tuple #[.int .i64 (shVal ps key).1,.bool (shVal ps key).2])/\w' = w:=by
 have HP:=(mkH (PairsAt w a ps) <|h.2);have hc:=h.1.cell;clear h;unfold pv
 go_enter Tryz.func83,Tryz.ntmps83
 go_wp2
 go_loopw [6] (fun v wr=>∃ j : Nat,j<=ps.length/\v = .int .i64 j/\wr = w/\Hid (∀ p ∈ ps.take j,p.1≠key)) (fun v _=>ps.length - (intOf v).toNat)
 case atStart=>exact ⟨0,by omega,rfl,rfl,fun p hp=>by simp at hp⟩
 case round =>
  obtain ⟨j,hj,rfl,rfl,HN⟩:=hrel;by_cases hlt : j < ps.length
  ·have hx : Hid (ps[j]? = some ps[j]):=List.getElem?_eq_getElem hlt;generalize ps[j] = x at hx;obtain ⟨g,rfl,c0,c1⟩:=HP.out j x hx.out;by_cases hk : x.1 = key
   ·have hk' : (x.1 == key) = true:=by simpa using hk
    have HV : Hid (shVal ps key = (x.2,true)):=shVal_hit HN.out hx.out hk;clear hk;go_wp2;go_ret2;exact ⟨by rw [HV.out]; rfl,rfl⟩
   ·have hk' : (x.1 == key) = false:=by simpa using hk
    have HN2 : Hid (∀ p ∈ ps.take (j + 1),p.1≠key):=by
     intro p hp;rw [List.take_add_one,hx.out] at hp;rcases List.mem_append.1 hp with hp | hp
     ·exact HN.out p hp
     ·simp at hp; subst hp; exact hk
    clear hk;go_wp2
    go_roundw
    case rel=>exact ⟨j + 1,by omega,by go_num,trivial,HN2⟩
    case measure=>simp [intOf]; omega
  ·have HV : Hid (shVal ps key = (0,false)):=shVal_miss (by have:=HN.out; rwa [List.take_of_length_le (by omega)] at this);go_wp2;go_ret2;exact ⟨by rw [HV.out]; rfl,rfl⟩
theorem without_calls (h : ShAt w sb a c ps) (key : Int) (below : Bool) (hsm : ps.length<=2 ^ 20) :
  Calls Tryz.prog 84 #[pv sb,.int .i64 key,.bool below] w fun r w'=>∃ v,r = .returned v/\OwnPairs w w' v (ps.filter (shSide key below)):=by
 obtain ⟨iP,hiP,hzP,hsP,hbP⟩:=info_parts Tryz.infoPr;have HS:=(mkH (ShAt w sb a c ps) <|h);clear h;unfold pv
 go_enter Tryz.func84,Tryz.ntmps84
 go_wp2
 go_loopw [7,8] (fun v i wr=>∃ k : Nat,k<=ps.length/\i = .int .i64 k/\Hid (OwnPairs w wr v ((ps.take k).filter (shSide key below)))) (fun _ i _=>ps.length - (intOf i).toNat)
 case atStart=>exact ⟨0,Nat.zero_le _,rfl,⟨⟨by simp,.inl ⟨rfl,rfl⟩⟩,by intro k hk; simp [Value.ownBlock] at hk,Fr.refl _ _⟩⟩
 case round =>
  obtain ⟨k,hk,rfl,HO⟩:=hrel;have hsr:=HS.out.calm HO.out.fr;have hc:=hsr.1.cell;have HA:=(mkH (PairsAt wr a ps) <|hsr.2);clear hsr;by_cases hlt : k < ps.length
  ·have hx : Hid (ps[k]? = some ps[k]):=List.getElem?_eq_getElem hlt;generalize ps[k] = x at hx;obtain ⟨g,rfl,c0,c1⟩:=HA.out k x hx.out;have HN:=(show Hid _ from filter_take hx.out (shSide key below));clear HA;cases hin : shSide key below x
   ·have HI:=(mkH (shSide key below x = false) <|hin);cases below
    ·have hd : decide (x.1 > key) = false:=by simpa [shSide] using hin
     clear hin;go_wp2
     go_roundw
     case rel=>exact ⟨k + 1,by omega,by go_num,by show OwnPairs _ _ _ _; rw [HN.out,HI.out]; simpa using HO.out⟩
     case measure=>simp [intOf]; omega
    ·have hd : decide (x.1 < key) = false:=by simpa [shSide] using hin
     clear hin;go_wp2
     go_roundw
     case rel=>exact ⟨k + 1,by omega,by go_num,by show OwnPairs _ _ _ _; rw [HN.out,HI.out]; simpa using HO.out⟩
     case measure=>simp [intOf]; omega
   ·have HI:=(mkH (shSide key below x = true) <|hin);have HFL:=(mkH (((ps.take k).filter (shSide key below)).length<=2 ^ 40) <|Nat.le_trans (List.length_filter_le _ _) (by rw [List.length_take]; omega));have HH : Hid (∀ (g' cap : Nat) (w3 : World) (ob : Obj),w3.ownsRow 0 147 2 (.slice (some ⟨g',0,none⟩) (((ps.take k).filter (shSide key below)).length + 1) cap) (((ps.take k).filter (shSide key below)).length + 1) (((ps.take k).filter (shSide key below)).flatMap pairCells ++ [.int .i64 x.1,.int .i64 x.2])->(wr.alloc ob).grownBy w3 u7.ownBlock->(u7.ownBlock = some g'\/wr.heap.size + 1<=g')->OwnPairs w w3 (.slice (some ⟨g',0,none⟩) (((ps.take k).filter (shSide key below)).length + 1) cap) ((ps.take (k + 1)).filter (shSide key below))):=by
     intro g' cap w3 ob hown hgr hge;rw [HN.out,HI.out];refine ⟨?_,?_,Fr.grown (HO.out.fr.alloc _) hgr (fun k hk=>.inr (HO.out.new k hk))⟩
     ·simpa [pairCells] using hown
     ·intro q hq;simp [Value.ownBlock] at hq;subst hq;rcases hge with h | h
      ·exact HO.out.new _ h
      ·have:=HO.out.fr.size; first | omega | (simp at h; omega)
    cases below
    ·have hd : decide (x.1 > key) = true:=by simpa [shSide] using hin
     clear hin;go_wp2_with (at_builtin; refine wpList_push _ rfl _ _ 58 rfl 0 147 iP _ 2 16 Tryz.underlying58 hiP hzP hsP hbP rfl (by decide) _ _ _ rfl (ownsRow_alloc HO.out.row _) wr.heap.size [.int .i64 x.1,.int .i64 x.2] rfl rfl 147 (At.newAt (by simp) _ _) (by simp [Value.oneCell']) (by have:=HFL.out; unfold maxLen; omega) (by have:=HFL.out; omega) (by simp) ?_);intro g' cap w3 hown hgr hge;have HO3:=(mkH (OwnPairs _ _ _ _) <|HH.out g' cap w3 _ hown hgr hge);clear hown hgr hge;go_wp2
     go_roundw
     case rel=>exact ⟨k + 1,by omega,by go_num,HO3⟩
     case measure=>simp [intOf]; omega
    ·have hd : decide (x.1 < key) = true:=by simpa [shSide] using hin
     clear hin;go_wp2_with (at_builtin; refine wpList_push _ rfl _ _ 58 rfl 0 147 iP _ 2 16 Tryz.underlying58 hiP hzP hsP hbP rfl (by decide) _ _ _ rfl (ownsRow_alloc HO.out.row _) wr.heap.size [.int .i64 x.1,.int .i64 x.2] rfl rfl 147 (At.newAt (by simp) _ _) (by simp [Value.oneCell']) (by have:=HFL.out; unfold maxLen; omega) (by have:=HFL.out; omega) (by simp) ?_);intro g' cap w3 hown hgr hge;have HO3:=(mkH (OwnPairs _ _ _ _) <|HH.out g' cap w3 _ hown hgr hge);clear hown hgr hge;go_wp2
     go_roundw
     case rel=>exact ⟨k + 1,by omega,by go_num,HO3⟩
     case measure=>simp [intOf]; omega
  ·have hke : k = ps.length:=by omega
   subst hke;rw [List.take_length] at HO;go_wp2;go_ret;exact ⟨_,rfl,HO.out⟩
theorem cut_calls (h : ShAt w sb a c ps) (sp : Int × Int) (hsm : ps.length<=2 ^ 20) :
  Calls Tryz.prog 85 #[pv sb,.agg #[.int .i64 sp.1,.int .i64 sp.2]] w fun r w'=>∃ v,r = .returned v/\OwnPairs w w' v (ps.filter (inSpan sp)):=by
 obtain ⟨iP,hiP,hzP,hsP,hbP⟩:=info_parts Tryz.infoPr;have HS:=(mkH (ShAt w sb a c ps) <|h);have HB0:=(mkH (At (w.alloc (.cells #[.int .i64 sp.1,.int .i64 sp.2] 138)) w.heap.size [.int .i64 sp.1,.int .i64 sp.2] 138) <|At.new w [.int .i64 sp.1,.int .i64 sp.2] _);have HF0:=(mkH (Fr (fun _=>False) w (w.alloc (.cells #[.int .i64 sp.1,.int .i64 sp.2] 138))) <|(Fr.refl _ _).alloc _);clear h;unfold pv
 go_enter Tryz.func85,Tryz.ntmps85
 go_wp2
 go_loopw [5,6] (fun v i wr=>∃ k : Nat,k<=ps.length/\i = .int .i64 k/\Hid (OwnPairs w wr v ((ps.take k).filter (inSpan sp)))/\Hid (At wr w.heap.size [.int .i64 sp.1,.int .i64 sp.2] 138)/\Hid (v.ownBlock≠some w.heap.size)) (fun _ i _=>ps.length - (intOf i).toNat)
 case atStart =>
  refine ⟨0,Nat.zero_le _,rfl,⟨⟨by simp,.inl ⟨rfl,rfl⟩⟩,by intro k hk; simp [Value.ownBlock] at hk,HF0.out⟩,HB0,?_⟩;show _≠_;simp [Value.ownBlock]
 case round =>
  clear HB0 HF0;obtain ⟨k,hk,rfl,HO,HB,HNB⟩:=hrel;have hbc:=HB.out.cell;have hsr:=HS.out.calm HO.out.fr;have hc:=hsr.1.cell;have HA:=(mkH (PairsAt wr a ps) <|hsr.2);clear hsr;by_cases hlt : k < ps.length
  ·have hx : Hid (ps[k]? = some ps[k]):=List.getElem?_eq_getElem hlt;generalize ps[k] = x at hx;obtain ⟨g,rfl,c0,c1⟩:=HA.out k x hx.out;have HN:=(show Hid _ from filter_take hx.out (inSpan sp));clear HA;have HNo : Hid (inSpan sp x = false->∀ w2,Fr (fun _=>False) wr w2->∃ k' : Nat,k'<=ps.length/\Value.int .i64 ((k : Int) + 1) = .int .i64 k'/\Hid (OwnPairs w w2 u5 ((ps.take k').filter (inSpan sp)))/\Hid (At w2 w.heap.size [.int .i64 sp.1,.int .i64 sp.2] 138)/\Hid (u5.ownBlock≠some w.heap.size)):=by
    intro hin w2 hw2;exact ⟨k + 1,by omega,by go_num,by show OwnPairs _ _ _ _; rw [HN.out,hin]; simpa using HO.out.calm hw2,hw2.at HB.out (fun h=>h),HNB⟩
   by_cases h1 : x.1 ≥ sp.1
   ·have h1' : decide (x.1 ≥ sp.1) = true:=by simpa using h1
    by_cases h2 : x.1<=sp.2
    ·have h2' : decide (x.1<=sp.2) = true:=by simpa using h2
     have HI : Hid (inSpan sp x = true):=by show _ = _; simp [inSpan,isIn]; omega
     clear h1 h2;have HFL:=(mkH (((ps.take k).filter (inSpan sp)).length<=2 ^ 40) <|Nat.le_trans (List.length_filter_le _ _) (by rw [List.length_take]; omega));go_wp2_with fail
     go_quiet (fail)
     have HO2:=(mkH (OwnPairs w (wr.drewN nq) u5 _) <|HO.out.calm ((Fr.refl _ _).drewN _));have HB2:=(mkH (At (wr.drewN nq) w.heap.size _ _) <|HB.out.drewN _);go_wp2_with (at_builtin; refine wpList_push _ rfl _ _ 58 rfl 0 147 iP _ 2 16 Tryz.underlying58 hiP hzP hsP hbP rfl (by decide) _ _ _ rfl (ownsRow_alloc HO2.out.row _) wr.heap.size [.int .i64 x.1,.int .i64 x.2] rfl rfl 147 (At.newAt (by simp) _ _) (by simp [Value.oneCell']) (by have:=HFL.out; unfold maxLen; omega) (by have:=HFL.out; omega) (by simp) ?_);intro g' cap w3 hown hgr hge;have HO3 : Hid (OwnPairs w w3 (.slice (some ⟨g',0,none⟩) (((ps.take k).filter (inSpan sp)).length + 1) cap) ((ps.take (k + 1)).filter (inSpan sp))):=by
      show OwnPairs _ _ _ _;rw [HN.out,HI.out];refine ⟨?_,?_,Fr.grown (HO2.out.fr.alloc _) hgr (fun k hk=>.inr (HO2.out.new k hk))⟩
      ·simpa [pairCells] using hown
      ·intro q hq;simp [Value.ownBlock] at hq;subst hq;rcases hge with h | h
       ·exact HO2.out.new _ h
       ·have:=HO.out.fr.size; first | omega | (simp at h; omega)
     have HB3 : Hid (At w3 w.heap.size [.int .i64 sp.1,.int .i64 sp.2] 138):=(Fr.grown (S:=fun j=>u5.ownBlock = some j) (Fr.refl _ _) hgr (fun j hj=>.inl hj)).at (HB2.out.alloc _) HNB.out;have HNB3 : Hid ((Value.slice (some ⟨g',0,none⟩) (((ps.take k).filter (inSpan sp)).length + 1) cap).ownBlock≠some w.heap.size):=by
      show _≠_;intro e;simp [Value.ownBlock] at e;subst e;rcases hge with h | h
      ·exact HNB.out h
      ·have:=HB.out.lt; first | omega | (simp at h; omega)
     clear hown hgr hge HO2 HB2 HNB;go_wp2
     go_roundw
     case rel=>exact ⟨k + 1,by omega,by go_num,HO3,HB3,HNB3⟩
     case measure=>simp [intOf]; omega
    ·have h2' : decide (x.1<=sp.2) = false:=by simpa using h2
     have HI : Hid (inSpan sp x = false):=by show _ = _; simp [inSpan,isIn]; omega
     clear h1 h2;go_wp2_with fail
     go_quiet (fail)
     go_wp2
     go_roundw
     case rel=>exact HNo.out HI.out _ ((Fr.refl _ _).drewN _)
     case measure=>simp [intOf]; omega
   ·have h1' : decide (x.1 ≥ sp.1) = false:=by simpa using h1
    have HI : Hid (inSpan sp x = false):=by show _ = _; simp [inSpan,isIn]; omega
    clear h1;go_wp2_with fail
    go_quiet (fail)
    go_wp2
    go_roundw
    case rel=>exact HNo.out HI.out _ ((Fr.refl _ _).drewN _)
    case measure=>simp [intOf]; omega
  ·have hke : k = ps.length:=by omega
   have HO' : Hid (OwnPairs w wr u5 (ps.filter (inSpan sp))):=by
    have:=HO.out
    rw [hke,List.take_length] at this;exact this
   clear HO hke;go_wp2;go_ret;exact ⟨u5,rfl,HO'.out⟩
end
end
section
open Go.RowKit
section
variable {w w' : World} {sb : Nat} {a : Option Addr} {c : Nat} {ps : List (Int × Int)}
def zeroAns : List Value:=[.int .i64 0,.bool false,.int .i64 0,.int .i64 0,.slice none 0 0]
theorem copy5 {w : World} {b : Nat} {a0 a1 a2 a3 a4 : Value} {T : TypeId} (h : At w b [a0,a1,a2,a3,a4] T) (v0 v1 v2 v3 v4 : Value) : At (((((w.setCell ⟨b,0,none⟩ v0).setCell ⟨b,1,none⟩ v1).setCell ⟨b,2,none⟩ v2).setCell ⟨b,3,none⟩ v3).setCell ⟨b,4,none⟩ v4) b [v0,v1,v2,v3,v4] T :=
 ((((h.set 0 v0).set 1 v1).set 2 v2).set 3 v3).set 4 v4
theorem frCopy5 {S : Nat->Prop} {w0 w : World} {b : Nat} (hb : w0.heap.size<=b) (h : Fr S w0 w) (v0 v1 v2 v3 v4 : Value) : Fr S w0 (((((w.setCell ⟨b,0,none⟩ v0).setCell ⟨b,1,none⟩ v1).setCell ⟨b,2,none⟩ v2).setCell ⟨b,3,none⟩ v3).setCell ⟨b,4,none⟩ v4) :=
 Fr.setNew hb (Fr.setNew hb (Fr.setNew hb (Fr.setNew hb (Fr.setNew hb h 0 v0) 1 v1) 2 v2) 3 v3) 4 v4
theorem does_start (w : World) (kind key value : Int) (sv : Value) : ∃ w1 : World,w1 = ((w.alloc (.cells #[.int .i64 kind,.int .i64 key,.int .i64 value,sv] 82)).alloc (.cells #[.int .i64 0,.bool false,.int .i64 0,.int .i64 0,.slice none 0 0] 93)).alloc (.cells #[.int .i64 0,.bool false,.int .i64 0,.int .i64 0,.slice none 0 0] 93)/\At w1 w.heap.size [.int .i64 kind,.int .i64 key,.int .i64 value,sv] 82/\At w1 (w.heap.size + 1) zeroAns 93/\At w1 (w.heap.size + 1 + 1) zeroAns 93/\Fr (fun _=>False) w w1/\w1.heap.size = w.heap.size + 3 :=
 ⟨_,rfl,((At.new w _ _).alloc _).alloc _,(At.newAt (by simp) _ _).alloc _,At.newAt (by simp) _ _,(((Fr.refl _ _).alloc _).alloc _).alloc _,by simp⟩
theorem does_look (h : ShAt w sb a c ps) (key value : Int) (sv : Value) (hsm : ps.length<=2 ^ 20) :
  Calls Tryz.prog 55 #[pv sb,opVal 3 key value sv] w fun r w'=>r = .returned (ansV { did:=(shVal ps key).2,value:=(shVal ps key).1 } (.slice none 0 0))/\Fr (fun _=>False) w w':=by
 have HS:=(mkH (ShAt w sb a c ps) <|h);clear h;have HC:=(mkH (∀ w1,ShAt w1 sb a c ps->Calls Tryz.prog 83 #[pv sb,.int .i64 key] w1 _) <|fun w1 h=>shValue_calls h key hsm);generalize shVal ps key = x at HC ⊢;obtain ⟨x1,x2⟩:=x;unfold pv at HC ⊢;unfold opVal
 go_enter Tryz.func55,Tryz.ntmps55
 go_wp2_with fail;obtain ⟨w1,e1,hO,hR,hV,hF,hs⟩:=does_start w 3 key value sv;rw [<- e1];refine (HC.out w1 (HS.out.calm hF)).mono ?_;rintro r w2 ⟨rfl,rfl⟩;clear e1;have ho:=hO.cell;have hr:=hR.cell;have hrz:=hR.frozen;have hv:=hV.cell;have hvz:=hV.frozen;have n1 : w.heap.size + 1≠w.heap.size + 1 + 1:=by omega
 have n2 : w.heap.size + 1 + 1≠w.heap.size + 1:=by omega
 have n3 : w.heap.size≠w.heap.size + 1 + 1:=by omega
 have n4 : w.heap.size + 1 + 1≠w.heap.size:=by omega
 have HF:=(mkH (Fr _ w w2) <|hF);have hf0:=(copy5 ((hR.setOther ⟨w.heap.size + 1 + 1,1,none⟩ n1 (.bool x2)).setOther ⟨w.heap.size + 1 + 1,2,none⟩ n1 (.int .i64 x1)) (.int .i64 0) (.bool x2) (.int .i64 x1) (.int .i64 0) (.slice none 0 0)).cell;unfold zeroAns at hr hv;clear hO hR hV hF;go_wp2;exact bodyPost_ret (v:=ansV { did:=x2,value:=x1 } (.slice none 0 0)) (by simp [results,Tryz.results55,go_sem,ansV,hf0]) rfl ⟨rfl,frCopy5 (by omega) (Fr.setNew (by omega) (Fr.setNew (by omega) HF.out _ _) _ _) _ _ _ _ _⟩
theorem does_not (h : ShAt w sb a c ps) (kind key value : Int) (sv : Value) (hsm : ps.length<=2 ^ 20) (hk : kind = 1\/kind = 2) (hd : (shVal ps key).2 = decide (kind = 1)) :
  Calls Tryz.prog 55 #[pv sb,opVal kind key value sv] w fun r w'=>r = .returned (ansV {} (.slice none 0 0))/\Fr (fun _=>False) w w':=by
 have HS:=(mkH (ShAt w sb a c ps) <|h);clear h;have HC:=(mkH (∀ w1,ShAt w1 sb a c ps->Calls Tryz.prog 83 #[pv sb,.int .i64 key] w1 _) <|fun w1 h=>shValue_calls h key hsm);generalize shVal ps key = x at HC hd ⊢;obtain ⟨x1,x2⟩:=x;simp only at hd;unfold pv at HC ⊢;unfold opVal;obtain ⟨w1,e1,hO,hR,hV,hF,hs⟩:=does_start w kind key value sv;have ho:=hO.cell;have hr:=hR.cell;have hrz:=hR.frozen;have hv:=hV.cell;have hvz:=hV.frozen;have n1 : w.heap.size + 1≠w.heap.size + 1 + 1:=by omega
 have n2 : w.heap.size + 1 + 1≠w.heap.size + 1:=by omega
 have n3 : w.heap.size≠w.heap.size + 1 + 1:=by omega
 have n4 : w.heap.size + 1 + 1≠w.heap.size:=by omega
 have HF:=(mkH (Fr _ w w1) <|hF);have hf0:=(copy5 (hR.setOther ⟨w.heap.size + 1 + 1,1,none⟩ n1 (.bool false)) (.int .i64 0) (.bool false) (.int .i64 0) (.int .i64 0) (.slice none 0 0)).cell;unfold zeroAns at hr hv;have E1:=(mkH (_ = _) <|e1);clear hO hR hV hF e1;rcases hk with rfl | rfl
 ·simp at hd;subst hd
  go_enter Tryz.func55,Tryz.ntmps55
  go_wp2_with fail;rw [<- E1.out];refine (HC.out w1 (HS.out.calm HF.out)).mono ?_;rintro r w2 ⟨rfl,rfl⟩;clear E1;go_wp2;exact bodyPost_ret (v:=ansV {} (.slice none 0 0)) (by simp [results,Tryz.results55,go_sem,ansV,hf0]) rfl ⟨rfl,frCopy5 (by omega) (Fr.setNew (by omega) HF.out _ _) _ _ _ _ _⟩
 ·simp at hd;subst hd
  go_enter Tryz.func55,Tryz.ntmps55
  go_wp2_with fail;rw [<- E1.out];refine (HC.out w1 (HS.out.calm HF.out)).mono ?_;rintro r w2 ⟨rfl,rfl⟩;clear E1;go_wp2;exact bodyPost_ret (v:=ansV {} (.slice none 0 0)) (by simp [results,Tryz.results55,go_sem,ansV,hf0]) rfl ⟨rfl,frCopy5 (by omega) (Fr.setNew (by omega) HF.out _ _) _ _ _ _ _⟩
end
end
end Go.Proofs.YtfccelbmacjifaaGreat
