import Derived.Test.YtfccelbmacjifaaGreatP0
import Derived.Test.YtfccelbmacjifaaGreatP26
import Derived.Test.YtfccelbmacjifaaGreatRows
import Derived.Test.YtfccelbmacjifaaGreatP22
import Derived.Test.YtfccelbmacjifaaGreatP17
import Derived.ProofKit
import Derived.Lib.SmallJoins
import Derived.OpenShut
import Derived.ChangeOld
import Derived.JoinedCond
import Derived.Test.YtfccelbmacjifaaGreatP23
import Derived.Test.YtfccelbmacjifaaGreatP28
set_option linter.unusedSimpArgs false
set_option maxRecDepth 100000
set_option maxHeartbeats 4000000
namespace Go.Proofs.YtfccelbmacjifaaGreat
section
section
variable {C : Int->Prop} {Rt : Int->List (Int × Int)} {Vt : Int->Int->Prop} {i j : Nat} {t t0 : PThread} {P : PSt} {N E L T : Int} {ps : List (Int × Int)} {D D' : PlD} {o : OpV}
theorem invv_step (h : Inv C P) (hV : InvV C Rt Vt P) (hR : InvR Rt Vt P) (ht : P.ts[i]? = some t) (hb : t.busy = true) : ∃ Rt' Vt',InvV (nextC C t) Rt' Vt' (P.step i t).1/\InvR Rt' Vt' (P.step i t).1/\∀ T,T<=P.clock->Rt' T = Rt T:=by
 rcases hV.step h ht hb with ⟨_,q⟩ | ⟨_,_,_,_,q,_⟩
 ·exact ⟨Rt,Vt,q,hR.step hV h ht hb (fun _ _=>⟨rfl,rfl⟩),fun _ _=>rfl⟩
 ·have hold : ∀ T,T<=P.clock->nextR Rt P t T = Rt T/\nextV Vt P t T = Vt T:=by
   intro T hT;unfold nextR nextV;rw [if_neg (by omega),if_neg (by omega)];exact ⟨rfl,rfl⟩
  exact ⟨_,_,q,hR.step hV h ht hb hold,fun T hT=>(hold T hT).1⟩
theorem solo_run {Lz : Nat} : ∀ (n : Nat) (P : PSt) (C : Int->Prop) (Rt : Int->List (Int × Int)) (Vt : Int->Int->Prop) (t : PThread),Inv C P->InvV C Rt Vt P->InvR Rt Vt P->P.ts[0]? = some t->t.busy = true->(t.work.kind = 3\/t.work.kind = 4)->(t.work.next = 4\/t.work.next = 13)->(∀ (j : Nat) u,1<=j->P.ts[j]? = some u->u.busy = false)->P.mem.ns.length = Lz->phi Lz P.mem C 0 t<=n->∃ m : Nat,m < n/\(∀ j,j < m->P.how 0 j = 1)/\P.how 0 m = 3/\((P.iter 0 m).th 0).work.ans = readAns (Rt t.work.time) t.work:=by
 intro n
 induction n with
 | zero =>
  intro P C Rt Vt t h hV hR ht hb hk hn _ _ hph;exfalso;rcases hn with hn | hn
  ·rw [phi_r4 hb hk hn] at hph; omega
  ·rw [phi_r13 hb hk hn] at hph; omega
 | succ n ih =>
  intro P C Rt Vt t h hV hR ht hb hk hn hid hlz hph;have hth:=th_of ht;rcases hn with hn | hn
  ·have hmv : (P.step 0 t).2≠2:=by
    obtain ⟨j,u,q1,q2,q3,_⟩:=h.live ht hb;have hj : j = 0:=by
     by_cases e : 1<=j
     ·rw [hid j u e q1] at q2; cases q2
     ·omega
    subst hj;rw [ht] at q1; injection q1 with q1; subst q1
    exact q3
   obtain ⟨t2,hnr⟩:=h.near hlz ht hb hmv;obtain ⟨k,hs,hkk⟩ : ∃ k : PWork,P.step 0 t = (P.setW 0 k,1)/\k.kind = t.work.kind/\k.key = t.work.key/\k.spans = t.work.spans/\k.time = t.work.time/\(k.next = 4\/k.next = 13):=by
    have hsm:=step_mid (i:=0) (t:=t) P (by omega) (by omega);rw [if_pos hk] at hsm;rw [hsm] at hmv ⊢;unfold PSt.read at hmv ⊢;simp only at hmv ⊢;split
    ·next e=>rw [if_pos e] at hmv; exact absurd rfl hmv
    ·refine ⟨_,rfl,?_⟩;split
     ·unfold PSt.lookUp;split
      ·exact ⟨rfl,rfl,rfl,rfl,.inl hn⟩
      ·exact ⟨rfl,rfl,rfl,rfl,.inr rfl⟩
     ·unfold PSt.scan;simp only;split
      ·exact ⟨rfl,rfl,rfl,rfl,.inr rfl⟩
      ·exact ⟨rfl,rfl,rfl,rfl,.inl hn⟩
   have hi:=(List.getElem?_eq_some_iff.1 ht).1;have hts : (P.step 0 t).1.ts = P.ts.set 0 { t with work:=k }:=by rw [hs]; show (P.setW 0 k).ts = _; rw [setW_to P ht]
   have ht2 : t2 = { t with work:=k }:=by
    have e:=hnr.ts;rw [hts] at e;have : (P.ts.set 0 { t with work:=k })[0]? = (P.ts.set 0 t2)[0]?:=by rw [e]
    simp [hi] at this;exact this.symm
   have hlt:=hnr.lt 0 0 (Nat.le_refl _);rw [ht2] at hlt;obtain ⟨Rt',Vt',g1,g2,g3⟩:=invv_step h hV hR ht hb;have htm:=((h.th 0 t ht).tm hb (by omega)).1;obtain ⟨k1,k2,k3,k4,k5⟩:=hkk;obtain ⟨m,m1,m2,m3,m4⟩:=ih (P.step 0 t).1 (nextC C t) Rt' Vt' { t with work:=k } (h.step ht hb) g1 g2 (by rw [hts]; simp [hi]) hb (by show k.kind = 3\/k.kind = 4; rw [k1]; exact hk) k5 (fun j u hj hu=>by
    rw [hts,List.getElem?_set_ne (by omega)] at hu;exact hid j u hj hu) (by rw [step_len h.kind]; exact hlz) (by omega)
   have hit : ∀ j,P.iter 0 (j + 1) = (P.step 0 t).1.iter 0 j:=by
    intro j
    induction j with
    | zero=>show ((P.iter 0 0).step 0 ((P.iter 0 0).th 0)).1 = _; show (P.step 0 (P.th 0)).1 = _; rw [hth]; rfl
    | succ j ihj =>
     show ((P.iter 0 (j + 1)).step 0 ((P.iter 0 (j + 1)).th 0)).1 = _;rw [ihj]; rfl
   have hho : ∀ j,P.how 0 (j + 1) = (P.step 0 t).1.how 0 j:=by
    intro j;unfold PSt.how;rw [hit]
   refine ⟨m + 1,by omega,?_,by rw [hho]; exact m3,?_⟩
   ·intro j hj;cases j with
    | zero=>show (P.step 0 (P.th 0)).2 = 1; rw [hth,hs]
    | succ j=>rw [hho]; exact m2 j (by omega)
   ·rw [hit,m4];show readAns (Rt' k.time) k = _;rw [k4,g3 _ htm];unfold readAns;rw [k1,k2,k3,k4]
  ·refine ⟨0,by omega,fun j hj=>by omega,?_,?_⟩
   ·show (P.step 0 (P.th 0)).2 = 3;rw [hth];unfold PSt.step;simp only [hn]
   ·show (P.th 0).work.ans = _;rw [hth];exact (hR 0 t ht).an hb hk hn
end
end
section
open Go.ChangeShapes Go.WideShapes Go.ChangeAt Go.RowKit Go.Joins Go.Deep
theorem Tryz.own : ownKnob Tryz.prog.godebug = none:=by kernel_rfl
theorem Tryz.laidOut : laidOutB Tryz.prog = true:=by kernel_rfl
theorem Tryz.cellsConfig : Tryz.prog.cellsOf 23 = 5:=by kernel_rfl
theorem Tryz.cellsAct : Tryz.prog.cellsOf 34 = 7:=by kernel_rfl
theorem Tryz.cellsSpan : Tryz.prog.cellsOf 138 = 2:=by kernel_rfl
theorem Tryz.cellsSpans : Tryz.prog.cellsOf 32 = 1:=by kernel_rfl
theorem Tryz.cellsInt : Tryz.prog.cellsOf 3 = 1:=by kernel_rfl
theorem list5 {α : Type} {l : List α} (h : l.length = 5) : ∃ a b c d e,l = [a,b,c,d,e]:=by
 match l,h with
 | [a,b,c,d,e],_=>exact ⟨a,b,c,d,e,rfl⟩
theorem array5 {α : Type} {l : Array α} (h : l.size = 5) : ∃ a b c d e,l = #[a,b,c,d,e]:=by
 obtain ⟨l⟩:=l;obtain ⟨a,b,c,d,e,rfl⟩:=list5 (l:=l) h;exact ⟨a,b,c,d,e,rfl⟩
section
variable {H : Type} {enc : TypeId × Value->H} {P : Program} {w : World} {base : Nat} {spare : Nat->Bool} {held : Bool}
theorem trod_struct5 {t : TypeId} {f0 f1 f2 f3 f4 : Field} {fuel : Nat} {cs : List Value} {x : DataW H × List MemPlace} (ht : P.underlying t = some (.struct #[f0,f1,f2,f3,f4])) (h : DataW.trod enc P w base spare held fuel t cs = some x) :
  ∃ y0 y1 y2 y3 y4 n,DataW.trod enc P w base spare held n f0.type ((cs.drop f0.offset).take (P.cellsOf f0.type)) = some y0 /\
   DataW.trod enc P w base spare held n f1.type ((cs.drop f1.offset).take (P.cellsOf f1.type)) = some y1/\DataW.trod enc P w base spare held n f2.type ((cs.drop f2.offset).take (P.cellsOf f2.type)) = some y2 /\
   DataW.trod enc P w base spare held n f3.type ((cs.drop f3.offset).take (P.cellsOf f3.type)) = some y3/\DataW.trod enc P w base spare held n f4.type ((cs.drop f4.offset).take (P.cellsOf f4.type)) = some y4:=by
 obtain ⟨xs,n,_,rfl,hl,hlen,hf⟩:=DataW.trod_struct ht h;obtain ⟨y0,y1,y2,y3,y4,rfl⟩:=list5 (l:=xs) hlen;exact ⟨y0,y1,y2,y3,y4,n,by simpa using hf 0 f0 rfl,by simpa using hf 1 f1 rfl,by simpa using hf 2 f2 rfl,by simpa using hf 3 f3 rfl,by simpa using hf 4 f4 rfl⟩
def rawI (c : Int) : Prop:=-9223372036854775808<=c/\c<=9223372036854775807
theorem ints5 {r : Reach} {b0 : Nat} {t ti : TypeId} {f0 f1 f2 f3 f4 : Field} {v : Value} {d : DataW H} {p : List MemPlace} (hs : P.underlying t = some (.struct #[f0,f1,f2,f3,f4])) (hone : oneCellFields P #[f0,f1,f2,f3,f4] = true) (hC : P.cellsOf t = 5)
  (hi : P.underlying ti = some (.int .i64)) (h0 : f0.type = ti) (h1 : f1.type = ti) (h2 : f2.type = ti) (h3 : f3.type = ti) (h4 : f4.type = ti)
  (hv : Value.okWide P w r b0 t v) (h : DataW.Trod enc P w base spare held t v d p) : ∃ k t n e l : Int,v = cfg k t n e l/\rawI t/\rawI n/\rawI e/\rawI l:=by
 obtain ⟨cs,rfl,hsz⟩:=okWide_struct hs hv;obtain ⟨c0,c1,c2,c3,c4,rfl⟩:=array5 (hsz.trans hC);obtain ⟨fuel,hf⟩:=h;obtain ⟨y0,y1,y2,y3,y4,n,g0,g1,g2,g3,g4⟩:=trod_struct5 hs hf;obtain ⟨o0,k0⟩:=hone_of hone 0 f0 rfl;obtain ⟨o1,_⟩:=hone_of hone 1 f1 rfl;obtain ⟨o2,_⟩:=hone_of hone 2 f2 rfl;obtain ⟨o3,_⟩:=hone_of hone 3 f3 rfl;obtain ⟨o4,_⟩:=hone_of hone 4 f4 rfl;rw [h0] at k0;simp only [o0,o1,o2,o3,o4,h0,h1,h2,h3,h4,k0] at g0 g1 g2 g3 g4;obtain ⟨a0,e0,_,_⟩:=DataW.trod_int hi g0;obtain ⟨a1,e1,_,wf1⟩:=DataW.trod_int hi g1;obtain ⟨a2,e2,_,wf2⟩:=DataW.trod_int hi g2;obtain ⟨a3,e3,_,wf3⟩:=DataW.trod_int hi g3;obtain ⟨a4,e4,_,wf4⟩:=DataW.trod_int hi g4;have b1:=Go.bounds_i64 wf1;have b2:=Go.bounds_i64 wf2;have b3:=Go.bounds_i64 wf3;have b4:=Go.bounds_i64 wf4;simp [Value.cells] at e0 e1 e2 e3 e4;subst e0 e1 e2 e3 e4;exact ⟨a0,a1,a2,a3,a4,rfl,b1,b2,b3,b4⟩
end
theorem cfg_open {H : Type} {enc : TypeId × Value->H} {W : World} {r : Reach} {b0 base : Nat} {spare : Nat->Bool} {held : Bool} {v : Value} {d : DataW H} {p : List MemPlace}
  (hv : Value.okWide Tryz.prog W r b0 23 v) (h : DataW.Trod enc Tryz.prog W base spare held 23 v d p) : ∃ k t n e l : Int,v = cfg k t n e l/\rawI t/\rawI n/\rawI e/\rawI l :=
 ints5 Tryz.underlying23 (by kernel_rfl) Tryz.cellsConfig Tryz.underlying3 rfl rfl rfl rfl rfl hv h
theorem bulk_one {H : Type} (d : DataW H) : 1<=Rows.uptoBulk d:=by
 cases d with
 | lit l=>cases l <;> simp [Rows.uptoBulk]
 | nil=>simp [Rows.uptoBulk]
 | ptr d=>simp [Rows.uptoBulk]
 | slice elems spare=>simp [Rows.uptoBulk]
 | agg parts=>simp [Rows.uptoBulk]
 | iface t d=>simp [Rows.uptoBulk]
 | map entries=>simp [Rows.uptoBulk]
 | held h=>simp [Rows.uptoBulk]
theorem bulk_part {H : Type} {d : DataW H} : ∀ {l : List (DataW H)},d ∈ l->Rows.uptoBulk d<=Rows.uptoBulkAll l
 | [],h=>by cases h
 | x :: r,h=>by
  simp only [Rows.uptoBulkAll];rcases List.mem_cons.1 h with rfl | e
  ·omega
  ·have:=bulk_part e; omega
theorem bulk_len {H : Type} : ∀ (l : List (DataW H)),l.length<=Rows.uptoBulkAll l
 | []=>by simp
 | x :: r=>by have h1:=bulk_one x; have h2:=bulk_len r; simp only [Rows.uptoBulkAll,List.length_cons]; omega
theorem acts_open {H : Type} {enc : TypeId × Value->H} {W : World} {r : Reach} {b0 base : Nat} {spare : Nat->Bool} {held : Bool} {v : Value} {d : DataW H} {p : List MemPlace}
  (hv : Value.okWide Tryz.prog W r b0 24 v) (h : DataW.Trod enc Tryz.prog W base spare held 24 v d p) :
  ∃ sa n c,∃ acts : List ActD,v = .slice sa n c/\n<=Rows.uptoBulk d/\acts.length = n/\∀ i a,acts[i]? = some a->ActIn W sa i a/\a.sn<=Rows.uptoBulk d:=by
 obtain ⟨fuel,hf⟩:=h;obtain ⟨sa0,n0,c0,rfl⟩:=okWide_slice Tryz.underlying24 hv;obtain ⟨sa,n,c,acts,e,h1,h2,h3⟩:=script_open (B:=Rows.uptoBulk) Tryz.underlying24 Tryz.underlying34 Tryz.cellsAct rfl rfl rfl rfl rfl rfl rfl rfl rfl rfl rfl rfl rfl rfl Tryz.cellsInt Tryz.underlying3 Tryz.cellsSpans
  Tryz.underlying32 Tryz.underlying138 Tryz.cellsSpan rfl rfl rfl rfl
  (fun elems sp=>by have:=bulk_len elems; simp only [Rows.uptoBulk]; omega) (fun elems sp d hd=>by have:=bulk_part hd; simp only [Rows.uptoBulk]; omega) (fun parts d hd=>by have:=bulk_part hd; simp only [Rows.uptoBulk]; omega) hf
 simp [Value.cells] at e;obtain ⟨rfl,rfl,rfl⟩:=e;exact ⟨_,_,_,acts,rfl,h1,h2,h3⟩
end
section
open Go.ChangeShapes Go.WideShapes Go.ChangeAt Go.RowKit Go.Joins Go.Deep
def LawHolds (fn : Nat) : Prop:=∀ (k t n e l : Int) (W : World) (sa : Option Addr) (c : Nat) (acts : List ActD),rawI t->rawI n->rawI e->rawI l->acts.length<=2 ^ 20->(∀ i a,acts[i]? = some a->ActIn W sa i a/\a.sn<=2 ^ 20) ->
 Calls Tryz.prog fn #[cfg k t n e l,.slice sa acts.length c] W fun r W'=>r = .returned (.bool true)/\Fr (fun _=>False) W W'
end
section
open Go.RowKit
def PlOn (W w : World) (pb : Nat) (Q : PlD->Prop) : Prop:=∃ own D,PlAt own 1 w pb D/\Ext own00 own W/\Fr (fun _=>False) W w/\Q D
section
variable {W w w1 : World} {own : Own} {pb : Nat} {D : PlD} {f b : Nat} {J Q : PlD->Prop} {T Nn E L : Int}
theorem PlOn.goes (hE : Ext own00 own W) (hF : Fr (fun _=>False) W w) (h : PlGoes own 1 w pb w1 Q) : PlOn W w1 pb Q:=by
 obtain ⟨own1,D1,h1,h2,h3,h4⟩:=h;refine ⟨own1,D1,h1,Ext.trans hE h2 hF.size,?_,h4⟩;refine Fr.transNew hF h3 ?_;intro k hk;right;rcases Nat.lt_or_ge k W.heap.size with hlt | hge
 ·rw [hE k hlt] at hk;simp [own00] at hk
 ·exact hge
theorem played_calls (hJ : Plays f T Nn E L J) (hfr : ∀ D,FreshPl T Nn E L D->J D) (hok : okCfg 0 T Nn E L = true) (hf : (f : Int) < T) (W : World) (sa : Option Addr) (c : Nat) (acts : List ActD) (hlen : acts.length<=2 ^ 20) (hacts : ∀ i a,acts[i]? = some a->ActIn W sa i a/\a.sn<=2 ^ 20) :
  Calls Tryz.prog 47 #[cfg 0 T Nn E L,.slice sa acts.length c,.int .i64 f] W fun r W'=>∃ pb,r = .returned (pv pb)/\PlOn W W' pb (fun D=>J D/\Sz (400 * acts.length) D):=by
 have HJ:=(mkH (Plays f T Nn E L J/\(f : Int) < T) <|⟨hJ,hf⟩);have HFr:=(mkH (∀ D,FreshPl T Nn E L D->J D) <|hfr);have HOk:=(mkH (okCfg 0 T Nn E L = true) <|hok);have HAc:=(mkH (∀ i a,acts[i]? = some a->ActIn W sa i a/\a.sn<=2 ^ 20) <|hacts);clear hJ hfr hok hf hacts;have HPl:=(mkH (∀ w,Calls Tryz.prog 40 #[cfg 0 T Nn E L] w _) <|fun w=>player_calls T Nn E L w own00 1 HOk.out);unfold cfg at HPl ⊢
 go_enter Tryz.func47,Tryz.ntmps47
 go_wp2_with fail;refine Calls.mono (HPl.out _) ?_;rintro r w2 ⟨pb,rfl,own,D,hP,hE0,hD,hF2⟩;have HOn:=(mkH (PlOn W w2 pb (fun D=>J D/\Sz (400 * 0) D)) <|by
  refine ⟨own,D,hP,fun k hk=>hE0 k (Nat.lt_of_lt_of_le hk ((Fr.refl (fun _=>False) W).alloc _).size),((Fr.refl _ _).alloc _).trans hF2,HFr.out D hD,?_⟩;unfold Sz;rw [hD.N,hD.deeds,hD.cnt.1,hD.cnt.2]
  simp)
 clear hP hE0 hD hF2 HPl HOk;unfold pv;go_wp2
 go_loopw [8] (fun v wr=>∃ j : Nat,j<=acts.length/\v = .int .i64 j/\Hid (PlOn W wr pb (fun D=>J D/\Sz (400 * j) D))) (fun v _=>acts.length - (intOf v).toNat)
 case atStart=>exact ⟨0,by omega,rfl,HOn⟩
 case round =>
  clear HOn;obtain ⟨j,hj,rfl,HOn⟩:=hrel;by_cases hlt : j < acts.length
  ·obtain ⟨own1,D1,hP1,hE1,hF1,hj1,hS1⟩:=HOn.out;have hx : acts[j]? = some acts[j]:=List.getElem?_eq_getElem hlt;obtain ⟨hai,hasn⟩:=HAc.out j _ hx;generalize acts[j] = a at hx hai hasn;obtain ⟨ab,off,rfl,hcl,hsp,hmm,htt⟩:=hai.keep hF1;have HAct:=(mkH (Calls _ _ _ _ _) <|Pact_calls HJ.out.1 hP1 hj1 hS1 (by omega) HJ.out.2 a hsp hasn hmm htt);have HX:=(mkH (Ext own00 own1 W/\Fr (fun _=>False) W wr) <|⟨hE1,hF1⟩);have c0:=hcl 0 _ rfl;have c1:=hcl 1 _ rfl;have c2:=hcl 2 _ rfl;have c3:=hcl 3 _ rfl;have c4:=hcl 4 _ rfl;have c5:=hcl 5 _ rfl;have c6:=hcl 6 _ rfl;obtain ⟨kd,tt,o,ky,va,m,psa,psn,psc,sps⟩:=a;simp only [Nat.add_zero,<- Nat.add_assoc] at c0 c1 c2 c3 c4 c5 c6;unfold pv actVal at HAct;simp only at HAct;clear hP1 hE1 hF1 hj1 hS1 hx hai hasn hcl hsp hmm htt HOn;go_wp2_with fail;refine Calls.mono HAct.out ?_;rintro r w4 ⟨rfl,hg⟩;have HOn2:=(mkH (PlOn W w4 pb (fun D=>J D/\Sz (400 * (j + 1)) D)) <|PlOn.goes HX.out.1 HX.out.2 hg);clear hg HAct c0 c1 c2 c3 c4 c5 c6;go_wp2
   go_roundw
   case rel=>exact ⟨j + 1,by omega,by go_num,HOn2⟩
   case measure=>simp [intOf]; omega
  ·have hje : Hid (j = acts.length):=by show j = acts.length; omega
   have HR:=(mkH (PlOn W wr pb (fun D=>J D/\Sz (400 * acts.length) D)) <|by rw [<- hje.out]; exact HOn.out);clear HOn;go_wp2;go_ret;exact ⟨pb,rfl,HR.out⟩
end
end
section
open Go.RowKit
section
variable {own : Own} {z : Nat} {w w' : World} {pb b : Nat} {D D1 : PlD} {i j : Nat}
theorem isUpdate_calls (kind key value : Int) (sv : Value) (w : World) :
  Calls Tryz.prog 54 #[opVal kind key value sv] w fun r w'=>r = .returned (.bool (kind == 1 || kind == 2))/\Fr (fun _=>False) w w':=by
 unfold opVal;have HF:=(mkH (∀ o,Fr (fun _=>False) w (w.alloc o)) <|fun o=>(Fr.refl _ _).alloc _);by_cases h1 : kind = 1
 ·subst h1
  go_enter Tryz.func54,Tryz.ntmps54
  go_wp2;go_ret;exact ⟨rfl,HF.out _⟩
 ·have h1' : (kind == 1) = false:=by simpa using h1
  by_cases h2 : kind = 2
  ·subst h2;clear h1 h1'
   go_enter Tryz.func54,Tryz.ntmps54
   go_wp2;go_ret;exact ⟨rfl,HF.out _⟩
  ·have h2' : (kind == 2) = false:=by simpa using h2
   have HE : Hid ((kind == 1 || kind == 2) = false):=by show _ = _; simp [h1',h2']
   clear h1 h2
   go_enter Tryz.func54,Tryz.ntmps54
   go_wp2;go_ret;exact ⟨ret_bool HE.out.symm,HF.out _⟩
end
end
section
open Go.RowKit
section
variable {own : Own} {z : Nat} {w w' : World} {pb : Nat} {D D1 : PlD} {i j : Nat}
theorem whole_calls (w : World) : Calls Tryz.prog 49 #[] w fun e w'=>∃ va vc,e = .returned (opVal 4 0 0 (.slice va 1 vc))/\OwnSpans w w' (.slice va 1 vc) [(0,1099511627776)]:=by
 go_enter Tryz.func49,Tryz.ntmps49
 go_wp2_with fail;generalize hw1 : World.alloc (World.alloc w _) _ = w1;have hA : At w1 w.heap.size [.int .i64 4,.int .i64 0,.int .i64 0,.slice (some ⟨w.heap.size + 1,0,none⟩) 1 1] 82:=by subst hw1; exact (At.new w _ _).alloc _
 have hB : At w1 (w.heap.size + 1) [.int .i64 0,.int .i64 1099511627776] 138:=by subst hw1; exact At.newAt (by simp) _ _
 have hF : Fr (fun _=>False) w w1:=by subst hw1; exact ((Fr.refl _ _).alloc _).alloc _
 have f0:=hA.cell;have HO : OwnSpans w w1 (.slice (some ⟨w.heap.size + 1,0,none⟩) 1 1) [(0,1099511627776)]:=by
  refine ⟨⟨rfl,.inr ⟨w.heap.size + 1,1,_,rfl,Nat.zero_le _,hB,Nat.le_refl _,by unfold maxLen; decide,rfl,rfl⟩⟩,?_,hF⟩;intro k hk;simp [Value.ownBlock] at hk;omega
 clear hw1 hA hB hF;refine bodyPost_ret (v:=opVal 4 0 0 (.slice (some ⟨w.heap.size + 1,0,none⟩) 1 1)) (by simp [results,Tryz.results49,go_sem,opVal,f0]) rfl ⟨_,_,rfl,HO⟩
theorem took_calls (kd ky va : Int) (sv : Value) (e : Int) (did : Bool) (av st : Int) (lv : Value) (f : Int) (w : World) (sa la : Option Addr) (sn sc ln lc : Nat) (hs : sv = .slice sa sn sc) (hv : lv = .slice la ln lc) :
  Calls Tryz.prog 60 #[.agg #[.int .i64 kd,.int .i64 ky,.int .i64 va,sv,.int .i64 e,.bool did,.int .i64 av,.int .i64 st,lv,.int .i64 f]] w fun r w'=>r = .returned (.bool ((kd == 1 || kd == 2) && did))/\Fr (fun _=>False) w w':=by
 subst hv hs;have HU:=(mkH (∀ w,Calls Tryz.prog 54 #[opVal kd ky va (.slice sa sn sc)] w _) <|fun w=>isUpdate_calls kd ky va (.slice sa sn sc) w);unfold opVal at HU
 go_enter Tryz.func60,Tryz.ntmps60
 go_wp2_with fail;refine Calls.mono (HU.out _) ?_;rintro r w1 ⟨rfl,hF1⟩;have hA : At w1 w.heap.size [.int .i64 kd,.int .i64 ky,.int .i64 va,.slice sa sn sc,.int .i64 e,.bool did,.int .i64 av,.int .i64 st,.slice la ln lc,.int .i64 f] 97:=hF1.at (At.new w _ _) (fun h=>h);have hac:=hA.cell;have HF:=(mkH (Fr (fun _=>False) w w1) <|((Fr.refl _ _).alloc _).trans hF1);clear hA hF1 HU;obtain ⟨b,hb⟩ : ∃ b,Hid ((kd == 1 || kd == 2) = b):=⟨_,rfl⟩;rw [hb.out];cases b
 ·go_wp2;go_ret;exact ⟨by rw [hb.out]; rfl,HF.out⟩
 ·go_wp2;go_ret;exact ⟨by rw [hb.out]; simp,HF.out⟩
end
end
section
open Go.RowKit
section
variable {D D' : PlD} {i j : Nat} {t : PThread} {T N E L : Int}
theorem proper_whole : properB 4 0 [(0,1099511627776)] = true:=by decide
end
end
section
open Go.RowKit
section
variable {own : Own} {z : Nat} {w w' : World} {pb b : Nat} {D D' : PlD} {i j : Nat} {t : PThread} {T N E L : Int} {ps : List (Int × Int)} {o : OpV}
end
end
section
open Go.RowKit
section
variable {own : Own} {z : Nat} {w w' : World} {pb b : Nat} {D D' : PlD} {i j : Nat} {t : PThread} {T N E L : Int} {ps : List (Int × Int)} {o : OpV}
theorem PlAt.deedCells (h : PlAt own z w pb D) (hd : D.deeds≠[]) : ∃ g c,D.dv = .slice (some ⟨g,0,none⟩) D.deeds.length c/\∀ (k : Nat) d,D.deeds[k]? = some d->(∃ sa sn sc la ln lc,d.op.sv = .slice sa sn sc/\d.av = .slice la ln lc)/\∀ q v,d.cells[q]? = some v->w.cell? ⟨g,k * 10 + q,none⟩ = some v:=by
 have hl : 0 < D.deeds.length:=List.length_pos_iff.2 hd;obtain ⟨g,c,hv,_⟩:=ownsRow_shape h.deeds.row (by omega);have hr:=h.deeds.row;rw [hv] at hr;refine ⟨g,c,hv,?_⟩;intro k d hk;refine ⟨?_,?_⟩
 ·have hdk:=h.dok d (List.mem_of_getElem? hk);obtain ⟨sa,sc,h1⟩:=ownsShape hdk.1.row;obtain ⟨ins,_,h2,_⟩:=hdk.2.1.top;obtain ⟨la,lc,h3⟩:=ownsShape h2.row;exact ⟨sa,_,sc,la,_,lc,h1,h3⟩
 ·intro q v hq;exact ownsRow_cell hr ((tab_get DeedV.cells 10 deed_len D.deeds k q d hk (by have:=(List.getElem?_eq_some_iff.1 hq).1; simpa [deed_len] using this)).trans hq)
end
end
section
open Go.RowKit
section
variable {C : Int->Prop} {Rt : Int->List (Int × Int)} {Vt : Int->Int->Prop} {P : PSt} {i j m : Nat} {t t' : PThread} {N E L T : Int} {D D' : PlD} {o : OpV} {own : Own} {z : Nat} {w w' : World} {pb b : Nat}
theorem step_early (P : PSt) (h1 : 1<=t.work.next) (h3 : t.work.next<=3) : (P.step i t).2 = 1/\∃ t',(P.step i t).1.ts = P.ts.set i t'/\t'.busy = t.busy/\t'.work.kind = t.work.kind/\t'.work.next = t.work.next + 1:=by
 rcases (show t.work.next = 1\/t.work.next = 2\/t.work.next = 3 by omega) with hn | hn | hn
 ·have hs : P.step i t = (P.setT i { t with slot:=1,work:={ t.work with next:=2 } },1):=by unfold PSt.step; simp only [hn]
  exact ⟨by rw [hs],{ t with slot:=1,work:={ t.work with next:=2 } },by rw [hs]; rfl,rfl,rfl,by rw [hn]⟩
 ·have hs : P.step i t = (P.setT i { t with work:={ t.work with time:=P.clock,next:=3 } },1):=by unfold PSt.step; simp only [hn]
  exact ⟨by rw [hs],{ t with work:={ t.work with time:=P.clock,next:=3 } },by rw [hs]; rfl,rfl,rfl,by rw [hn]⟩
 ·have hs : P.step i t = (P.setT i { t with slot:=2,work:=t.work.home },1):=by unfold PSt.step; simp only [hn]
  exact ⟨by rw [hs],{ t with slot:=2,work:=t.work.home },by rw [hs]; rfl,rfl,rfl,by rw [hn]; rfl⟩
theorem iter_succ (ht : P.ts[i]? = some t) : ∀ j,P.iter i (j + 1) = (P.step i t).1.iter i j:=by
 have hth:=th_of ht;intro j
 induction j with
 | zero=>show (P.step i (P.th i)).1 = _; rw [hth]; rfl
 | succ j ihj =>
  show ((P.iter i (j + 1)).step i ((P.iter i (j + 1)).th i)).1 = _;rw [ihj]; rfl
theorem how_succ (ht : P.ts[i]? = some t) (j : Nat) : P.how i (j + 1) = (P.step i t).1.how i j:=by
 unfold PSt.how;rw [iter_succ ht]
theorem late_run {Lz : Nat} (hL : 2<=Lz) : ∀ (k : Nat) (P : PSt) (C : Int->Prop) (Rt : Int->List (Int × Int)) (Vt : Int->Int->Prop) (t : PThread),Inv C P->InvV C Rt Vt P->InvR Rt Vt P->P.ts[0]? = some t->t.busy = true->(t.work.kind = 3\/t.work.kind = 4)->t.work.next + k = 4->1<=t.work.next->(∀ (j : Nat) u,1<=j->P.ts[j]? = some u->u.busy = false)->P.mem.ns.length = Lz->∃ m : Nat,m<=Lz + k/\(∀ j,j < m->P.how 0 j = 1)/\P.how 0 m = 3:=by
 intro k
 induction k with
 | zero =>
  intro P C Rt Vt t h hV hR ht hb hk hn _ hid hlz;have hn4 : t.work.next = 4:=by omega
  have hwp:=wp_le (L:=Lz) (by omega) P.mem C (rx t.work);obtain ⟨m,m1,m2,m3,_⟩:=solo_run (Lz + 1) P C Rt Vt t h hV hR ht hb hk (.inl hn4) hid hlz (by rw [phi_r4 hb hk hn4]; omega);exact ⟨m,by omega,m2,m3⟩
 | succ k ih =>
  intro P C Rt Vt t h hV hR ht hb hk hn h1 hid hlz;have hi:=(List.getElem?_eq_some_iff.1 ht).1;obtain ⟨e1,t',e2,e3,e4,e5⟩:=step_early (i:=0) P h1 (by omega);obtain ⟨Rt',Vt',g1,g2,_⟩:=invv_step h hV hR ht hb;obtain ⟨m,m1,m2,m3⟩:=ih (P.step 0 t).1 (nextC C t) Rt' Vt' t' (h.step ht hb) g1 g2 (by rw [e2]; simp [hi]) (by rw [e3]; exact hb) (by rw [e4]; exact hk) (by omega) (by omega) (fun j u hj hu=>by
   rw [e2,List.getElem?_set_ne (by omega)] at hu;exact hid j u hj hu) (by rw [step_len h.kind]; exact hlz)
  refine ⟨m + 1,by omega,?_,by rw [how_succ ht]; exact m3⟩;intro j hj;cases j with
  | zero=>show (P.step 0 (P.th 0)).2 = 1; rw [th_of ht]; exact e1
  | succ j=>rw [how_succ ht]; exact m2 j (by omega)
theorem OrdJ.same (h : OrdJ T N E L D) (e1 : D'.P = D.P) (e2 : D'.ops = D.ops) (e3 : D'.frm = D.frm) (e4 : D'.deeds = D.deeds) (e5 : D'.puts = D.puts) (e6 : D'.takes = D.takes) (e7 : D'.bs = D.bs) (e8 : D'.k = D.k/\D'.t = D.t/\D'.n = D.n/\D'.e = D.e/\D'.l = D.l) : OrdJ T N E L D':=by
 obtain ⟨⟨C,Rt,Vt,u,hC,hV,hR,hO⟩,h2,h3,h4,h5,h6,h7⟩:=h;refine ⟨⟨C,Rt,Vt,u,by rw [e1]; exact hC,by rw [e1]; exact hV,by rw [e1]; exact hR,?_⟩,by rw [e1]; exact h2,by rw [e1]; exact h3,by rw [e1]; exact h4,h5,by unfold PlD.ok at *; rw [e1,e7]; exact h6,cfg_trans e8 h7⟩;obtain ⟨o1,o2,o3,o4,o5,o6,o7,o8,o9,o10,o11,o12⟩:=hO;exact ⟨by rw [e1]; exact o1,o2,by rw [e1]; exact o3,by rw [e1,e5,e6]; exact o4,by rw [e1,e5,e6]; exact o5,by rw [e1]; exact o6,by rw [e1,e2,e3,e4,e5,e6]; exact o7,by rw [e1,e4,e5,e6]; exact o8,by rw [e4]; exact o9,by rw [e1,e4]; exact o10,by rw [e1]; exact o11,by rw [e4]; exact o12⟩
theorem OrdJ.iter (h : OrdJ T N E L D) (ht : D.P.ts[i]? = some t) (hb : t.busy = true) : ∀ (j : Nat),(∀ q,q < j->D.P.how i q = 1)->∃ D1,OrdJ T N E L D1/\D1.P = D.P.iter i j/\D1.ops = D.ops/\D1.frm = D.frm/\D1.puts = D.puts/\D1.takes = D.takes/\D1.bs = D.bs/\D1.deeds = D.deeds/\(D1.k = D.k/\D1.t = D.t/\D1.n = D.n/\D1.e = D.e/\D1.l = D.l)/\(∃ t1,D1.P.ts[i]? = some t1/\t1.busy = true)/\(∀ q,q≠i->D1.P.ts[q]? = D.P.ts[q]?)
 | 0,_=>⟨D,h,rfl,rfl,rfl,rfl,rfl,rfl,rfl,⟨rfl,rfl,rfl,rfl,rfl⟩,⟨t,ht,hb⟩,fun _ _=>rfl⟩
 | j + 1,hq=>by
  obtain ⟨D1,h1,h2,h3,h4,h5,h6,h7,h8,h9,⟨t1,h10,h11⟩,h12⟩:=OrdJ.iter h ht hb j (fun q hq'=>hq q (by omega));have hhow : (D1.P.step i t1).2 = 1:=by
   have:=hq j (by omega)
   unfold PSt.how at this;rw [<- h2,th_of h10] at this;exact this
  have hst : Stepped D1 i t1 { D1 with P:=(D1.P.step i t1).1,N:=D1.N + 1 }:=by
   refine ⟨rfl,rfl,⟨rfl,rfl,rfl,rfl,rfl⟩,rfl,rfl,⟨rfl,rfl⟩,?_,fun _=>rfl,fun q=>?_⟩
   ·rw [if_neg (by omega)]
   ·omega
  obtain ⟨C,_,_,_,hC,_⟩:=h1.ex;have hi:=(List.getElem?_eq_some_iff.1 h10).1;obtain ⟨t2,s1,_,s3⟩:=step_work hC.kind h10 h11;refine ⟨_,h1.step h10 h11 hst,?_,h3,h4,h5,h6,h7,h8,h9,⟨t2,?_,(s3 (by omega)).1⟩,?_⟩
  ·show (D1.P.step i t1).1 = ((D.P.iter i j).step i ((D.P.iter i j).th i)).1;rw [<- h2,th_of h10]
  ·show (D1.P.step i t1).1.ts[i]? = _;rw [s1]; simp [hi]
  ·intro q hne;show (D1.P.step i t1).1.ts[q]? = _;rw [s1,List.getElem?_set_ne (fun e=>hne e.symm)];exact h12 q hne
theorem OrdJ.soloed (h : OrdJ T N E L D) (ht : D.P.ts[i]? = some t) (hb : t.busy = true) (hmv : ∀ j,j < m->D.P.how i j = 1) (hend : D.P.how i m = 3) (hS : Soloed D i m D') (hid : ∀ (j : Nat) u,j≠i->D.P.ts[j]? = some u->u.busy = false) : OrdJ T N E L D'/\Still 0 D':=by
 obtain ⟨D1,h1,h2,h3,h4,h5,h6,h7,h8,h9,⟨t1,h10,h11⟩,h12⟩:=h.iter ht hb m hmv;have hhow : (D1.P.step i t1).2 = 3:=by
  unfold PSt.how at hend;rw [<- h2,th_of h10] at hend;exact hend
 obtain ⟨av,o,f,g1,g2,g3⟩:=hS.deeds;rw [<- h2,th_of h10] at g3;have hP : D'.P = (D1.P.step i t1).1:=by
  rw [hS.P];show ((D.P.iter i m).step i ((D.P.iter i m).th i)).1 = _;rw [<- h2,th_of h10]
 have hst : Stepped D1 i t1 { D1 with P:=(D1.P.step i t1).1,N:=D1.N + 1,bs:=D1.bs.set i false,deeds:=D'.deeds }:=by
  refine ⟨rfl,rfl,⟨rfl,rfl,rfl,rfl,rfl⟩,rfl,rfl,⟨rfl,rfl⟩,?_,fun q=>absurd hhow q,fun _=>⟨av,o,f,by rw [h3]; exact g1,by rw [h4]; exact g2,by show D'.deeds = _; rw [h8]; exact g3⟩⟩;rw [if_pos hhow]
 have hfin:=h1.step h10 h11 hst;obtain ⟨a1,a2,a3,a4,a5⟩:=hS.cfg;obtain ⟨b1,b2,b3,b4,b5⟩:=h9;refine ⟨hfin.same hP (hS.same.1.trans h3.symm) (hS.same.2.1.trans h4.symm) rfl (hS.same.2.2.1.trans h5.symm) (hS.same.2.2.2.trans h6.symm) (by show D'.bs = D1.bs.set i false; rw [h7]; exact hS.bs) ⟨a1.trans b1.symm,a2.trans b2.symm,a3.trans b3.symm,a4.trans b4.symm,a5.trans b5.symm⟩,?_⟩;intro q u _ hu;obtain ⟨C,_,_,_,hC,_⟩:=h1.ex;have hi:=(List.getElem?_eq_some_iff.1 h10).1;obtain ⟨t2,s1,s2,_⟩:=step_work hC.kind h10 h11;rw [hP,s1] at hu;by_cases e : q = i
 ·subst e;rw [List.getElem?_set_self hi] at hu;injection hu with hu
  rw [<- hu]; exact s2 hhow
 ·rw [List.getElem?_set_ne (fun z=>e z.symm),h12 q e] at hu;exact hid q u e hu
structure OrdB (T N E L : Int) (b : Nat) (D : PlD) : Prop where
 j : OrdJ T N E L D
 ex : ∃ t,D.P.ts[0]? = some t/\t.busy = true/\(t.work.kind = 3\/t.work.kind = 4)/\t.work.next = 1
 idle : ∀ (j : Nat) u,j≠0->D.P.ts[j]? = some u->u.busy = false
 bs : D.bs[0]? = some true
 sz : Sz b D
theorem ord_begin (hP : PlAt own z w pb D) (h : OrdJ T N E L D) (hst : Still 0 D) (hs : Sz b D) (hT : 1<=T) (hb : b<=2 ^ 36) (sa : Option Addr) (sc : Nat) (ho : OpOk own (z + 1) w ⟨4,0,0,[(0,1099511627776)],.slice sa 1 sc⟩) :
  Calls Tryz.prog 50 #[pv pb,.int .i64 ((0 : Nat) : Int),opVal 4 0 0 (.slice sa 1 sc)] w fun r w'=>r = .returned (.bool true)/\PlGoes own z w pb w' (OrdB T N E L (b + 1)):=by
 have hl : 0 < D.P.ts.length:=by have:=hP.thr; have:=h.cfg.2.1; omega
 have ht : D.P.ts[0]? = some D.P.ts[0]:=List.getElem?_eq_getElem hl;generalize D.P.ts[0] = t at ht;have htb : t.busy = false:=hst 0 t (Nat.zero_le _) ht;refine (Pbegins_calls hP h.ok ht 4 0 0 [(0,1099511627776)] sa sc ho (by simp) (by unfold Sz at hs; omega)).mono ?_;rintro r w' ⟨rfl,own',D',h1,h2,h3,hB⟩;refine ⟨rfl,own',D',h1,h2,h3,?_⟩;obtain ⟨y1,y2,y3,y4,y5,y6⟩:=hB.yes htb proper_whole;refine ⟨h.begin ht hB,⟨{ t with busy:=true,work:=newWork 4 0 0 [(0,1099511627776)] },?_,rfl,.inr rfl,rfl⟩,?_,?_,hs.begin hB⟩
 ·rw [y1]; simp [PSt.setT,hl]
 ·intro j u hj hu;rw [y1] at hu;have hu' : (D.P.ts.set 0 { t with busy:=true,work:=newWork 4 0 0 [(0,1099511627776)] })[j]? = some u:=hu;rw [List.getElem?_set_ne (by omega)] at hu';exact hst j u (Nat.zero_le _) hu'
 ·rw [y2,List.getElem?_set_self (by rw [hP.bl]; exact hl)]
theorem ord_solo (hP : PlAt own z w pb D) (h : OrdB T N E L b D) (hb : b<=2 ^ 36) (hN : 0<=N/\N<=64) :
  Calls Tryz.prog 51 #[pv pb,.int .i64 ((0 : Nat) : Int)] w fun r w'=>r = .returned (.bool true)/\PlGoes own z w pb w' (fun D'=>OrdJ T N E L D'/\Still 0 D'/\Sz (b + 100) D'/\D'.deeds≠[]):=by
 obtain ⟨t,ht,htb,hk,hn⟩:=h.ex;obtain ⟨C,Rt,Vt,u,hC,hV,hR,hO⟩:=h.j.ex;have hlen:=h.j.len;obtain ⟨m,m1,m2,m3⟩:=late_run (Lz:=N.toNat + 2) (by omega) 3 D.P C Rt Vt t hC hV hR ht htb hk (by omega) (by omega) (fun j u hj hu=>h.idle j u (by omega) hu) hlen;have hs:=h.sz;unfold Sz at hs;refine (Psolo_calls hP (by rw [h.j.cfg.2.2.1]; exact hN) h.bs ht htb (by omega) (by omega) m (by rw [h.j.cfg.2.2.1]; omega) m2 m3).mono ?_;rintro r w' ⟨rfl,own',D',h1,h2,h3,hS⟩;obtain ⟨q1,q2⟩:=h.j.soloed ht htb m2 m3 hS h.idle;obtain ⟨av,o,f,_,_,g3⟩:=hS.deeds;refine ⟨rfl,own',D',h1,h2,h3,q1,q2,?_,by rw [g3]; simp⟩;have hl : D'.deeds.length = D.deeds.length + 1:=by rw [g3]; simp
 have hNN:=hS.N;unfold Sz;rw [hl,hS.same.2.2.1,hS.same.2.2.2];omega
end
end
section
open Go.RowKit
def ShAt (w : World) (sb : Nat) (a : Option Addr) (c : Nat) (ps : List (Int × Int)) : Prop:=At w sb [.slice a ps.length c] 72/\PairsAt w a ps
section
variable {w w' : World} {sb : Nat} {a : Option Addr} {c : Nat} {ps : List (Int × Int)}
theorem ShAt.calm (h : ShAt w sb a c ps) (hf : Fr (fun _=>False) w w') : ShAt w' sb a c ps:=⟨hf.at h.1 (fun h=>h),h.2.calm hf⟩
theorem shValue_calls (h : ShAt w sb a c ps) (key : Int) (hsm : ps.length<=2 ^ 20) :
  Calls Tryz.prog 83 #[pv sb,.int .i64 key] w fun r w'=>r = .returned (.tuple #[.int .i64 (shVal ps key).1,.bool (shVal ps key).2])/\w' = w:=by
 have HP:=(mkH (PairsAt w a ps) <|h.2);have hc:=h.1.cell;clear h;unfold pv
 go_enter Tryz.func83,Tryz.ntmps83
 go_wp2
 go_loopw [6] (fun v wr=>∃ j : Nat,j<=ps.length/\v = .int .i64 j/\wr = w/\Hid (∀ p ∈ ps.take j,p.1≠key)) (fun v _=>ps.length - (intOf v).toNat)
 case atStart=>exact ⟨0,by omega,rfl,rfl,fun p hp=>by simp at hp⟩
 case round =>
  obtain ⟨j,hj,rfl,rfl,HN⟩:=hrel;by_cases hlt : j < ps.length
  ·have hx : Hid (ps[j]? = some ps[j]):=List.getElem?_eq_getElem hlt;generalize ps[j] = x at hx;obtain ⟨g,rfl,c0,c1⟩:=HP.out j x hx.out;by_cases hk : x.1 = key
   ·have hk' : (x.1 == key) = true:=by simpa using hk
    have HV : Hid (shVal ps key = (x.2,true)):=shVal_hit HN.out hx.out hk;clear hk;go_wp2;go_ret2;exact ⟨by rw [HV.out]; rfl,rfl⟩
   ·have hk' : (x.1 == key) = false:=by simpa using hk
    have HN2 : Hid (∀ p ∈ ps.take (j + 1),p.1≠key):=by
     intro p hp;rw [List.take_add_one,hx.out] at hp;rcases List.mem_append.1 hp with hp | hp
     ·exact HN.out p hp
     ·simp at hp; subst hp; exact hk
    clear hk;go_wp2
    go_roundw
    case rel=>exact ⟨j + 1,by omega,by go_num,trivial,HN2⟩
    case measure=>simp [intOf]; omega
  ·have HV : Hid (shVal ps key = (0,false)):=shVal_miss (by have:=HN.out; rwa [List.take_of_length_le (by omega)] at this);go_wp2;go_ret2;exact ⟨by rw [HV.out]; rfl,rfl⟩
theorem without_calls (h : ShAt w sb a c ps) (key : Int) (below : Bool) (hsm : ps.length<=2 ^ 20) :
  Calls Tryz.prog 84 #[pv sb,.int .i64 key,.bool below] w fun r w'=>∃ v,r = .returned v/\OwnPairs w w' v (ps.filter (shSide key below)):=by
 obtain ⟨iP,hiP,hzP,hsP,hbP⟩:=info_parts Tryz.infoPr;have HS:=(mkH (ShAt w sb a c ps) <|h);clear h;unfold pv
 go_enter Tryz.func84,Tryz.ntmps84
 go_wp2
 go_loopw [7,8] (fun v i wr=>∃ k : Nat,k<=ps.length/\i = .int .i64 k/\Hid (OwnPairs w wr v ((ps.take k).filter (shSide key below)))) (fun _ i _=>ps.length - (intOf i).toNat)
 case atStart=>exact ⟨0,Nat.zero_le _,rfl,⟨⟨by simp,.inl ⟨rfl,rfl⟩⟩,by intro k hk; simp [Value.ownBlock] at hk,Fr.refl _ _⟩⟩
 case round =>
  obtain ⟨k,hk,rfl,HO⟩:=hrel;have hsr:=HS.out.calm HO.out.fr;have hc:=hsr.1.cell;have HA:=(mkH (PairsAt wr a ps) <|hsr.2);clear hsr;by_cases hlt : k < ps.length
  ·have hx : Hid (ps[k]? = some ps[k]):=List.getElem?_eq_getElem hlt;generalize ps[k] = x at hx;obtain ⟨g,rfl,c0,c1⟩:=HA.out k x hx.out;have HN:=(show Hid _ from filter_take hx.out (shSide key below));clear HA;cases hin : shSide key below x
   ·have HI:=(mkH (shSide key below x = false) <|hin);cases below
    ·have hd : decide (x.1 > key) = false:=by simpa [shSide] using hin
     clear hin;go_wp2
     go_roundw
     case rel=>exact ⟨k + 1,by omega,by go_num,by show OwnPairs _ _ _ _; rw [HN.out,HI.out]; simpa using HO.out⟩
     case measure=>simp [intOf]; omega
    ·have hd : decide (x.1 < key) = false:=by simpa [shSide] using hin
     clear hin;go_wp2
     go_roundw
     case rel=>exact ⟨k + 1,by omega,by go_num,by show OwnPairs _ _ _ _; rw [HN.out,HI.out]; simpa using HO.out⟩
     case measure=>simp [intOf]; omega
   ·have HI:=(mkH (shSide key below x = true) <|hin);have HFL:=(mkH (((ps.take k).filter (shSide key below)).length<=2 ^ 40) <|Nat.le_trans (List.length_filter_le _ _) (by rw [List.length_take]; omega));have HH : Hid (∀ (g' cap : Nat) (w3 : World) (ob : Obj),w3.ownsRow 0 147 2 (.slice (some ⟨g',0,none⟩) (((ps.take k).filter (shSide key below)).length + 1) cap) (((ps.take k).filter (shSide key below)).length + 1) (((ps.take k).filter (shSide key below)).flatMap pairCells ++ [.int .i64 x.1,.int .i64 x.2])->(wr.alloc ob).grownBy w3 u7.ownBlock->(u7.ownBlock = some g'\/wr.heap.size + 1<=g')->OwnPairs w w3 (.slice (some ⟨g',0,none⟩) (((ps.take k).filter (shSide key below)).length + 1) cap) ((ps.take (k + 1)).filter (shSide key below))):=by
     intro g' cap w3 ob hown hgr hge;rw [HN.out,HI.out];refine ⟨?_,?_,Fr.grown (HO.out.fr.alloc _) hgr (fun k hk=>.inr (HO.out.new k hk))⟩
     ·simpa [pairCells] using hown
     ·intro q hq;simp [Value.ownBlock] at hq;subst hq;rcases hge with h | h
      ·exact HO.out.new _ h
      ·have:=HO.out.fr.size; first | omega | (simp at h; omega)
    cases below
    ·have hd : decide (x.1 > key) = true:=by simpa [shSide] using hin
     clear hin;go_wp2_with (at_builtin; refine wpList_push _ rfl _ _ 58 rfl 0 147 iP _ 2 16 Tryz.underlying58 hiP hzP hsP hbP rfl (by decide) _ _ _ rfl (ownsRow_alloc HO.out.row _) wr.heap.size [.int .i64 x.1,.int .i64 x.2] rfl rfl 147 (At.newAt (by simp) _ _) (by simp [Value.oneCell']) (by have:=HFL.out; unfold maxLen; omega) (by have:=HFL.out; omega) (by simp) ?_);intro g' cap w3 hown hgr hge;have HO3:=(mkH (OwnPairs _ _ _ _) <|HH.out g' cap w3 _ hown hgr hge);clear hown hgr hge;go_wp2
     go_roundw
     case rel=>exact ⟨k + 1,by omega,by go_num,HO3⟩
     case measure=>simp [intOf]; omega
    ·have hd : decide (x.1 < key) = true:=by simpa [shSide] using hin
     clear hin;go_wp2_with (at_builtin; refine wpList_push _ rfl _ _ 58 rfl 0 147 iP _ 2 16 Tryz.underlying58 hiP hzP hsP hbP rfl (by decide) _ _ _ rfl (ownsRow_alloc HO.out.row _) wr.heap.size [.int .i64 x.1,.int .i64 x.2] rfl rfl 147 (At.newAt (by simp) _ _) (by simp [Value.oneCell']) (by have:=HFL.out; unfold maxLen; omega) (by have:=HFL.out; omega) (by simp) ?_);intro g' cap w3 hown hgr hge;have HO3:=(mkH (OwnPairs _ _ _ _) <|HH.out g' cap w3 _ hown hgr hge);clear hown hgr hge;go_wp2
     go_roundw
     case rel=>exact ⟨k + 1,by omega,by go_num,HO3⟩
     case measure=>simp [intOf]; omega
  ·have hke : k = ps.length:=by omega
   subst hke;rw [List.take_length] at HO;go_wp2;go_ret;exact ⟨_,rfl,HO.out⟩
theorem cut_calls (h : ShAt w sb a c ps) (sp : Int × Int) (hsm : ps.length<=2 ^ 20) :
  Calls Tryz.prog 85 #[pv sb,.agg #[.int .i64 sp.1,.int .i64 sp.2]] w fun r w'=>∃ v,r = .returned v/\OwnPairs w w' v (ps.filter (inSpan sp)):=by
 obtain ⟨iP,hiP,hzP,hsP,hbP⟩:=info_parts Tryz.infoPr;have HS:=(mkH (ShAt w sb a c ps) <|h);have HB0:=(mkH (At (w.alloc (.cells #[.int .i64 sp.1,.int .i64 sp.2] 138)) w.heap.size [.int .i64 sp.1,.int .i64 sp.2] 138) <|At.new w [.int .i64 sp.1,.int .i64 sp.2] _);have HF0:=(mkH (Fr (fun _=>False) w (w.alloc (.cells #[.int .i64 sp.1,.int .i64 sp.2] 138))) <|(Fr.refl _ _).alloc _);clear h;unfold pv
 go_enter Tryz.func85,Tryz.ntmps85
 go_wp2
 go_loopw [5,6] (fun v i wr=>∃ k : Nat,k<=ps.length/\i = .int .i64 k/\Hid (OwnPairs w wr v ((ps.take k).filter (inSpan sp)))/\Hid (At wr w.heap.size [.int .i64 sp.1,.int .i64 sp.2] 138)/\Hid (v.ownBlock≠some w.heap.size)) (fun _ i _=>ps.length - (intOf i).toNat)
 case atStart =>
  refine ⟨0,Nat.zero_le _,rfl,⟨⟨by simp,.inl ⟨rfl,rfl⟩⟩,by intro k hk; simp [Value.ownBlock] at hk,HF0.out⟩,HB0,?_⟩;show _≠_;simp [Value.ownBlock]
 case round =>
  clear HB0 HF0;obtain ⟨k,hk,rfl,HO,HB,HNB⟩:=hrel;have hbc:=HB.out.cell;have hsr:=HS.out.calm HO.out.fr;have hc:=hsr.1.cell;have HA:=(mkH (PairsAt wr a ps) <|hsr.2);clear hsr;by_cases hlt : k < ps.length
  ·have hx : Hid (ps[k]? = some ps[k]):=List.getElem?_eq_getElem hlt;generalize ps[k] = x at hx;obtain ⟨g,rfl,c0,c1⟩:=HA.out k x hx.out;have HN:=(show Hid _ from filter_take hx.out (inSpan sp));clear HA;have HNo : Hid (inSpan sp x = false->∀ w2,Fr (fun _=>False) wr w2->∃ k' : Nat,k'<=ps.length/\Value.int .i64 ((k : Int) + 1) = .int .i64 k'/\Hid (OwnPairs w w2 u5 ((ps.take k').filter (inSpan sp)))/\Hid (At w2 w.heap.size [.int .i64 sp.1,.int .i64 sp.2] 138)/\Hid (u5.ownBlock≠some w.heap.size)):=by
    intro hin w2 hw2;exact ⟨k + 1,by omega,by go_num,by show OwnPairs _ _ _ _; rw [HN.out,hin]; simpa using HO.out.calm hw2,hw2.at HB.out (fun h=>h),HNB⟩
   by_cases h1 : x.1 ≥ sp.1
   ·have h1' : decide (x.1 ≥ sp.1) = true:=by simpa using h1
    by_cases h2 : x.1<=sp.2
    ·have h2' : decide (x.1<=sp.2) = true:=by simpa using h2
     have HI : Hid (inSpan sp x = true):=by show _ = _; simp [inSpan,isIn]; omega
     clear h1 h2;have HFL:=(mkH (((ps.take k).filter (inSpan sp)).length<=2 ^ 40) <|Nat.le_trans (List.length_filter_le _ _) (by rw [List.length_take]; omega));go_wp2_with fail
     go_quiet (fail)
     have HO2:=(mkH (OwnPairs w (wr.drewN nq) u5 _) <|HO.out.calm ((Fr.refl _ _).drewN _));have HB2:=(mkH (At (wr.drewN nq) w.heap.size _ _) <|HB.out.drewN _);go_wp2_with (at_builtin; refine wpList_push _ rfl _ _ 58 rfl 0 147 iP _ 2 16 Tryz.underlying58 hiP hzP hsP hbP rfl (by decide) _ _ _ rfl (ownsRow_alloc HO2.out.row _) wr.heap.size [.int .i64 x.1,.int .i64 x.2] rfl rfl 147 (At.newAt (by simp) _ _) (by simp [Value.oneCell']) (by have:=HFL.out; unfold maxLen; omega) (by have:=HFL.out; omega) (by simp) ?_);intro g' cap w3 hown hgr hge;have HO3 : Hid (OwnPairs w w3 (.slice (some ⟨g',0,none⟩) (((ps.take k).filter (inSpan sp)).length + 1) cap) ((ps.take (k + 1)).filter (inSpan sp))):=by
      show OwnPairs _ _ _ _;rw [HN.out,HI.out];refine ⟨?_,?_,Fr.grown (HO2.out.fr.alloc _) hgr (fun k hk=>.inr (HO2.out.new k hk))⟩
      ·simpa [pairCells] using hown
      ·intro q hq;simp [Value.ownBlock] at hq;subst hq;rcases hge with h | h
       ·exact HO2.out.new _ h
       ·have:=HO.out.fr.size; first | omega | (simp at h; omega)
     have HB3 : Hid (At w3 w.heap.size [.int .i64 sp.1,.int .i64 sp.2] 138):=(Fr.grown (S:=fun j=>u5.ownBlock = some j) (Fr.refl _ _) hgr (fun j hj=>.inl hj)).at (HB2.out.alloc _) HNB.out;have HNB3 : Hid ((Value.slice (some ⟨g',0,none⟩) (((ps.take k).filter (inSpan sp)).length + 1) cap).ownBlock≠some w.heap.size):=by
      show _≠_;intro e;simp [Value.ownBlock] at e;subst e;rcases hge with h | h
      ·exact HNB.out h
      ·have:=HB.out.lt; first | omega | (simp at h; omega)
     clear hown hgr hge HO2 HB2 HNB;go_wp2
     go_roundw
     case rel=>exact ⟨k + 1,by omega,by go_num,HO3,HB3,HNB3⟩
     case measure=>simp [intOf]; omega
    ·have h2' : decide (x.1<=sp.2) = false:=by simpa using h2
     have HI : Hid (inSpan sp x = false):=by show _ = _; simp [inSpan,isIn]; omega
     clear h1 h2;go_wp2_with fail
     go_quiet (fail)
     go_wp2
     go_roundw
     case rel=>exact HNo.out HI.out _ ((Fr.refl _ _).drewN _)
     case measure=>simp [intOf]; omega
   ·have h1' : decide (x.1 ≥ sp.1) = false:=by simpa using h1
    have HI : Hid (inSpan sp x = false):=by show _ = _; simp [inSpan,isIn]; omega
    clear h1;go_wp2_with fail
    go_quiet (fail)
    go_wp2
    go_roundw
    case rel=>exact HNo.out HI.out _ ((Fr.refl _ _).drewN _)
    case measure=>simp [intOf]; omega
  ·have hke : k = ps.length:=by omega
   have HO' : Hid (OwnPairs w wr u5 (ps.filter (inSpan sp))):=by
    have:=HO.out
    rw [hke,List.take_length] at this;exact this
   clear HO hke;go_wp2;go_ret;exact ⟨u5,rfl,HO'.out⟩
end
end
end Go.Proofs.YtfccelbmacjifaaGreat
