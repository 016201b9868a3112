import Derived.Test.YtfccelbmacjifabGreatP0
import Derived.Test.YtfccelbmacjifabGreatP29
import Derived.Test.YtfccelbmacjifabGreatRows
import Derived.Test.YtfccelbmacjifabGreatP25
import Derived.Test.YtfccelbmacjifabGreatP20
import Derived.ProofKit
import Derived.Lib.SmallJoins
import Derived.OpenShut
import Derived.ChangeOld
import Derived.JoinedCond
import Derived.Test.YtfccelbmacjifabGreatP28
set_option linter.unusedSimpArgs false
set_option maxRecDepth 100000
set_option maxHeartbeats 4000000
namespace Go.Proofs.YtfccelbmacjifabGreat
section
theorem fresh_nodes (nn : Nat) (es : List PEntry) (x : Int) : (⟨freshNodes nn,es⟩ : PMem).node x = if x = 0 then anchorNode else if x = 1 then endNode else PNode.zero:=by
 unfold PMem.node;have hl : (⟨freshNodes nn,es⟩ : PMem).hasNode x = true ↔ 0<=x/\x < nn + 2:=by
  unfold PMem.hasNode; rw [isIn_iff]; simp [freshNodes]; omega
 by_cases h : (⟨freshNodes nn,es⟩ : PMem).hasNode x = true
 ·rw [if_pos h];rw [hl] at h;by_cases h0 : x = 0
  ·subst h0; rfl
  ·rw [if_neg h0];by_cases h1 : x = 1
   ·subst h1; rfl
   ·rw [if_neg h1];obtain ⟨k,hk⟩ : ∃ k : Nat,x = k + 2:=⟨(x - 2).toNat,by omega⟩;have : x.toNat = k + 2:=by omega
    rw [this];show ((anchorNode :: endNode :: List.replicate nn PNode.zero)[k + 2]?).getD PNode.zero = _;simp only [List.getElem?_cons_succ];rw [List.getElem?_replicate];split <;> rfl
 ·rw [if_neg h];rw [hl] at h;rw [if_neg (by omega),if_neg (by omega)]
theorem count_flip {α : Type} (p : α->Bool) : ∀ {l : List α} {k : Nat} {x : α} (y : α),l[k]? = some x->count p l + (if p y then 1 else 0) = count p (l.set k y) + (if p x then 1 else 0)
 | [],k,x,y,h=>by simp at h
 | z :: r,0,x,y,h=>by
  simp at h; subst h;unfold count;rw [List.set_cons_zero,List.filter_cons,List.filter_cons];by_cases h1 : p z = true <;> by_cases h2 : p y = true <;> simp [h1,h2] <;> omega
 | z :: r,k + 1,x,y,h=>by
  have ih:=count_flip p (l:=r) (k:=k) (x:=x) y (by simpa using h);unfold count at *;rw [List.set_cons_succ,List.filter_cons,List.filter_cons];by_cases h1 : p z = true
  ·simp only [h1,if_true,List.length_cons]; omega
  ·simp only [h1,if_false,Bool.false_eq_true]; exact ih
theorem greatest_le (B : Int) : ∀ (l : List (Int × Int)) (m : Int),m<=B->(∀ p ∈ l,p.2<=B)->l.foldl (fun m p=>if p.2 > m then p.2 else m) m<=B
 | [],m,hm,_=>hm
 | p :: l,m,hm,h=>by
  rw [List.foldl_cons];refine greatest_le B l _ ?_ (fun q hq=>h q (by simp [hq]))
  have:=h p (by simp)
  split <;> omega
theorem spansOkX_hi : ∀ (l : List (Int × Int)),spansOkX l = true->∀ p ∈ l,p.2<=1099511627776
 | [],_,p,hp=>by cases hp
 | q :: l,h,p,hp=>by
  unfold spansOkX at h;simp only [Bool.and_eq_true,isIn_iff,decide_eq_true_eq] at h;rcases List.mem_cons.1 hp with rfl | hp
  ·have:=h.2.1.2; omega
  ·exact spansOkX_hi l h.2.2.2 p hp
theorem newWork_ok {kd ky va : Int} {sp : List (Int × Int)} (h : properB kd ky sp = true) : (newWork kd ky va sp).next = 1/\(newWork kd ky va sp).kind = kd/\(kd = 1\/kd = 2\/kd = 3\/kd = 4)/\(newWork kd ky va sp).locks = 0/\(newWork kd ky va sp).made = []/\(kd≠4->0<=(newWork kd ky va sp).key/\(newWork kd ky va sp).key<=1099511627776/\(newWork kd ky va sp).key = ky)/\(kd = 4->greatestHi (newWork kd ky va sp).spans<=1099511627776/\(newWork kd ky va sp).links = [(0,false)]/\(newWork kd ky va sp).spans = sp)/\(kd≠4->(newWork kd ky va sp).links = [])/\(kd = 1->(newWork kd ky va sp).value = va):=by
 have h0 : checkOp kd ky sp = 0:=of_decide_eq_true h;unfold checkOp at h0;by_cases h1 : kd = 1\/kd = 2\/kd = 3
 ·rw [if_pos h1] at h0;have hk : isIn ky 0 (2 ^ 40) = true:=by
   cases hh : isIn ky 0 (2 ^ 40)
   ·rw [hh] at h0; exact absurd h0 (by decide)
   ·rfl
  rw [isIn_iff] at hk;rcases h1 with e | e | e <;> subst e <;> simp [newWork,PWork.zero] <;> omega
 ·rw [if_neg h1] at h0;by_cases h4 : kd = 4
  ·subst h4;rw [if_pos rfl] at h0;have hk : (isIn sp.length 1 16 && spansOkX sp) = true:=by
    cases hh : (isIn sp.length 1 16 && spansOkX sp)
    ·rw [hh] at h0; exact absurd h0 (by decide)
    ·rfl
   rw [Bool.and_eq_true] at hk;refine ⟨rfl,rfl,.inr (.inr (.inr rfl)),rfl,rfl,fun e=>absurd rfl e,fun _=>⟨?_,rfl,rfl⟩,fun e=>absurd rfl e,fun e=>by cases e⟩;show greatestHi sp<=_;exact greatest_le _ sp 0 (by decide) (spansOkX_hi sp hk.2)
  ·rw [if_neg h4] at h0; exact absurd h0 (by decide)
section
variable {K : Kin} {κ : Int} {D D' : PlD} {i : Nat} {t : PThread} {o : OpV} {T N E L : Int}
theorem ok_begin (hok : D.ok) (hB : Begun D i t o D') : D'.ok:=by
 have hok' : D.bs = D.P.ts.map (·.busy):=hok;show D'.bs = D'.P.ts.map (·.busy);by_cases hh : t.busy = true\/properB o.kind o.key o.spans = false
 ·obtain ⟨q1,q2,_⟩:=hB.no hh;rw [q1,q2]; exact hok'
 ·simp only [not_or,Bool.not_eq_true,Bool.not_eq_false] at hh;obtain ⟨q1,q2,_⟩:=hB.yes hh.1 hh.2;rw [q1,q2,hok'];unfold PSt.setT;rw [List.map_set]
theorem cfg_trans {a b : PlD} (h : b.k = a.k/\b.t = a.t/\b.n = a.n/\b.e = a.e/\b.l = a.l) (g : a.k = κ/\a.t = T/\a.n = N/\a.e = E/\a.l = L) : b.k = κ/\b.t = T/\b.n = N/\b.e = E/\b.l = L:=by
 obtain ⟨a1,a2,a3,a4,a5⟩:=h;obtain ⟨b1,b2,b3,b4,b5⟩:=g;exact ⟨a1.trans b1,a2.trans b2,a3.trans b3,a4.trans b4,a5.trans b5⟩
end
end
section
open Go.ChangeShapes Go.WideShapes Go.ChangeAt Go.RowKit Go.Joins Go.Deep
theorem Tryz.own : ownKnob Tryz.prog.godebug = none:=by kernel_rfl
theorem Tryz.laidOut : laidOutB Tryz.prog = true:=by kernel_rfl
theorem Tryz.cellsConfig : Tryz.prog.cellsOf 23 = 5:=by kernel_rfl
theorem Tryz.cellsAct : Tryz.prog.cellsOf 29 = 7:=by kernel_rfl
theorem Tryz.cellsSpan : Tryz.prog.cellsOf 81 = 2:=by kernel_rfl
theorem Tryz.cellsSpans : Tryz.prog.cellsOf 27 = 1:=by kernel_rfl
theorem Tryz.cellsInt : Tryz.prog.cellsOf 3 = 1:=by kernel_rfl
theorem list5 {α : Type} {l : List α} (h : l.length = 5) : ∃ a b c d e,l = [a,b,c,d,e]:=by
 match l,h with
 | [a,b,c,d,e],_=>exact ⟨a,b,c,d,e,rfl⟩
theorem array5 {α : Type} {l : Array α} (h : l.size = 5) : ∃ a b c d e,l = #[a,b,c,d,e]:=by
 obtain ⟨l⟩:=l;obtain ⟨a,b,c,d,e,rfl⟩:=list5 (l:=l) h;exact ⟨a,b,c,d,e,rfl⟩
section
variable {H : Type} {enc : TypeId × Value->H} {P : Program} {w : World} {base : Nat} {spare : Nat->Bool} {held : Bool}
theorem trod_struct5 {t : TypeId} {f0 f1 f2 f3 f4 : Field} {fuel : Nat} {cs : List Value} {x : DataW H × List MemPlace} (ht : P.underlying t = some (.struct #[f0,f1,f2,f3,f4])) (h : DataW.trod enc P w base spare held fuel t cs = some x) :
  ∃ y0 y1 y2 y3 y4 n,DataW.trod enc P w base spare held n f0.type ((cs.drop f0.offset).take (P.cellsOf f0.type)) = some y0 /\
   DataW.trod enc P w base spare held n f1.type ((cs.drop f1.offset).take (P.cellsOf f1.type)) = some y1/\DataW.trod enc P w base spare held n f2.type ((cs.drop f2.offset).take (P.cellsOf f2.type)) = some y2 /\
   DataW.trod enc P w base spare held n f3.type ((cs.drop f3.offset).take (P.cellsOf f3.type)) = some y3/\DataW.trod enc P w base spare held n f4.type ((cs.drop f4.offset).take (P.cellsOf f4.type)) = some y4:=by
 obtain ⟨xs,n,_,rfl,hl,hlen,hf⟩:=DataW.trod_struct ht h;obtain ⟨y0,y1,y2,y3,y4,rfl⟩:=list5 (l:=xs) hlen;exact ⟨y0,y1,y2,y3,y4,n,by simpa using hf 0 f0 rfl,by simpa using hf 1 f1 rfl,by simpa using hf 2 f2 rfl,by simpa using hf 3 f3 rfl,by simpa using hf 4 f4 rfl⟩
def rawI (c : Int) : Prop:=-9223372036854775808<=c/\c<=9223372036854775807
theorem ints5 {r : Reach} {b0 : Nat} {t ti : TypeId} {f0 f1 f2 f3 f4 : Field} {v : Value} {d : DataW H} {p : List MemPlace} (hs : P.underlying t = some (.struct #[f0,f1,f2,f3,f4])) (hone : oneCellFields P #[f0,f1,f2,f3,f4] = true) (hC : P.cellsOf t = 5)
  (hi : P.underlying ti = some (.int .i64)) (h0 : f0.type = ti) (h1 : f1.type = ti) (h2 : f2.type = ti) (h3 : f3.type = ti) (h4 : f4.type = ti)
  (hv : Value.okWide P w r b0 t v) (h : DataW.Trod enc P w base spare held t v d p) : ∃ k t n e l : Int,v = cfg k t n e l/\rawI t/\rawI n/\rawI e/\rawI l:=by
 obtain ⟨cs,rfl,hsz⟩:=okWide_struct hs hv;obtain ⟨c0,c1,c2,c3,c4,rfl⟩:=array5 (hsz.trans hC);obtain ⟨fuel,hf⟩:=h;obtain ⟨y0,y1,y2,y3,y4,n,g0,g1,g2,g3,g4⟩:=trod_struct5 hs hf;obtain ⟨o0,k0⟩:=hone_of hone 0 f0 rfl;obtain ⟨o1,_⟩:=hone_of hone 1 f1 rfl;obtain ⟨o2,_⟩:=hone_of hone 2 f2 rfl;obtain ⟨o3,_⟩:=hone_of hone 3 f3 rfl;obtain ⟨o4,_⟩:=hone_of hone 4 f4 rfl;rw [h0] at k0;simp only [o0,o1,o2,o3,o4,h0,h1,h2,h3,h4,k0] at g0 g1 g2 g3 g4;obtain ⟨a0,e0,_,_⟩:=DataW.trod_int hi g0;obtain ⟨a1,e1,_,wf1⟩:=DataW.trod_int hi g1;obtain ⟨a2,e2,_,wf2⟩:=DataW.trod_int hi g2;obtain ⟨a3,e3,_,wf3⟩:=DataW.trod_int hi g3;obtain ⟨a4,e4,_,wf4⟩:=DataW.trod_int hi g4;have b1:=Go.bounds_i64 wf1;have b2:=Go.bounds_i64 wf2;have b3:=Go.bounds_i64 wf3;have b4:=Go.bounds_i64 wf4;simp [Value.cells] at e0 e1 e2 e3 e4;subst e0 e1 e2 e3 e4;exact ⟨a0,a1,a2,a3,a4,rfl,b1,b2,b3,b4⟩
end
theorem cfg_open {H : Type} {enc : TypeId × Value->H} {W : World} {r : Reach} {b0 base : Nat} {spare : Nat->Bool} {held : Bool} {v : Value} {d : DataW H} {p : List MemPlace}
  (hv : Value.okWide Tryz.prog W r b0 23 v) (h : DataW.Trod enc Tryz.prog W base spare held 23 v d p) : ∃ k t n e l : Int,v = cfg k t n e l/\rawI t/\rawI n/\rawI e/\rawI l :=
 ints5 Tryz.underlying23 (by kernel_rfl) Tryz.cellsConfig Tryz.underlying3 rfl rfl rfl rfl rfl hv h
theorem bulk_one {H : Type} (d : DataW H) : 1<=Rows.uptoBulk d:=by
 cases d with
 | lit l=>cases l <;> simp [Rows.uptoBulk]
 | nil=>simp [Rows.uptoBulk]
 | ptr d=>simp [Rows.uptoBulk]
 | slice elems spare=>simp [Rows.uptoBulk]
 | agg parts=>simp [Rows.uptoBulk]
 | iface t d=>simp [Rows.uptoBulk]
 | map entries=>simp [Rows.uptoBulk]
 | held h=>simp [Rows.uptoBulk]
theorem bulk_part {H : Type} {d : DataW H} : ∀ {l : List (DataW H)},d ∈ l->Rows.uptoBulk d<=Rows.uptoBulkAll l
 | [],h=>by cases h
 | x :: r,h=>by
  simp only [Rows.uptoBulkAll];rcases List.mem_cons.1 h with rfl | e
  ·omega
  ·have:=bulk_part e; omega
theorem bulk_len {H : Type} : ∀ (l : List (DataW H)),l.length<=Rows.uptoBulkAll l
 | []=>by simp
 | x :: r=>by have h1:=bulk_one x; have h2:=bulk_len r; simp only [Rows.uptoBulkAll,List.length_cons]; omega
theorem acts_open {H : Type} {enc : TypeId × Value->H} {W : World} {r : Reach} {b0 base : Nat} {spare : Nat->Bool} {held : Bool} {v : Value} {d : DataW H} {p : List MemPlace}
  (hv : Value.okWide Tryz.prog W r b0 24 v) (h : DataW.Trod enc Tryz.prog W base spare held 24 v d p) :
  ∃ sa n c,∃ acts : List ActD,v = .slice sa n c/\n<=Rows.uptoBulk d/\acts.length = n/\∀ i a,acts[i]? = some a->ActIn W sa i a/\a.sn<=Rows.uptoBulk d:=by
 obtain ⟨fuel,hf⟩:=h;obtain ⟨sa0,n0,c0,rfl⟩:=okWide_slice Tryz.underlying24 hv;obtain ⟨sa,n,c,acts,e,h1,h2,h3⟩:=script_open (B:=Rows.uptoBulk) Tryz.underlying24 Tryz.underlying29 Tryz.cellsAct rfl rfl rfl rfl rfl rfl rfl rfl rfl rfl rfl rfl rfl rfl Tryz.cellsInt Tryz.underlying3 Tryz.cellsSpans
  Tryz.underlying27 Tryz.underlying81 Tryz.cellsSpan rfl rfl rfl rfl
  (fun elems sp=>by have:=bulk_len elems; simp only [Rows.uptoBulk]; omega) (fun elems sp d hd=>by have:=bulk_part hd; simp only [Rows.uptoBulk]; omega) (fun parts d hd=>by have:=bulk_part hd; simp only [Rows.uptoBulk]; omega) hf
 simp [Value.cells] at e;obtain ⟨rfl,rfl,rfl⟩:=e;exact ⟨_,_,_,acts,rfl,h1,h2,h3⟩
end
section
open Go.ChangeShapes Go.WideShapes Go.ChangeAt Go.RowKit Go.Joins Go.Deep
def LawHolds (fn : Nat) : Prop:=∀ (k t n e l : Int) (W : World) (sa : Option Addr) (c : Nat) (acts : List ActD),rawI t->rawI n->rawI e->rawI l->acts.length<=2 ^ 20->(∀ i a,acts[i]? = some a->ActIn W sa i a/\a.sn<=2 ^ 20) ->
 Calls Tryz.prog fn #[cfg k t n e l,.slice sa acts.length c] W fun r W'=>r = .returned (.bool true)/\Fr (fun _=>False) W W'
end
section
open Go.RowKit
def PlOn (W w : World) (pb : Nat) (Q : PlD->Prop) : Prop:=∃ own D,PlAt own 1 w pb D/\Ext own00 own W/\Fr (fun _=>False) W w/\Q D
section
variable {K : Kin} {W w w1 : World} {own : Own} {pb : Nat} {D : PlD} {f b : Nat} {J Q : PlD->Prop} {T Nn E L : Int}
theorem PlOn.goes (hE : Ext own00 own W) (hF : Fr (fun _=>False) W w) (h : PlGoes own 1 w pb w1 Q) : PlOn W w1 pb Q:=by
 obtain ⟨own1,D1,h1,h2,h3,h4⟩:=h;refine ⟨own1,D1,h1,Ext.trans hE h2 hF.size,?_,h4⟩;refine Fr.transNew hF h3 ?_;intro k hk;right;rcases Nat.lt_or_ge k W.heap.size with hlt | hge
 ·rw [hE k hlt] at hk;simp [own00] at hk
 ·exact hge
theorem played_calls (hJ : Plays K f T Nn E L J) (hfr : ∀ D,FreshPl K.κ T Nn E L D->J D) (hok : okCfg K.κ T Nn E L = true) (hf : (f : Int) < T) (W : World) (sa : Option Addr) (c : Nat) (acts : List ActD) (hlen : acts.length<=2 ^ 20) (hacts : ∀ i a,acts[i]? = some a->ActIn W sa i a/\a.sn<=2 ^ 20) :
  Calls Tryz.prog 26 #[cfg K.κ T Nn E L,.slice sa acts.length c,.int .i64 f] W fun r W'=>∃ pb,r = .returned (pv pb)/\PlOn W W' pb (fun D=>J D/\Sz (400 * acts.length) D):=by
 have HJ:=(mkH (Plays K f T Nn E L J/\(f : Int) < T) <|⟨hJ,hf⟩);have HFr:=(mkH (∀ D,FreshPl K.κ T Nn E L D->J D) <|hfr);have HOk:=(mkH (okCfg K.κ T Nn E L = true) <|hok);have HAc:=(mkH (∀ i a,acts[i]? = some a->ActIn W sa i a/\a.sn<=2 ^ 20) <|hacts);clear hJ hfr hok hf hacts;have HPl:=(mkH (∀ w,Calls Tryz.prog 16 #[cfg K.κ T Nn E L] w _) <|fun w=>player_calls K.κ T Nn E L w own00 1 HOk.out);unfold cfg at HPl ⊢
 go_enter Tryz.func26,Tryz.ntmps26
 go_wp2_with fail;refine Calls.mono (HPl.out _) ?_;rintro r w2 ⟨pb,rfl,own,D,hP,hE0,hD,hF2⟩;have HOn:=(mkH (PlOn W w2 pb (fun D=>J D/\Sz (400 * 0) D)) <|by
  refine ⟨own,D,hP,fun k hk=>hE0 k (Nat.lt_of_lt_of_le hk ((Fr.refl (fun _=>False) W).alloc _).size),((Fr.refl _ _).alloc _).trans hF2,HFr.out D hD,?_⟩;unfold Sz;rw [hD.N,hD.deeds,hD.cnt.1,hD.cnt.2]
  simp)
 clear hP hE0 hD hF2 HPl HOk;unfold pv;go_wp2
 go_loopw [8] (fun v wr=>∃ j : Nat,j<=acts.length/\v = .int .i64 j/\Hid (PlOn W wr pb (fun D=>J D/\Sz (400 * j) D))) (fun v _=>acts.length - (intOf v).toNat)
 case atStart=>exact ⟨0,by omega,rfl,HOn⟩
 case round =>
  clear HOn;obtain ⟨j,hj,rfl,HOn⟩:=hrel;by_cases hlt : j < acts.length
  ·obtain ⟨own1,D1,hP1,hE1,hF1,hj1,hS1⟩:=HOn.out;have hx : acts[j]? = some acts[j]:=List.getElem?_eq_getElem hlt;obtain ⟨hai,hasn⟩:=HAc.out j _ hx;generalize acts[j] = a at hx hai hasn;obtain ⟨ab,off,rfl,hcl,hsp,hmm,htt⟩:=hai.keep hF1;have HAct:=(mkH (Calls _ _ _ _ _) <|Pact_calls HJ.out.1 hP1 hj1 hS1 (by omega) HJ.out.2 a hsp hasn hmm htt);have HX:=(mkH (Ext own00 own1 W/\Fr (fun _=>False) W wr) <|⟨hE1,hF1⟩);have c0:=hcl 0 _ rfl;have c1:=hcl 1 _ rfl;have c2:=hcl 2 _ rfl;have c3:=hcl 3 _ rfl;have c4:=hcl 4 _ rfl;have c5:=hcl 5 _ rfl;have c6:=hcl 6 _ rfl;obtain ⟨kd,tt,o,ky,va,m,psa,psn,psc,sps⟩:=a;simp only [Nat.add_zero,<- Nat.add_assoc] at c0 c1 c2 c3 c4 c5 c6;unfold pv actVal at HAct;simp only at HAct;clear hP1 hE1 hF1 hj1 hS1 hx hai hasn hcl hsp hmm htt HOn;go_wp2_with fail;refine Calls.mono HAct.out ?_;rintro r w4 ⟨rfl,hg⟩;have HOn2:=(mkH (PlOn W w4 pb (fun D=>J D/\Sz (400 * (j + 1)) D)) <|PlOn.goes HX.out.1 HX.out.2 hg);clear hg HAct c0 c1 c2 c3 c4 c5 c6;go_wp2
   go_roundw
   case rel=>exact ⟨j + 1,by omega,by go_num,HOn2⟩
   case measure=>simp [intOf]; omega
  ·have hje : Hid (j = acts.length):=by show j = acts.length; omega
   have HR:=(mkH (PlOn W wr pb (fun D=>J D/\Sz (400 * acts.length) D)) <|by rw [<- hje.out]; exact HOn.out);clear HOn;go_wp2;go_ret;exact ⟨pb,rfl,HR.out⟩
end
end
section
namespace T
theorem unpend_ns (M : PMem) (n : Int) (s : Bool) : (M.unpend n s).ns = M.ns:=by unfold PMem.unpend; split <;> rfl
theorem stamp_ns (M : PMem) (n : Int) (s : Bool) (st : Int) : (M.stamp n s st).ns = M.ns:=by unfold PMem.stamp; split <;> rfl
theorem stampsNew_ns (st : Int) : ∀ (l : List Int) (M : PMem),(M.stampsNew st l).ns = M.ns
 | [],_=>rfl
 | n :: l,M=>by
  show ((M.stampNew n st).stampsNew st l).ns = _;rw [stampsNew_ns st l];unfold PMem.stampNew;rw [stamp_ns,stamp_ns]
theorem pend_len (M : PMem) (n : Int) (s : Bool) (to : Int) : (M.pend n s to).ns.length = M.ns.length:=by rw [pend_ns]
theorem addLink_len (M : PMem) (n to : Int) : (M.addLink n to).ns.length = M.ns.length:=by
 unfold PMem.addLink;split
 ·split
  ·rw [pend_len,modN_len]
  ·rw [pend_len,modN_len]
  ·rfl
 ·rfl
theorem make_len (M : PMem) (a b : Int) : (M.make a b).1.ns.length = M.ns.length:=by unfold PMem.make; split <;> simp
theorem free_len (M : PMem) (n : Int) : (M.free n).ns.length = M.ns.length:=by unfold PMem.free; split <;> simp
theorem frees_len : ∀ (l : List Int) (M : PMem),(M.frees l).ns.length = M.ns.length
 | [],_=>rfl
 | n :: l,M=>by show ((M.free n).frees l).ns.length = _; rw [frees_len l,free_len]
theorem freesIf_len (ht : Bool) (tm : Int) : ∀ (l : List Nat) (M : PMem),(M.freesIf ht tm l).ns.length = M.ns.length
 | [],_=>rfl
 | n :: l,M=>by
  unfold PMem.freesIf;rw [freesIf_len ht tm l];split
  ·exact free_len _ _
  ·rfl
theorem kills_len : ∀ (l : List Int) (M : PMem),(M.kills l).ns.length = M.ns.length
 | [],_=>rfl
 | n :: l,M=>by show ((M.kill n).kills l).ns.length = _; rw [kills_len l]; exact modN_len _ _ _
theorem retires_len (tm : Int) : ∀ (l : List Int) (M : PMem),(M.retires tm l).ns.length = M.ns.length
 | [],_=>rfl
 | n :: l,M=>by show ((M.retire n tm).retires tm l).ns.length = _; rw [retires_len tm l]; exact modN_len _ _ _
theorem lock_len (M : PMem) (n t : Int) : (M.lock n t).1.ns.length = M.ns.length:=by
 unfold PMem.lock;split
 ·split
  ·rfl
  ·exact modN_len _ _ _
 ·rfl
theorem lead_len (M : PMem) (n : Int) (s : Bool) : (M.lead n s).ns.length = M.ns.length:=by
 unfold PMem.lead; split
 ·exact modN_len _ _ _
 ·rfl
theorem unlock_len (M : PMem) (t : Int) : (M.unlock t).ns.length = M.ns.length:=by simp [PMem.unlock]
theorem sum_le (f : PThread->Nat) (K : Nat) : ∀ (l : List PThread),(∀ t ∈ l,f t<=K)->(l.map f).sum<=l.length * K
 | [],_=>by simp
 | a :: l,h=>by
  have ih:=sum_le f K l (fun t ht=>h t (by simp [ht]));have ha:=h a (by simp);simp only [List.map_cons,List.sum_cons,List.length_cons,Nat.add_mul];omega
theorem filt_len {α : Type} (p : α->Bool) (l : List α) : count p l<=l.length:=by unfold count; exact List.length_filter_le _ _
theorem join_len (M : PMem) (a b : Int) : (M.join a b).1.ns.length = M.ns.length:=by
 unfold PMem.join;simp only;rw [addLink_len,addLink_len,make_len]
section
variable {g g' : Gh} {M M' : PMem} {c c' T : Int} {r r' : PSweep} {i j : Nat} {t t' u : PThread} {ts ts' : List PThread} {P P' : PSt} {x d st : Int} {s : Bool} {key : Int} {k : PWork} {tr : Tr} {L n n' : Nat}
theorem step_len : (P.step i t).1.mem.ns.length = P.mem.ns.length:=by
 unfold PSt.step;split
 ·rfl
 ·rfl
 ·rfl
 ·rfl
 ·split
  ·unfold PSt.read;simp only;split <;> rfl
  ·unfold PSt.update;split
   ·rfl
   ·unfold PSt.lock;split
    ·split
     ·exact lock_len _ _ _
     ·rfl
    ·rfl
   ·show (P.check i t.work).mem.ns.length = _;unfold PSt.check;split
    ·exact unlock_len _ _
    ·split <;> rfl
   ·show (P.prepare i t.work).mem.ns.length = _;unfold PSt.prepare;split
    ·rfl
    ·show (if t.work.kind = 1 then P.prepareInsert t.work else P.prepareRemove t.work).1.ns.length = _;split
     ·unfold PSt.prepareInsert;simp only;split
      ·show ((((P.mem.make _ _).1.addLink _ _).pend _ _ _)).ns.length = _;rw [pend_len,addLink_len,make_len]
      ·show ((((P.mem.make _ _).1.join _ _).1.pend _ _ _)).ns.length = _;rw [pend_len,join_len,make_len]
     ·unfold PSt.prepareRemove;simp only;split <;> exact pend_len _ _ _ _
   ·show (P.take i t.work).mem.ns.length = _;unfold PSt.take;split
    ·show ((P.mem.unpend _ _).frees _).ns.length = _;rw [frees_len,unpend_ns]
    ·simp only;split
     ·rfl
     ·show (P.mem.stampsNew _ _).ns.length = _;rw [stampsNew_ns]
   ·exact kills_len _ _
   ·exact lead_len _ _ _
   ·show (P.mem.stamp _ _ _).ns.length = _;rw [stamp_ns]
   ·show (P.unlock i t.work).mem.ns.length = _;unfold PSt.unlock;simp only;show (if _ then _ else _ : PMem).ns.length = _;split
    ·rw [retires_len,unlock_len]
    ·exact unlock_len _ _
   ·rfl
theorem sweep_len : P.doSweep.1.mem.ns.length = P.mem.ns.length:=by
 unfold PSt.doSweep;simp only;split
 ·rfl
 ·split
  ·split <;> rfl
  ·split
   ·rfl
   ·exact freesIf_len _ _ _ _
theorem Inv.bound (h : Inv g P) (hV : InvV g P) (hR : InvR g P) (N : Nat) (hl : P.mem.ns.length = N + 2) : Phi (N + 2) g P<=P.ts.length * ((P.ts.length + 2) * (N + 16)):=by
 unfold Phi;refine sum_le _ _ _ ?_;intro t ht;obtain ⟨i,hi⟩:=List.mem_iff_getElem?.1 ht;have hT:=h.th i t hi;have hu:=filt_len unl P.ts;generalize hcu : count unl P.ts = u at *;have e1 : (P.ts.length + 2) * (N + 16) = (P.ts.length + 1) * (N + 4) + (P.ts.length + 1) * 12 + (N + 16):=by
  rw [show P.ts.length + 2 = (P.ts.length + 1) + 1 by omega,Nat.add_mul (P.ts.length + 1) 1,show N + 16 = (N + 4) + 12 by omega,Nat.mul_add (P.ts.length + 1)]; omega
 rw [e1];have e2 : ∀ s,s<=1->(u + s) * (N + 2 + 2)<=(P.ts.length + 1) * (N + 4):=fun s hs=>Nat.mul_le_mul (by omega) (by omega)
 by_cases hb : t.busy = true
 ·have hnx:=hT.nx hb;by_cases hr : t.work.kind = 3\/t.work.kind = 4
  ·rcases hT.rd hb hr with h4 | h13
   ·rcases (show t.work.next = 4\/t.work.next<=3 by omega) with e | e
    ·rw [phi_r4 hb hr e];obtain ⟨hv,t0,t1⟩:=hV.rd i t hi ⟨hb,hr,by omega,by omega⟩;have hg:=hV.gts _ t0 t1;have hsz:=hv.size hg.dj hg.z;have hle : rs g t.work<=(g.V t.work.time).size:=by
      unfold rs;rcases hr with hr | hr
      ·rw [if_pos hr];have e1:=Tr.len_size (k:=t.work.key) (g.V t.work.time);have e2:=Tr.rem_len (k:=t.work.key) (g.V t.work.time) t.work.stand;split <;> omega
      ·rw [if_neg (by omega)];obtain ⟨W,w1,_,w3,_⟩:=(hR i t hi).sc hb hr e;rw [Stk.lsz hg.dj hg.z w1]; exact w3
     omega
    ·rw [phi_r3 hb hr e]; omega
   ·rw [phi_r13 hb hr h13]; omega
  ·have hs:=e2 _ (stale_le g P.mem P.clock P.ts t.work);rcases (show 7<=t.work.next\/t.work.next = 6\/t.work.next = 5\/t.work.next = 4\/t.work.next<=3 by omega) with e | e | e | e | e
   ·rw [phi_u7 hb hr e]; omega
   ·rw [phi_u6 hb hr e]; omega
   ·rw [phi_u5 hb hr e]; omega
   ·rw [phi_u4 hb hr e]
    have:=wp_le (L:=N + 2) (by omega) g P.mem P.clock P.ts t.work.stand
    omega
   ·rw [phi_u3 hb hr e]
    have:=e2 0 (by omega)
    simp only [Nat.add_zero] at this;omega
 ·rw [phi_idle (by simpa using hb)]; omega
end
theorem fresh_seen (nn en : Nat) (he : 1<=en) : Wm (freshMem nn en)/\(freshMem nn en).ns.length = nn + 2/\(∀ x,(freshMem nn en).node x = if x = 0 then linked false 1 anchorNode else if x = 1 then endNode else PNode.zero)/\(∀ x b,Pd (freshMem nn en) x b = [])/\(∀ x b s d,Sd (freshMem nn en) x b s d ↔ x = 0/\b = false/\s = 0/\d = 1):=by
 have hz : ∀ e ∈ List.replicate en PEntry.zero,e = PEntry.zero:=fun e he=>(List.mem_replicate.1 he).2
 obtain ⟨M0,hM0⟩ : ∃ M0 : PMem,M0 = ⟨freshNodes nn,List.replicate en PEntry.zero⟩:=⟨_,rfl⟩;have hn0 : ∀ x,M0.node x = if x = 0 then anchorNode else if x = 1 then endNode else PNode.zero:=fun x=>by rw [hM0]; exact fresh_nodes nn _ x
 have hw0 : Wm M0:=by
  refine ⟨by rw [hM0]; simp [freshNodes],?_,?_⟩
  ·intro e he _; rw [hM0] at he; exact hz e he
  ·intro x hx;rw [hn0] at hx ⊢;by_cases h0 : x = 0
   ·rw [if_pos h0] at hx; exact nomatch hx
   ·rw [if_neg h0] at hx ⊢;by_cases h1 : x = 1
    ·rw [if_pos h1] at hx; exact nomatch hx
    ·rw [if_neg h1]
 have hp0 : ∀ x b,Pd M0 x b = []:=by
  intro x b;rw [hM0];unfold Pd;rw [List.filter_eq_nil_iff.2]
  ·rfl
  ·intro e he; rw [hz e he,isPd_z]; decide
 have hs0 : ∀ x b s d,¬ Sd M0 x b s d:=by
  rintro x b s d ⟨e,he,h1,_⟩;rw [hM0] at he;rw [hz e he,isSt_z] at h1; cases h1
 have hr0 : 0 < M0.room.2:=by
  rw [hM0];unfold PMem.room;simp only;have : count (fun x : PEntry=>!x.used) (List.replicate en PEntry.zero) = en:=by
   unfold count;rw [List.filter_eq_self.2]
   ·simp
   ·intro e he; rw [hz e he]; rfl
  rw [this]; omega
 obtain ⟨g1,g2,g3,g4,g5,_⟩:=addLink_e (n:=0) (to:=1) (s:=false) hw0 (by rw [hn0,if_pos rfl]; rfl) (by rw [hn0,if_pos rfl]; rfl) (hp0 0 false) hr0;have hfm : freshMem nn en = (M0.addLink 0 1).stampNew 0 0:=by rw [hM0]; rfl
 generalize M0.addLink 0 1 = M1 at *;obtain ⟨s1,s2,s3,s4⟩:=stamp_e (n:=0) (d:=1) (s:=false) 0 g2 (by rw [g4,if_pos ⟨rfl,rfl⟩]);have hfm2 : freshMem nn en = M1.stamp 0 false 0:=by
  rw [hfm];unfold PMem.stampNew;rw [stamp_no (M:=M1.stamp 0 false 0) (by rw [s3,if_neg (by simp),g4,if_neg (by simp)]; exact hp0 0 true)]
 rw [hfm2];refine ⟨s2,?_,?_,?_,?_⟩
 ·rw [s1,g1,hM0]; simp [freshNodes]
 ·intro x;rw [node_ns s1,g3];split
  ·rw [hn0,if_pos rfl]
  ·next h=>rw [hn0,if_neg h]
 ·intro x b;rw [s3];split
  ·rfl
  ·next h=>rw [g4,if_neg h]; exact hp0 x b
 ·intro x b s d;rw [s4,g5];constructor
  ·rintro (h | h)
   ·exact absurd h (hs0 x b s d)
   ·exact h
  ·exact .inr
def newG : Gh:=⟨fun _=>.lf 1 1099511627777 0,fun _=>0,fun _ _=>False,fun _=>False⟩
theorem newG_gt : Gt (newG.V 0):=by
 refine ⟨trivial,?_,trivial,⟨rfl,rfl,rfl⟩,?_⟩
 ·intro e; have : (0 : Int) = 1:=e; omega
 ·intro x k v h h1; exact absurd h.1 h1
theorem inv_fresh {T N E L : Int} (hE : 1<=E) : Inv newG (freshP 1 T N E L)/\InvV newG (freshP 1 T N E L)/\InvR newG (freshP 1 T N E L)/\(freshP 1 T N E L).mem.ns.length = N.toNat + 2:=by
 obtain ⟨w1,w2,w3,w4,w5⟩:=fresh_seen N.toNat E.toNat (by omega);have hm : (freshP 1 T N E L).mem = freshMem N.toNat E.toNat:=rfl;have hts : ∀ (i : Nat) t,(freshP 1 T N E L).ts[i]? = some t->t = PThread.zero:=fun i t ht=>(List.mem_replicate.1 (List.mem_of_getElem? ht)).2
 have nb : ∀ (i : Nat) t,(freshP 1 T N E L).ts[i]? = some t->t.busy = false:=fun i t ht=>by rw [hts i t ht]; rfl
 have nex : ∀ {p : PThread->Prop},(∀ t,p t->t.busy = true)->¬ Ex (freshP 1 T N E L).ts p:=by
  rintro p hp ⟨i,t,ht,hh⟩
  have:=hp t hh
  rw [nb i t ht] at this; cases this
 have nd:=w3;have us : ∀ x,Us (freshMem N.toNat E.toNat) x->x = 0\/x = 1:=by
  intro x hx;simp only [Us] at hx; rw [nd] at hx;by_cases h0 : x = 0
  ·exact .inl h0
  ·by_cases h1 : x = 1
   ·exact .inr h1
   ·rw [if_neg h0,if_neg h1] at hx; exact nomatch hx
 have nde : ∀ x,((freshMem N.toNat E.toNat).node x).dead = false/\((freshMem N.toNat E.toNat).node x).retired = false:=by
  intro x; rw [nd]; split
  ·exact ⟨rfl,rfl⟩
  ·split <;> exact ⟨rfl,rfl⟩
 have n0 : (freshMem N.toNat E.toNat).node 0 = linked false 1 anchorNode:=by rw [nd,if_pos rfl]
 have n1 : (freshMem N.toNat E.toNat).node 1 = endNode:=by rw [nd,if_neg (by decide),if_pos rfl]
 have nin : ∀ {p : Prop} {x : Int},(newG.V 0).Inn x->p:=fun h=>h.elim
 have gd : ∀ x,Gd newG 0 (freshP 1 T N E L).ts x ↔ x = 1:=by
  intro x;constructor
  ·rintro ⟨e | e,_⟩
   ·exact e.elim
   ·exact e
  ·rintro rfl; exact ⟨.inr rfl,nex (fun t h=>h.1)⟩
 have n1l : Ln (freshMem N.toNat E.toNat) 1 = 0:=by simp only [Ln]; rw [n1]; rfl
 have hN : InvN newG (freshMem N.toNat E.toNat) 0 PSweep.zero (freshP 1 T N E L).ts:=by
  refine ⟨newG_gt,⟨fun x q h=>h.elim,?_⟩,?_,?_,?_,fun x h=>h.elim,?_,fun x h=>h.elim,?_,?_,?_,?_,?_,fun x s h=>h.elim,fun x k h=>h.elim,fun x=>Int.le_refl _⟩
  ·rintro x q w ⟨rfl,rfl,rfl⟩;simp only [Us,Ln,Ky]; rw [n1]; exact ⟨rfl,rfl,rfl,rfl⟩
  ·simp only [Us,Ln]; rw [n0]; exact ⟨rfl,rfl,rfl,rfl⟩
  ·intro x _; exact nde x
  ·intro x hx;rcases us x hx with e | e
   ·exact .inl e
   ·exact .inr (.inl e)
  ·intro x hx; simp only [De] at hx; rw [(nde x).1] at hx; cases hx
  ·intro x hx; simp only [Re] at hx; rw [(nde x).2] at hx; cases hx
  ·intro x hx; simp only [De] at hx; rw [(nde x).1] at hx; cases hx
  ·rintro x s d ⟨rfl,rfl,rfl⟩;left; simp only [Ld]; rw [n0]; rfl
  ·intro x s hx hs;have h0 : x = 0:=by
    rcases hx with e | ⟨e1,e2⟩
    ·exact e
    ·rw [gd] at e2; subst e2; omega
   have hs':=hs h0;subst h0; subst hs';have hl : Ld (freshMem N.toNat E.toNat) 0 false = 1:=by simp only [Ld]; rw [n0]; rfl
   rw [hl,gd];refine ⟨rfl,fun e=>by omega,fun e=>?_,?_⟩
   ·simp only [Re] at e; rw [(nde 1).2] at e; cases e
   ·rintro ⟨n,hn,_⟩; cases hn
  ·intro x s k hx _ hs hl;exfalso;have h0 : x = 0:=by
    rcases hx with e | ⟨e1,e2⟩
    ·exact e
    ·rw [gd] at e2; subst e2; omega
   subst h0;have : s = false:=by rw [<- hs]; exact sd0 (by simp only [Ln]; rw [n0]; rfl) k
   subst this;have hld : Ld (freshMem N.toNat E.toNat) 0 false = 1:=by simp only [Ld]; rw [n0]; rfl
   rw [hld] at hl; omega
 have hI : Inv newG (freshP 1 T N E L):=by
  refine ⟨rfl,w1,hN,⟨?_,?_⟩,⟨?_,?_,?_,?_,?_,?_,fun _=>⟨rfl,rfl⟩⟩,?_⟩
  ·intro x s st d hd;rw [hm] at hd;obtain ⟨rfl,rfl,rfl,rfl⟩:=(w5 x s st d).1 hd;rw [hm]; simp only [Us,Ln]; rw [n0];exact ⟨rfl,Int.le_refl _,Int.le_refl _,by decide⟩
  ·intro x s d hd; rw [hm,w4] at hd; cases hd
  ·intro x hx;rw [hm] at hx ⊢;left;simp only [Ho];rcases us x hx with e | e
   ·rw [e,n0]; rfl
   ·rw [e,n1]; rfl
  ·intro a b u v x ha hb hu _; have:=hu.1; rw [nb a u ha] at this; cases this
  ·intro a b u v x x' y ha hb hu _; have:=hu.1; rw [nb a u ha] at this; cases this
  ·rintro x ⟨n,hn,_⟩; cases hn
  ·exact ⟨Int.le_refl _,Int.le_refl _⟩
  ·show 0<=_; omega
  ·intro i t ht;have htz:=hts i t ht;subst htz;refine Th.low (fun b=>nomatch b) (fun b=>nomatch b) (fun b=>nomatch b) rfl (fun b=>nomatch b) ?_ (fun b=>nomatch b) (fun b=>nomatch b) (fun b=>nomatch b) (fun b=>nomatch b) (fun b=>nomatch b) (fun b=>nomatch b) (fun b=>nomatch b) (fun b=>nomatch b);intro x hx h;rw [hm] at hx h;simp only [Ho] at h;rcases us x hx with e | e
   ·rw [e,n0] at h; have : (-1 : Int) = i:=h; omega
   ·rw [e,n1] at h; have : (-1 : Int) = i:=h; omega
 refine ⟨hI,⟨?_,fun T' _ _=>newG_gt,?_⟩,?_,w2⟩
 ·refine hI.nowOf ?_;rintro x s d ⟨rfl,rfl,rfl⟩;refine ⟨0,.inl (by rw [hm,w5]; exact ⟨rfl,rfl,rfl,rfl⟩),?_⟩;rintro st' d' (e | ⟨e,_⟩)
  ·rw [hm,w5] at e; exact .inr ⟨e.2.2.1,e.2.2.2⟩
  ·exact absurd e (nex (fun t h=>h.1))
 ·intro i t ht hr; have:=hr.1; rw [nb i t ht] at this; cases this
 ·intro i t ht;have htz:=hts i t ht;subst htz;exact ⟨(fun b=>nomatch b),(fun b=>nomatch b),(fun b=>nomatch b),(fun b=>nomatch b),(fun b=>nomatch b)⟩
end T
end
section
namespace T
section
variable {g g' : Gh} {i j : Nat} {t t' u : PThread} {P P' : PSt} {N n n' : Nat}
structure All (g : Gh) (P : PSt) : Prop where
 i : Inv g P
 v : InvV g P
 r : InvR g P
theorem All.step (h : All g P) (ht : P.ts[i]? = some t) (hb : t.busy = true) : All (nextG g P i t) (P.step i t).1:=⟨h.i.step ht hb,h.v.step h.i ht hb,h.r.step h.v h.i ht hb⟩
theorem All.sweep (h : All g P) : All (sweepG g P) P.doSweep.1:=⟨h.i.sweep,h.v.sweep h.i,h.r.sweep⟩
theorem All.begin (h : All g P) (ht : P.ts[i]? = some t) (hb : t.busy = false) {kd ky va : Int} {sp : List (Int × Int)} (hp : properB kd ky sp = true) : All g (P.setT i { t with busy:=true,work:=newWork kd ky va sp }):=by
 obtain ⟨w1,w2,w3,w4,w5,w6,w7,w8,w9⟩:=newWork_ok (va:=va) hp;have hsp : kd = 4->spansOkX sp = true:=by
  intro e;have h0 : checkOp kd ky sp = 0:=of_decide_eq_true hp;unfold checkOp at h0;rw [if_neg (by omega),if_pos e] at h0;cases hh : (isIn sp.length 1 16 && spansOkX sp)
  ·rw [hh] at h0; exact absurd h0 (by decide)
  ·rw [Bool.and_eq_true] at hh; exact hh.2
 have hnt : kd = 4->(newWork kd ky va sp).noted = []:=by
  intro e; subst e; rfl
 have hspan : kd = 4->(newWork kd ky va sp).spans = sp:=by
  intro e; subst e; rfl
 refine ⟨h.i.begin ht hb w1 (by rw [w2]; exact w3) w4 w5 (fun e=>by rw [w2] at e; exact ⟨(w6 e).1,(w6 e).2.1⟩) (fun e=>by rw [w2] at e; exact (w7 e).1) (fun e=>by rw [w2] at e; exact (w7 e).2.1) (fun e=>by rw [w2] at e; exact w8 e),h.v.begin ht hb w1,h.r.begin ht w1 (fun _ e=>?_) (fun e=>?_)⟩
 ·have e : (newWork kd ky va sp).kind = 4:=e;rw [w2] at e;show spansOkX (newWork kd ky va sp).spans = true;rw [hspan e]; exact hsp e
 ·have e : (newWork kd ky va sp).kind = 4:=e;rw [w2] at e; exact hnt e
def TPot (N : Nat) (P : PSt) (n : Nat) : Prop:=∃ g,All g P/\P.mem.ns.length = N + 2/\Phi (N + 2) g P<=n
def treeKin : Kin where
 κ:=1
 hκ:=.inr rfl
 Pot:=TPot
 kind:=fun ⟨_,h,_⟩=>h.i.kind
 move:=by
  rintro N n i P t ⟨g,h,hl,hp⟩ ht hb hm
  have:=h.i.drops h.v h.r hl ht hb hm
  exact ⟨Phi (N + 2) (nextG g P i t) (P.step i t).1,by omega,nextG g P i t,h.step ht hb,by rw [step_len]; exact hl,Nat.le_refl _⟩
 wait:=fun ⟨_,h,_⟩ ht hb hm=>(h.i.waits ht hb hm).1
 live:=fun ⟨_,h,_⟩ ht hb=>h.i.live ht hb
 bound:=fun ⟨g,h,hl,_⟩=>⟨g,h,hl,h.i.bound h.v h.r _ hl⟩
 beg:=by
  rintro N n i P t kd ky va sp ⟨g,h,hl,hp⟩ ht hb hpr;exact ⟨_,g,h.begin ht hb hpr,hl,Nat.le_refl _⟩
 swp:=by
  rintro N n P ⟨g,h,hl,hp⟩;exact ⟨_,sweepG g P,h.sweep,by rw [sweep_len]; exact hl,Nat.le_refl _⟩
 new:=by
  intro T N E L hE;obtain ⟨h1,h2,h3,h4⟩:=inv_fresh (T:=T) (N:=N) (L:=L) hE;exact ⟨_,newG,⟨h1,h2,h3⟩,h4,Nat.le_refl _⟩
end
end T
end
section
namespace T
theorem srt_ext : ∀ {R R' : List (Int × Int)},Srt R->Srt R'->(∀ p,p ∈ R ↔ p ∈ R')->R = R'
 | [],[],_,_,_=>rfl
 | [],p :: _,_,_,h=>absurd ((h p).2 (by simp)) (by simp)
 | p :: _,[],_,_,h=>absurd ((h p).1 (by simp)) (by simp)
 | p :: R,q :: R',h1,h2,h=>by
  obtain ⟨a1,a2⟩:=List.pairwise_cons.1 h1;obtain ⟨b1,b2⟩:=List.pairwise_cons.1 h2;have e : p = q:=by
   rcases List.mem_cons.1 ((h p).1 (by simp)) with e | e
   ·exact e
   ·rcases List.mem_cons.1 ((h q).2 (by simp)) with e' | e'
    ·exact e'.symm
    ·have:=b1 p e; have:=a1 q e'; omega
  subst e
  congr 1
  refine srt_ext a2 b2 (fun r=>?_);have hr:=h r;simp only [List.mem_cons] at hr;constructor
  ·intro hm;rcases hr.1 (.inr hm) with e | e
   ·have:=a1 r hm; rw [e] at this; omega
   ·exact e
  ·intro hm;rcases hr.2 (.inr hm) with e | e
   ·have:=b1 r hm; rw [e] at this; omega
   ·exact e
section
variable {g g' : Gh} {T : Int} {i j : Nat} {t t' u : PThread} {P P' : PSt} {key : Int}
theorem lea_fn {t : Tr} (hd : t.Dj) {x q w q' w' : Int} (h1 : t.Lea x q w) (h2 : t.Lea x q' w') : q = q':=Rt_mem.lea_fn hd h1 h2
theorem Inv.tookRows (h : Inv g P) (ht : P.ts[i]? = some t) (hb : t.busy = true) (hk : Took P t) :
  Rt (nextG g P i t) (P.clock + 1) = shNew (Rt g P.clock) t.work.kind t.work.key t.work.value/\shUpd (Rt g P.clock) t.work.kind t.work.key = true/\(t.work.kind = 2->(P.mem.node t.work.ahead).value = (shVal (Rt g P.clock) t.work.key).1):=by
 have hT:=h.th i t ht;have hS:=h.step ht hb;have hck:=h.clockStep ht hb;rw [if_pos hk] at hck;obtain ⟨hn,hkd,hl⟩:=id hk;have hgo:=h.found ht hb (by omega) (by omega);have hky:=hT.ky hb (by omega);have hg:=h.n.gt;have hg':=hS.n.gt;rw [hck] at hg';have hval:=Rt_val hg hky.2;rw [hgo] at hval;simp only at hval;have hc7:=hT.c7 hb (by omega) (by omega);rcases hkd with k1 | k2
 ·have hne : Ky P.mem t.work.ahead≠t.work.key:=fun e=>by have:=hc7.1 e; omega
  rw [if_neg hne] at hval;have hu : shUpd (Rt g P.clock) t.work.kind t.work.key = true:=by unfold shUpd; rw [hval,k1]; rfl
  refine ⟨?_,hu,fun e=>by omega⟩;unfold shNew;rw [hu,if_pos rfl,if_pos k1];refine srt_ext (Rt_srt hg') ((Rt_srt hg).put _ _) ?_;rintro ⟨q,w⟩;rw [mem_shPut,Rt_mem hg',Rt_mem hg];obtain ⟨a,n,qn⟩:=hT.f8 hb k1 hn;have hVn : (nextG g P i t).V (P.clock + 1) = (g.V P.clock).ins t.work.key t.work.value a n:=by
   unfold nextG;rw [if_pos hk,if_neg (by omega)];have e1 : t.work.made[0]?.getD 0 = a:=by rw [qn.md]; rfl
   have e2 : t.work.made[1]?.getD 0 = n:=by rw [qn.md]; rfl
   rw [e1,e2];show (if P.clock + 1 = P.clock + 1 then _ else _) = _;rw [if_pos rfl]
  rw [hVn];have nokey : ∀ x w,(g.V P.clock).Lea x t.work.key w->False:=by
   intro x w hx
   have:=Tr.goal_key hg.ok hx
   rw [hgo] at this;simp only [Prod.mk.injEq] at this;exact hne this.2.1
  constructor
  ·rintro ⟨x,h1,h2⟩;rcases Tr.ins_lea.1 h1 with e | ⟨e1,e2,e3⟩
   ·left;refine ⟨⟨x,e,h2⟩,?_⟩;intro e1;have e1 : q = t.work.key:=e1;subst e1; exact nokey x w e
   ·right; rw [e2,e3]
  ·rintro (⟨⟨x,h1,h2⟩,h3⟩ | e)
   ·exact ⟨x,Tr.ins_lea.2 (.inl h1),h2⟩
   ·simp only [Prod.mk.injEq] at e;exact ⟨a,Tr.ins_lea.2 (.inr ⟨rfl,e.1,e.2⟩),qn.z.2.2.1⟩
 ·have he : Ky P.mem t.work.ahead = t.work.key:=hc7.2 k2;rw [if_pos he] at hval;have hu : shUpd (Rt g P.clock) t.work.kind t.work.key = true:=by unfold shUpd; rw [hval,k2]; rfl
  refine ⟨?_,hu,fun _=>by rw [hval]⟩;unfold shNew;rw [hu,if_pos rfl,if_neg (by omega)];refine srt_ext (Rt_srt hg') ((Rt_srt hg).del _) ?_;rintro ⟨q,w⟩;rw [mem_shDel,Rt_mem hg',Rt_mem hg];have hcut:=h.cut ht hb (by omega) (by omega) k2;have hVn : (nextG g P i t).V (P.clock + 1) = (g.V P.clock).del t.work.key:=by
   unfold nextG;rw [if_pos hk,if_pos k2];show (if P.clock + 1 = P.clock + 1 then _ else _) = _;rw [if_pos rfl]
  rw [hVn];have hgl:=Tr.goal_lea (k:=t.work.key) (g.V P.clock);rw [hgo] at hgl;simp only at hgl;constructor
  ·rintro ⟨x,h1,h2⟩;obtain ⟨e1,e2⟩:=(Tr.del_lea hg.dj hg.z hcut).1 h1;refine ⟨⟨x,e1,h2⟩,?_⟩;intro e3;have e3 : q = t.work.key:=e3;subst e3
   have:=Tr.goal_key hg.ok e1
   rw [this] at e2; exact e2 rfl
  ·rintro ⟨⟨x,h1,h2⟩,h3⟩;refine ⟨x,(Tr.del_lea hg.dj hg.z hcut).2 ⟨h1,?_⟩,h2⟩;intro e;rw [hgo] at e;have e : x = t.work.ahead:=e;rw [e] at h1
   have:=lea_fn hg.dj h1 hgl
   exact h3 (this.trans he)
theorem Inv.idle6 (h : Inv g P) (ht : P.ts[i]? = some t) (hb : t.busy = true) (hn : t.work.next = 6) (ho : ¬ P.outdated t.work = true) : shVal (Rt g P.clock) t.work.key = (if Ky P.mem t.work.ahead = t.work.key then ((P.mem.node t.work.ahead).value,true) else (0,false)):=by
 have hT:=h.th i t ht;have hk:=hT.upd hb (by omega) (by omega);have hout:=h.outd ht hb (by omega) (by omega);obtain ⟨f1,f2,f3⟩:=Classical.not_not.1 (fun hh=>ho (hout.2 hh));have hS:=hT.hStand hb (by omega) (by omega);have x0:=h.inTree ht hS.1 hS.2 (by omega) f1;have s0 : t.work.stand = 0->sd P.mem t.work.stand t.work.key = false:=fun e=>by rw [e]; exact sd0 h.n.n0.2.1 _
 have ed1:=h.edge (s:=sd P.mem t.work.stand t.work.key) ht hS.1 hS.2 (by omega) (by rcases x0 with e | e; exact .inl ⟨e,s0 e⟩; exact .inr e.1);rw [f2] at ed1;have hgo:=h.n.goal ed1 (h.stOk ht hb (by omega) (by omega) ed1) rfl (hT.cs hb (by omega) (by omega)).2.2.1;have hval:=Rt_val h.n.gt (hT.ky hb (by omega)).2;rw [hgo] at hval;exact hval
end
end T
end
section
namespace T
section
variable {g g' : Gh} {T : Int} {i j : Nat} {t t' u : PThread} {P P' : PSt} {key : Int}
end
end T
end
end Go.Proofs.YtfccelbmacjifabGreat
