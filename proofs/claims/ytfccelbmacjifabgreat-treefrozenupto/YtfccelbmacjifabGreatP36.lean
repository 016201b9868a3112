import Derived.Test.YtfccelbmacjifabGreatP0
import Derived.Test.YtfccelbmacjifabGreatP32
import Derived.Test.YtfccelbmacjifabGreatP33
import Derived.Test.YtfccelbmacjifabGreatP35
import Derived.Deep.Cut
import Derived.Test.YtfccelbmacjifabGreatP16
set_option linter.unusedSimpArgs false
set_option maxRecDepth 100000
set_option maxHeartbeats 4000000
namespace Go.Proofs.YtfccelbmacjifabGreat
section
open Go.RowKit
open Go.Proofs.YtfccelbmacjifabGreat.T (QT FrJ Fz2 fr_plays readAns treeKin proper_whole)
section
variable {own : Own} {z : Nat} {w w' : World} {pb b k : Nat} {D D' : PlD} {i j : Nat} {t t0 : PThread} {T N E L c kd ky : Int} {ps sp : List (Int × Int)} {o : OpV}
theorem rest_run2 {P : PSt} (hs : ∀ t ∈ P.ts,t.slot≠1) (hm : P.sweep.made<=P.ts.length + 2) : (∀ j,j < P.ts.length + 2 - P.sweep.made->P.swHow j = 1)/\P.swHow (P.ts.length + 2 - P.sweep.made) = 3/\(P.swIter (P.ts.length + 2 - P.sweep.made + 1)).sweep = PSweep.zero:=by
 have one : ∀ Q : PSt,Q.ts = P.ts->Q.sweep.made < P.ts.length + 2->Q.doSweep.2 = 1/\Q.doSweep.1.sweep.made = Q.sweep.made + 1:=by
  intro Q hQ hlt;unfold PSt.doSweep;simp only;split
  ·next h0=>exact ⟨rfl,by show 1 = _; omega⟩
  ·split
   ·next hl =>
    have hsl : (Q.th (Q.sweep.made - 1)).slot≠1:=by
     unfold PSt.th;rw [hQ] at hl ⊢;rw [List.getElem?_eq_getElem hl];exact hs _ (List.getElem_mem hl)
    rw [if_neg hsl];exact ⟨rfl,rfl⟩
   ·next hl =>
    rw [if_pos (by rw [hQ] at hl ⊢; omega)];exact ⟨rfl,rfl⟩
 have run : ∀ j,j<=P.ts.length + 2 - P.sweep.made->(P.swIter j).sweep.made = P.sweep.made + j:=by
  intro j
  induction j with
  | zero=>intro _; rfl
  | succ j ih =>
   intro hj
   have:=ih (by omega)
   show (P.swIter j).doSweep.1.sweep.made = _;rw [(one (P.swIter j) (swIter_ts P j) (by omega)).2,this]; omega
 refine ⟨?_,?_,?_⟩
 ·intro j hj;exact (one (P.swIter j) (swIter_ts P j) (by rw [run j (by omega)]; omega)).1
 ·have hr:=run _ (Nat.le_refl _);show (P.swIter (P.ts.length + 2 - P.sweep.made)).doSweep.2 = 3;have ht:=swIter_ts P (P.ts.length + 2 - P.sweep.made);generalize P.swIter (P.ts.length + 2 - P.sweep.made) = Q at *;unfold PSt.doSweep;simp only;rw [if_neg (by omega),if_neg (by rw [ht]; omega),if_neg (by rw [ht]; omega)]
 ·have hr:=run _ (Nat.le_refl _);show (P.swIter (P.ts.length + 2 - P.sweep.made)).doSweep.1.sweep = _;have ht:=swIter_ts P (P.ts.length + 2 - P.sweep.made);generalize P.swIter (P.ts.length + 2 - P.sweep.made) = Q at *;unfold PSt.doSweep;simp only;rw [if_neg (by omega),if_neg (by rw [ht]; omega),if_neg (by rw [ht]; omega)]
theorem Plays.swN {f : Nat} {J : PlD->Prop} {K : Kin} (hJ : Plays K f T N E L J) (hl : ∀ (D : PlD) L',J D->J { D with L:=L' }) (h : J D) (hs : SwN D j D') : J D':=by
 obtain ⟨L',_,rfl⟩:=hs;have : ∀ j L',J { D with L:=L',P:=D.P.swIter j }:=by
  intro j
  induction j with
  | zero=>intro L'; exact hl D L' h
  | succ j ih=>intro L'; exact hJ.sweep L' (ih L')
 exact this j L'
theorem still_sw (hst : Still 1 D) (hs : SwN D j D') : Still 1 D':=by
 obtain ⟨L',_,rfl⟩:=hs;intro q u hq hu;have hu' : (D.P.swIter j).ts[q]? = some u:=hu;rw [swIter_ts] at hu';exact hst q u hq hu'
theorem sz_sw (hz : Sz b D) (hs : SwN D j D') : Sz b D':=by
 obtain ⟨L',_,rfl⟩:=hs;exact hz.eq (Nat.le_refl _) rfl rfl rfl
theorem fr_rest (hb0 : t0.busy = true) (hk0 : t0.work.kind = 3\/t0.work.kind = 4) (hn0 : t0.work.next = 4) (hP : PlAt own z w pb D) (h : FrJ T N E L t0 ps D) (hst : Still 1 D) (hs : Sz b D) :
  Calls Tryz.prog 37 #[pv pb] w fun e w'=>e = .returned (.bool true)/\PlGoes own z w pb w' (fun D'=>FrJ T N E L t0 ps D'/\Still 1 D'/\D'.P.sweep = PSweep.zero/\Sz b D'):=by
 obtain ⟨s1,s2⟩:=h.slots hn0 hst;obtain ⟨r1,r2,r3⟩:=rest_run2 s1 s2;refine (Prest_calls hP _ (by omega) r1 r2).mono ?_;rintro e w' ⟨rfl,own',D',h1,h2,h3,hsw⟩;refine ⟨rfl,own',D',h1,h2,h3,(fr_plays hb0 hk0 hn0).swN (fun D L' q=>q.lay L') h hsw,still_sw hst hsw,?_,sz_sw hs hsw⟩;obtain ⟨L',_,rfl⟩:=hsw;exact r3
theorem fr_swept (hb0 : t0.busy = true) (hk0 : t0.work.kind = 3\/t0.work.kind = 4) (hn0 : t0.work.next = 4) (hP : PlAt own z w pb D) (h : FrJ T N E L t0 ps D) (hst : Still 1 D) (hz : D.P.sweep = PSweep.zero) (hs : Sz b D) :
  Calls Tryz.prog 24 #[pv pb] w fun e w'=>e = .returned (.bool true)/\PlGoes own z w pb w' (fun D'=>FrJ T N E L t0 ps D'/\Still 1 D'/\Sz b D'):=by
 obtain ⟨s1,s2⟩:=h.slots hn0 hst;obtain ⟨r1,r2,_⟩:=rest_run2 s1 s2;have hm0 : D.P.sweep.made = 0:=by rw [hz]; rfl
 rw [hm0] at r1 r2;refine (Pswept_calls hP r1 r2).mono ?_;rintro e w' ⟨rfl,own',D',h1,h2,h3,hsw⟩;exact ⟨rfl,own',D',h1,h2,h3,(fr_plays hb0 hk0 hn0).swN (fun D L' q=>q.lay L') h hsw,still_sw hst hsw,sz_sw hs hsw⟩
theorem fr_solo (hb0 : t0.busy = true) (hk0 : t0.work.kind = 3\/t0.work.kind = 4) (hn0 : t0.work.next = 4) (hN : 0<=N/\N<=64) (hP : PlAt own z w pb D) (h : FrJ T N E L t0 ps D) (hst : Still 1 D) (hs : Sz b D) (hb : b<=2 ^ 37) :
  Calls Tryz.prog 30 #[pv pb,.int .i64 ((0 : Nat) : Int)] w fun r w'=>r = .returned (.bool true)/\PlGoes own z w pb w' (fun D'=>∃ ds o av f,D'.deeds = ds ++ [⟨o,readAns ps t0.work,av,f⟩]/\ds.length<=b):=by
 obtain ⟨m,m1,m2,m3,m4⟩:=h.solo hb0 hk0 hn0 hN.1 hst;have hbs : D.bs[0]? = some true:=by
  have hok : D.bs = D.P.ts.map (·.busy):=h.ok;rw [hok,List.getElem?_map,h.at0]; simp [hb0]
 refine (Psolo_calls hP (by rw [h.cfg.2.2.1]; exact hN) hbs h.at0 hb0 (by unfold Sz at hs; omega) (by unfold Sz at hs; omega) m (by rw [h.cfg.2.2.1]; exact m1) m2 m3).mono ?_;rintro r w' ⟨rfl,own',D',h1,h2,h3,hS⟩;obtain ⟨av,o,f,_,_,q⟩:=hS.deeds;exact ⟨rfl,own',D',h1,h2,h3,D.deeds,o,av,f,by rw [q,m4],hs.2.1⟩
theorem fz_step (hP : PlAt own z w pb D) (h : Fz2 T N E L b k ps c kd ky sp t D) (hk : k < 3) (hb : b<=2 ^ 37) :
  Calls Tryz.prog 35 #[pv pb,.int .i64 ((0 : Nat) : Int)] w fun r w'=>r = .returned (.tuple #[.int .i64 1,.bool true])/\PlGoes own z w pb w' (fun D'=>∃ t',Fz2 T N E L (b + 1) (k + 1) ps c kd ky sp t' D'):=by
 obtain ⟨h1,h2⟩:=h.next hk
 have hbs : D.bs[0]? = some true:=by
  have hok : D.bs = D.P.ts.map (·.busy):=h.ok;rw [hok,List.getElem?_map,h.at0]; simp [h.tb]
 have hs:=h.sz;refine (Psteps_on hP hbs h.at0 h.tb (by unfold Sz at hs; omega) (by rw [h1]; decide)).mono ?_;rw [h1];rintro r w' ⟨rfl,own',D',q1,q2,q3,q4⟩;exact ⟨rfl,own',D',q1,q2,q3,h2 D' q4⟩
theorem fz_begin {n e va : Int} (hP : PlAt own z w pb D) (hq : QT N E L D.P ps n e c) (hok : D.ok) (hcf : D.k = 1/\D.t = T/\D.n = N/\D.e = E/\D.l = L) (hs : Sz b D) (hb : b<=2 ^ 36) (hT : 1<=T) (hp : properB kd ky sp = true) (hkd : kd = 3\/kd = 4) (sa : Option Addr) (sc : Nat) (hsl : sp.length<=2 ^ 40) (ho : OpOk own (z + 1) w ⟨kd,ky,va,sp,.slice sa sp.length sc⟩) :
  Calls Tryz.prog 29 #[pv pb,.int .i64 ((0 : Nat) : Int),opVal kd ky va (.slice sa sp.length sc)] w fun r w'=>r = .returned (.bool true)/\PlGoes own z w pb w' (fun D'=>∃ t',Fz2 T N E L (b + 1) 0 ps c kd ky sp t' D'):=by
 have hl : 0 < D.P.ts.length:=by have:=hP.thr; have:=hcf.2.1; omega
 have ht : D.P.ts[0]? = some D.P.ts[0]:=List.getElem?_eq_getElem hl;generalize D.P.ts[0] = t at ht;refine (Pbegins_calls hP hok ht kd ky va sp sa sc ho hsl (by unfold Sz at hs; omega)).mono ?_;rintro r w' ⟨rfl,own',D',h1,h2,h3,hB⟩;exact ⟨rfl,own',D',h1,h2,h3,_,hq.begun hok hcf hs hp hkd ht hB⟩
end
structure FzK (W w : World) (ab : Nat) (A : BAns) (lv : Value) (own : Own) : Prop where
 a1 : At w ab [.int .i64 A.err,.bool A.did,.int .i64 A.value,.int .i64 A.stamp,lv] 69
 a2 : own ab = ⟨0,.store⟩
 ls : ListsAt own 9 w lv A.spans
 ext : Ext own00 own W
 fr : Fr (fun _=>False) W w
def FzOn (W w : World) (pb ab : Nat) (A : BAns) (lv : Value) (Q : PlD->Prop) : Prop:=∃ own D,PlAt own 1 w pb D/\FzK W w ab A lv own/\Q D
def FzOp (W w : World) (pb sb ub ob : Nat) (T N E L : Int) (j : Nat) : Prop:=∃ own D ps n e c kd ky va sp xa xc,AlSt 1 W w pb sb ub T N E L (QT N E L) j own D ps n e c/\OpOk own 2 w ⟨kd,ky,va,sp,.slice xa sp.length xc⟩/\At w ob [.int .i64 kd,.int .i64 ky,.int .i64 va,.slice xa sp.length xc] 53/\own ob = ⟨0,.store⟩/\properB kd ky sp = true/\(kd = 3\/kd = 4)/\sp.length<=2 ^ 40
structure FzA (W w : World) (pb ob ab : Nat) (T N E L : Int) (b : Nat) (own : Own) (D : PlD) (ps : List (Int × Int)) (n e c kd ky va : Int) (sp : List (Int × Int)) (xa : Option Addr) (xc : Nat) (lv : Value) : Prop where
 pl : PlAt own 1 w pb D
 q : QT N E L D.P ps n e c
 ok : D.ok
 cfg : D.k = 1/\D.t = T/\D.n = N/\D.e = E/\D.l = L
 sz : Sz b D
 op : OpOk own 2 w ⟨kd,ky,va,sp,.slice xa sp.length xc⟩
 ob : At w ob [.int .i64 kd,.int .i64 ky,.int .i64 va,.slice xa sp.length xc] 53
 pr : properB kd ky sp = true
 rd : kd = 3\/kd = 4
 sl : sp.length<=2 ^ 40
 k : FzK W w ab (wantOf 1 L n e c ps kd ky sp) lv own
section
variable {W w w1 w2 : World} {pb sb ub ob ab j b : Nat} {T N E L n e c kd ky va : Int} {own own1 : Own} {D : PlD} {ps sp : List (Int × Int)} {A : BAns} {lv : Value} {Q : PlD->Prop} {QQ : PSt->List (Int × Int)->Int->Int->Int->Prop}
theorem FzK.goes (h : FzK W w ab A lv own) (he : Ext own own1 w) (hf : FrP own 1 w w1) : FzK W w1 ab A lv own1:=by
 refine ⟨hf.at h.a1 (by rw [h.a2]; simp),by rw [he _ h.a1.lt]; exact h.a2,h.ls.fr hf he (fun k hk=>by rw [hk]; simp),Ext.trans h.ext he h.fr.size,?_⟩;refine Fr.transNew h.fr hf ?_;intro k hk;right;rcases Nat.lt_or_ge k W.heap.size with hlt | hge
 ·rw [h.ext k hlt] at hk;simp [own00] at hk
 ·exact hge
theorem FzOn.goes (h : FzK W w ab A lv own) (hg : PlGoes own 1 w pb w1 Q) : FzOn W w1 pb ab A lv Q:=by
 obtain ⟨own1,D1,h1,h2,h3,h4⟩:=hg;exact ⟨own1,D1,h1,h.goes h2 h3,h4⟩
theorem AlSt.box (h : AlSt 1 W w pb sb ub T N E L QQ j own D ps n e c) (ho : own ob = ⟨0,.store⟩) (hw : W.heap.size<=ob) (hF : Fr (fun k=>k = ob) w w1) : AlSt 1 W w1 pb sb ub T N E L QQ j own D ps n e c:=by
 obtain ⟨a,q,hs,ht⟩:=h.at_.sh;refine ⟨⟨h.at_.pl.fr hF (Ext.refl _ _) ?_,⟨a,q,hs.keepS hF ?_ ?_,fun g hg=>⟨Nat.lt_of_lt_of_le (ht g hg).1 hF.size,(ht g hg).2⟩⟩,hF.at h.at_.pu ?_,h.at_.ts,h.at_.tu⟩,h.ext,?_,h.q,h.ok,h.cfg,h.N,h.deeds,h.cnt⟩
 ·rintro k hk rfl;rw [ho] at hk;simp at hk
 ·rintro rfl
  have:=h.at_.ts
  rw [ho] at this;simp at this
 ·rintro g hg rfl
  have:=(ht _ hg).2
  rw [ho] at this;simp at this
 ·rintro rfl
  have:=h.at_.tu
  rw [ho] at this;simp at this
 ·exact Fr.transNew h.fr hF (fun k hk=>.inr (by rw [hk]; exact hw))
theorem FzA.of {sp : List (Int × Int)} {xa : Option Addr} {xc : Nat} (h : AlSt 1 W w pb sb ub T N E L (QT N E L) j own D ps n e c) (hop : OpOk own 2 w ⟨kd,ky,va,sp,.slice xa sp.length xc⟩) (hob : At w ob [.int .i64 kd,.int .i64 ky,.int .i64 va,.slice xa sp.length xc] 53) (hpr : properB kd ky sp = true) (hrd : kd = 3\/kd = 4) (hsl : sp.length<=2 ^ 40)
  {w2 : World} (hO : OwnLists w w1 lv (shAns ps kd ky sp).spans) (hab : At w2 ab [.int .i64 (shAns ps kd ky sp).err,.bool (shAns ps kd ky sp).did,.int .i64 (shAns ps kd ky sp).value,.int .i64 (if (shAns ps kd ky sp).err = 0 then c else (shAns ps kd ky sp).stamp),lv] 69) (hf : Fr (fun k=>k = ab) w1 w2) (hw : w1.heap.size<=ab) (hb : 101 * j<=b) :
  ∃ own',FzA W w2 pb ob ab T N E L b own' D ps n e c kd ky va sp xa xc lv:=by
 obtain ⟨own2,ho⟩ : ∃ own2 : Own,own2 = fun k=>if k < w.heap.size then own k else if k < w1.heap.size then ⟨9,.lists⟩ else ⟨0,.store⟩:=⟨_,rfl⟩
 have hsz:=hO.fr.size;have hE : Ext own own2 w:=fun k hk=>by rw [ho]; simp [hk]
 have hF2 : Fr (fun _=>False) w w2:=Fr.transNew hO.fr hf (fun k hk=>.inr (by rw [hk]; omega));have hL1 : ListsAt own2 9 w1 lv (shAns ps kd ky sp).spans:=by
  obtain ⟨ins,h1,h2,h3⟩:=hO.top;refine ⟨hO.nil,ins,h1,⟨h2,fun k hk=>?_⟩,fun i u l hu hl=>⟨(h3 i u l hu hl).1,fun k hk=>?_⟩⟩
  ·have g1:=hO.new k hk;have g2:=ownsRow_lt h2 hk;rw [ho]; simp [show ¬ k < w.heap.size by omega,g2]
  ·have g1:=(h3 i u l hu hl).2 k hk;have g2:=ownsRow_lt (h3 i u l hu hl).1 hk;rw [ho]; simp [show ¬ k < w.heap.size by omega,g2]
 have hu : shUpd ps kd ky = false:=by
  unfold shUpd;rcases hrd with rfl | rfl <;> rfl
 have hwant : wantOf 1 L n e c ps kd ky sp = { shAns ps kd ky sp with stamp:=if (shAns ps kd ky sp).err = 0 then c else (shAns ps kd ky sp).stamp }:=by
  unfold wantOf;simp only [hu,Bool.false_eq_true,if_false];by_cases h0 : (shAns ps kd ky sp).err = 0
  ·rw [if_pos h0,if_pos h0]
  ·rw [if_neg h0,if_neg h0]
 refine ⟨own2,⟨h.at_.pl.fr hF2 hE (fun _ _ h=>h),h.q,h.ok,h.cfg,?_,hop.fr hF2 hE (fun _ _ h=>h),hF2.at hob (fun h=>h),hpr,hrd,hsl,⟨?_,?_,?_,Ext.trans h.ext hE h.fr.size,h.fr.trans hF2⟩⟩⟩
 ·have h1:=h.N;have h2:=h.deeds;have h3:=h.cnt;unfold Sz;omega
 ·rw [hwant]; exact hab
 ·rw [ho]; simp [show ¬ ab < w.heap.size by omega,show ¬ ab < w1.heap.size by omega]
 ·rw [hwant];refine hL1.fr hf (Ext.refl _ _) ?_;rintro k hk rfl;rw [ho] at hk;simp [show ¬ k < w.heap.size by omega,show ¬ k < w1.heap.size by omega] at hk
theorem FzOp.whole {wc w8 : World} {ya : Option Addr} {yc : Nat} {x0 x1 x2 x3 : Value} (h : AlSt 1 W wc pb sb ub T N E L (QT N E L) j own D ps n e c) (ho : own ob = ⟨0,.store⟩) (hw : W.heap.size<=ob) (hlt : ob < wc.heap.size) (hA : At w8 ob [x0,x1,x2,x3] 53) (hO : OwnSpans wc w8 (.slice ya 1 yc) [(0,1099511627776)]) : FzOp W ((((w8.setCell ⟨ob,0,none⟩ (.int .i64 4)).setCell ⟨ob,1,none⟩ (.int .i64 0)).setCell ⟨ob,2,none⟩ (.int .i64 0)).setCell ⟨ob,3,none⟩ (.slice ya 1 yc)) pb sb ub ob T N E L j:=by
 obtain ⟨own1,he⟩ : ∃ own1 : Own,own1 = fun k=>if k < wc.heap.size then own k else if (Value.slice ya 1 yc).ownBlock = some k then ⟨2,.oth 5⟩ else ⟨0,.store⟩:=⟨_,rfl⟩
 have hE : Ext own own1 wc:=fun k hk=>by rw [he]; simp [hk]
 have hst : AlSt 1 W w8 pb sb ub T N E L (QT N E L) j own1 D ps n e c:=⟨h.at_.calm hO.fr hE,Ext.trans h.ext hE h.fr.size,h.fr.trans hO.fr,h.q,h.ok,h.cfg,h.N,h.deeds,h.cnt⟩;have ho1 : own1 ob = ⟨0,.store⟩:=by rw [hE ob hlt]; exact ho
 have hop : OpOk own1 2 w8 ⟨4,0,0,[(0,1099511627776)],.slice ya 1 yc⟩:=⟨hO.row,fun k hk=>by
  have:=hO.new k hk
  have hk' : (Value.slice ya 1 yc).ownBlock = some k:=hk;rw [he]; simp [show ¬ k < wc.heap.size by omega,hk']⟩
 have hF : Fr (fun k=>k = ob) w8 ((((w8.setCell ⟨ob,0,none⟩ (.int .i64 4)).setCell ⟨ob,1,none⟩ (.int .i64 0)).setCell ⟨ob,2,none⟩ (.int .i64 0)).setCell ⟨ob,3,none⟩ (.slice ya 1 yc)):=((((Fr.refl _ _).set1 _ _).set1 _ _).set1 _ _).set1 _ _;refine ⟨own1,D,ps,n,e,c,4,0,0,[(0,1099511627776)],ya,yc,hst.box ho1 hw hF,hop.fr hF (Ext.refl _ _) ?_,(((hA.set 0 _).set 1 _).set 2 _).set 3 _,ho1,proper_whole,.inr rfl,by simp⟩;rintro k hk rfl;rw [ho1] at hk;simp at hk
end
end
section
open Go.RowKit
open Go.Proofs.YtfccelbmacjifabGreat.T (QT FrJ Fz2 fr_plays readAns treeKin proper_whole wantOf_rd)
section
theorem ltfrozen_calls (k t n e l : Int) (W : World) (sa sl : Option Addr) (c cl : Nat) (early late : List ActD) (rd : ActD) (rt : rawI t) (rn : rawI n) (re : rawI e) (rl : rawI l) (hlenE : early.length<=2 ^ 20) (hlenL : late.length<=2 ^ 20) (hactsE : ∀ i a,early[i]? = some a->ActIn W sa i a/\a.sn<=2 ^ 20) (hactsL : ∀ i a,late[i]? = some a->ActIn W sl i a/\a.sn<=2 ^ 20) (hrd : Spans W rd.sa rd.sn rd.ps/\rd.sn<=2 ^ 20) :
  Calls Tryz.prog 13 #[cfg k t n e l,.slice sa early.length c,actVal rd,.slice sl late.length cl,.int .i64 1] W fun r W'=>r = .returned (.bool true)/\Fr (fun _=>False) W W':=by
 obtain ⟨hok,hT1⟩:=cfg_ok 1 2 t n e l (.inr rfl) (.inr rfl);have HCf:=(mkH (∀ w,Calls Tryz.prog 15 #[cfg k t n e l,.int .i64 1,.int .i64 2] w _) <|fun w=>config_calls k t n e l 1 2 w rt rn re rl (.inr rfl));generalize cT 2 t = T at hok hT1 HCf;generalize cN n = N at hok HCf;generalize cE e = E at hok HCf;generalize cL l = L at hok HCf;obtain ⟨_,hT,hN,hE,hL⟩ : (0<=(1 : Int)/\(1 : Int)<=1)/\(1<=T/\T<=8)/\(0<=N/\N<=64)/\(1<=E/\E<=256)/\(0<=L/\L<=1099511627776):=by
  simp only [okCfg,Bool.and_eq_true,isIn_iff] at hok;omega
 have HQ:=(mkH (Quiets 1 T N E L (QT N E L)) <|Go.Proofs.YtfccelbmacjifabGreat.T.tquiets hN hE hL);have HOk:=(mkH (okCfg 1 T N E L = true) <|hok);have HT:=(mkH ((2 : Int)<=T/\(0<=N/\N<=64)) <|⟨hT1,hN⟩);obtain ⟨W0,hW0⟩ : ∃ W0,W0 = (W.alloc (.cells #[.int .i64 k,.int .i64 t,.int .i64 n,.int .i64 e,.int .i64 l] 23)).alloc (.cells #[.int .i64 rd.kd,.int .i64 rd.tt,.int .i64 rd.o,.int .i64 rd.ky,.int .i64 rd.v,.int .i64 rd.m,.slice rd.sa rd.sn rd.sc] 29):=⟨_,rfl⟩;have hf0 : Fr (fun _=>False) W W0:=by rw [hW0]; exact ((Fr.refl _ _).alloc _).alloc _
 have HF0:=(mkH (Fr (fun _=>False) W W0) <|hf0);have HR0:=(mkH (At W0 (W.heap.size + 1) [.int .i64 rd.kd,.int .i64 rd.tt,.int .i64 rd.o,.int .i64 rd.ky,.int .i64 rd.v,.int .i64 rd.m,.slice rd.sa rd.sn rd.sc] 29) <|by rw [hW0]; exact At.newAt (by simp) _ _);have HC0:=(mkH (At W0 W.heap.size [.int .i64 k,.int .i64 t,.int .i64 n,.int .i64 e,.int .i64 l] 23) <|by rw [hW0]; exact (At.new W _ _).alloc _);have HRd:=(mkH (Spans W0 rd.sa rd.sn rd.ps/\rd.sn<=2 ^ 20) <|⟨hrd.1.keep hf0,hrd.2⟩);have HAc:=(mkH (∀ i a,early[i]? = some a->ActIn W0 sa i a/\a.sn<=2 ^ 20) <|fun i a ha=>⟨(hactsE i a ha).1.keep hf0,(hactsE i a ha).2⟩);have HAl:=(mkH (∀ i a,late[i]? = some a->ActIn W0 sl i a/\a.sn<=2 ^ 20) <|fun i a ha=>⟨(hactsL i a ha).1.keep hf0,(hactsL i a ha).2⟩);have HW0:=(mkH (W0 = _) <|hW0);obtain ⟨hT2,hT3⟩:=hT;obtain ⟨hN1,hN2⟩:=hN;obtain ⟨hE1,hE2⟩:=hE;clear hok hactsE hactsL rt rn re rl hf0 hrd hW0 hL;unfold cfg at HCf;unfold cfg actVal
 go_enter Tryz.func13,Tryz.ntmps13
 go_upto_region 1 with fail
 rw [<- HW0.out];have hc0:=HC0.out.cell;clear HW0;go_wp2_with fail;refine Calls.mono (HCf.out _) ?_;rintro r w1 ⟨rfl,hF1⟩;have HF1:=(mkH (Fr (fun _=>False) W0 w1) <|hF1);clear hF1 HCf hc0 HC0;go_wp2_with fail;refine Calls.mono (player_calls 1 T N E L w1 own00 1 HOk.out) ?_;rintro r w2 ⟨pb,rfl,own,D,hP,hE0,hD,hF2⟩;have ha:=hP.at_.cell;have hD':=hD.cfg;simp only [PlD.cells,hD'.1,hD'.2.1,hD'.2.2.1,hD'.2.2.2.1,hD'.2.2.2.2,pv] at ha;have hpl:=hP.at_.lt;have hpn : pb≠w2.heap.size:=by omega
 have HP:=(mkH (PlAt own 1 w2 pb D/\Ext own00 own W0/\Fr (fun _=>False) W0 w2/\FreshPl 1 T N E L D) <|⟨hP,fun k hk=>hE0 k (Nat.lt_of_lt_of_le hk HF1.out.size),HF1.out.trans hF2,hD⟩);clear hP hE0 hD hF2 hD';unfold pv;go_wp2_with fail;refine Calls.mono (purse_calls 1 T N E L _ ⟨by omega,hE2⟩) ?_;rintro r w3 ⟨ub,rfl,hU,hu1,hu2,hF3⟩;obtain ⟨sb,hsb⟩ : ∃ sb,Hid (sb = w2.heap.size):=⟨_,rfl⟩;have HOn:=(mkH (AlOn 1 W0 w3 pb sb ub T N E L (QT N E L) 0) <|AlSt.start (w1:=w2.alloc (.cells #[.slice none 0 0] 49)) HQ.out HP.out.1 HP.out.2.1 HP.out.2.2.1 HP.out.2.2.2 hsb.out.symm ((Fr.refl _ _).alloc _) (by rw [hsb.out]; exact At.new _ _ _) hF3 hU hu1);rw [<- hsb.out];clear hU hu1 hu2 hF3 ha hpl hpn HP hsb HF1 HOk;unfold pv;go_wp2
 go_loopw [14] (fun v wr=>∃ j : Nat,j<=early.length/\v = .int .i64 j/\Hid (AlOn 1 W0 wr pb sb ub T N E L (QT N E L) j)) (fun v _=>early.length - (intOf v).toNat)
 case atStart=>exact ⟨0,by omega,rfl,HOn⟩
 case round =>
  clear HOn;obtain ⟨j,hj,rfl,HOn⟩:=hrel;obtain ⟨own1,D1,ps,n1,e1,q1,hst⟩:=HOn.out;have HSt:=(mkH (AlSt 1 W0 wr pb sb ub T N E L (QT N E L) j own1 D1 ps n1 e1 q1) <|hst);clear hst HOn;by_cases hlt : j < early.length
  ·have hx : early[j]? = some early[j]:=List.getElem?_eq_getElem hlt;obtain ⟨hai,hasn⟩:=HAc.out j _ hx;generalize early[j] = a at hx hai hasn;have HAI:=(mkH (ActIn wr sa j a) <|hai.keep HSt.out.fr);obtain ⟨ab,off,rfl,hcl,hsp,_,htt⟩:=HAI.out;have c0:=hcl 0 _ rfl;have c1:=hcl 1 _ rfl;have c2:=hcl 2 _ rfl;have c3:=hcl 3 _ rfl;have c4:=hcl 4 _ rfl;have c5:=hcl 5 _ rfl;have c6:=hcl 6 _ rfl;obtain ⟨kd,tt,o,ky,va,m,psa,psn,psc,sps⟩:=a;simp only [Nat.add_zero,<- Nat.add_assoc] at c0 c1 c2 c3 c4 c5 c6;simp only at hasn hsp htt;have HSP:=(mkH (Spans wr psa psn sps/\psn<=2 ^ 20) <|⟨hsp,hasn⟩);clear hcl hx hai hasn htt hsp HAI;by_cases h1 : kd = 1
   ·subst h1;have HOp:=(mkH (Calls _ _ _ _ _) <|opOf_calls ⟨1,tt,o,ky,va,m,psa,psn,psc,sps⟩ wr HSP.out.1 HSP.out.2);simp only [actVal] at HOp;go_wp2_with fail;refine Calls.mono HOp.out ?_;rintro r w4 ⟨xa,xc,rfl,hO⟩;obtain ⟨own5,hst5,hop5,_⟩:=HSt.out.boxes hO.fr hO (Nat.le_refl _) ⟨o,ky,va,sps,.slice xa sps.length xc⟩ rfl rfl;have HSl : sps.length<=2 ^ 40:=by
     have h1:=HSP.out.1.1;have h2:=HSP.out.2;omega
    have HC:=(mkH (Calls _ _ _ _ _) <|lone_act (i:=0) (.inr rfl) HQ.out hst5 ⟨hN1,hN2⟩ (by omega) (by omega) o ky va sps xa xc hop5 HSl);unfold pv opVal at HC;simp only [Int.ofNat_zero,Int.natCast_zero] at HC;clear hO hst5 hop5 HSl HOp c0 c1 c2 c3 c4 c5 c6;simp only [opVal];go_wp2_with fail;refine Calls.mono HC.out ?_;rintro r w6 ⟨rfl,hA6,_⟩;have HA6:=(mkH (AlOn 1 W0 w6 pb sb ub T N E L (QT N E L) (j + 1)) <|hA6);clear hA6 HC;go_wp2
    go_roundw
    case rel=>exact ⟨j + 1,by omega,by go_num,HA6⟩
    case measure=>simp [intOf]; omega
   ·have h1' : (kd == 1) = false:=by simpa using h1
    clear h1;go_wp2
    go_roundw
    case rel=>exact ⟨j + 1,by omega,by go_num,own1,D1,ps,n1,e1,_,HSt.out.more⟩
    case measure=>simp [intOf]; omega
  ·have hr0:=(HSt.out.fr.at HR0.out (fun h=>h)).cell;have HOp:=(mkH (Calls _ _ _ _ _) <|opOf_calls rd wr (HRd.out.1.keep HSt.out.fr) HRd.out.2);simp only [actVal] at HOp;go_wp2_with fail;refine Calls.mono HOp.out ?_;rintro r w4 ⟨xa,xc,rfl,hO⟩;have HO:=(mkH (OwnSpans wr w4 _ rd.ps) <|hO);clear hO HOp hr0;simp only [opVal];go_wp2_with fail;generalize hw5 : World.alloc _ _ = w5;have HB5:=(mkH (At w5 w4.heap.size [.int .i64 rd.o,.int .i64 rd.ky,.int .i64 rd.v,.slice xa rd.ps.length xc] 53) <|by rw [<- hw5]; exact At.new w4 _ _);have hf5 : Fr (fun _=>False) w4 w5:=by rw [<- hw5]; exact (Fr.refl _ _).alloc _
   clear hw5;obtain ⟨own5,hst5,hop5,hz5⟩:=HSt.out.boxes (HO.out.fr.trans hf5) (HO.out.keep hf5) (Nat.le_refl _) ⟨rd.o,rd.ky,rd.v,rd.ps,.slice xa rd.ps.length xc⟩ rfl rfl;have hzb : own5 w4.heap.size = ⟨0,.store⟩:=hz5 _ HO.out.fr.size (by intro h; have:=ownsRow_lt HO.out.row h; omega);have hwb : W0.heap.size<=w4.heap.size:=Nat.le_trans HSt.out.fr.size HO.out.fr.size;have hsl : rd.ps.length<=2 ^ 20:=by
    have h1:=HRd.out.1.1;have h2:=HRd.out.2;omega
   have HS5:=(mkH (AlSt 1 W0 w5 pb sb ub T N E L (QT N E L) j own5 D1 ps n1 e1 q1/\OpOk own5 2 w5 ⟨rd.o,rd.ky,rd.v,rd.ps,.slice xa rd.ps.length xc⟩/\own5 w4.heap.size = ⟨0,.store⟩/\W0.heap.size<=w4.heap.size/\rd.ps.length<=2 ^ 20) <|⟨hst5,hop5,hzb,hwb,hsl⟩);generalize hob : w4.heap.size = ob at *;clear hst5 hop5 hz5 hzb hwb hsl hf5 HO HSt hob;have HPr:=(mkH (Calls _ _ _ _ _) <|proper_calls rd.o rd.ky rd.v xa xc rd.ps w5 (PairsAt.ofRow HS5.out.2.1) (by have:=HS5.out.2.2.2.2; omega));unfold opVal at HPr;refine Calls.mono HPr.out ?_;rintro r w6 ⟨rfl,hf6⟩;have HS6:=(mkH (AlSt 1 W0 w6 pb sb ub T N E L (QT N E L) j own5 D1 ps n1 e1 q1/\OpOk own5 2 w6 ⟨rd.o,rd.ky,rd.v,rd.ps,.slice xa rd.ps.length xc⟩) <|⟨HS5.out.1.calm hf6,HS5.out.2.1.fr hf6 (Ext.refl _ _) (fun _ _ h=>h)⟩);have HB6:=(mkH (At w6 ob [.int .i64 rd.o,.int .i64 rd.ky,.int .i64 rd.v,.slice xa rd.ps.length xc] 53) <|hf6.at HB5.out (fun h=>h));clear hf6 HPr HB5;obtain ⟨pr,hpr⟩ : ∃ pr,Hid (pr = properB rd.o rd.ky rd.ps):=⟨_,rfl⟩;rw [<- hpr.out]
   go_upto_region 15 with fail
   go_cut [70] from 65 (fun v wx=>v = .bool (!pr || (rd.o == 1 || rd.o == 2))/\Hid (Fr (fun _=>False) w6 wx))
   case first =>
    cases pr
    ·go_wp2
     go_meet
     case rel=>exact ⟨rfl,Fr.refl _ _⟩
    ·have hbc:=HB6.out.cell;have HU:=(mkH (Calls _ _ _ _ _) <|isUpdate_calls rd.o rd.ky rd.v (.slice xa rd.ps.length xc) w6);unfold opVal at HU;go_wp2_with fail;refine Calls.mono HU.out ?_;rintro r w7 ⟨rfl,hf7⟩;have HF7:=(mkH (Fr (fun _=>False) w6 w7) <|hf7);clear hf7 HU hbc;go_wp2
     go_meet
     case rel=>exact ⟨by simp,HF7⟩
   case rest =>
    obtain ⟨rfl,HF7⟩:=hcut;obtain ⟨bad,hbad⟩ : ∃ bad,Hid (bad = (!pr || (rd.o == 1 || rd.o == 2))):=⟨_,rfl⟩;rw [<- hbad.out]
    go_upto_if 70 with fail
    go_cut [17] from 65 (fun _ wx=>Hid (FzOp W0 wx pb sb ub ob T N E L j))
    case first =>
     cases bad
     ·have HOpn:=(mkH (FzOp W0 wc pb sb ub ob T N E L j) <|by
       have hb:=hbad.out;simp only [Bool.false_eq,Bool.or_eq_false_iff,Bool.not_eq_false',beq_eq_false_iff_ne] at hb;have hp : properB rd.o rd.ky rd.ps = true:=by rw [<- hpr.out]; exact hb.1
       have hk:=(newWork_ok (va:=rd.v) hp).2.2.1;exact ⟨own5,D1,ps,n1,e1,q1,rd.o,rd.ky,rd.v,rd.ps,xa,xc,HS6.out.1.calm HF7.out,HS6.out.2.fr HF7.out (Ext.refl _ _) (fun _ _ h=>h),HF7.out.at HB6.out (fun h=>h),HS5.out.2.2.1,hp,by omega,by have:=HS5.out.2.2.2.2; omega⟩)
      go_wp2
      go_meet
      case rel=>exact HOpn
     ·go_wp2_with fail;refine Calls.mono (whole_calls wc) ?_;rintro r w8 ⟨ya,yc,rfl,hO⟩;have HO:=(mkH (OwnSpans wc w8 _ _) <|hO);have HB8:=(mkH (At w8 ob [.int .i64 rd.o,.int .i64 rd.ky,.int .i64 rd.v,.slice xa rd.ps.length xc] 53) <|hO.fr.at (HF7.out.at HB6.out (fun h=>h)) (fun h=>h));clear hO;have hbc:=HB8.out.cell;have hbz:=HB8.out.frozen;simp only [opVal];go_wp2_with fail;have HOpn:=(mkH (FzOp W0 _ pb sb ub ob T N E L j) <|FzOp.whole (HS6.out.1.calm HF7.out) HS5.out.2.2.1 HS5.out.2.2.2.1 (Nat.lt_of_lt_of_le HB6.out.lt HF7.out.size) HB8.out HO.out);clear hbc hbz
      go_meet
      case rel=>exact HOpn
    case rest =>
     have HOp:=(mkH (FzOp W0 wc pb sb ub ob T N E L j) <|hcut);clear hcut HS5 HS6 HB6 HF7 hpr hbad;obtain ⟨own7,D7,ps7,n7,e7,c7,kd,ky,va,sp,xa7,xc7,hst,hop,hob,hzo,hprp,hrdk,hsl⟩:=HOp.out;obtain ⟨sha,shc,hs,_⟩:=hst.at_.sh;have HDo:=(mkH (Calls _ _ _ _ _) <|does_calls hs kd ky va xa7 xc7 sp (PairsAt.ofRow hop) (by have:=(HQ.out.room hst.q).2.2.2.2.2.2; omega) hprp);have HS:=(mkH (AlSt 1 W0 wc pb sb ub T N E L (QT N E L) j own7 D7 ps7 n7 e7 c7/\OpOk own7 2 wc ⟨kd,ky,va,sp,.slice xa7 sp.length xc7⟩/\At wc ob [.int .i64 kd,.int .i64 ky,.int .i64 va,.slice xa7 sp.length xc7] 53/\properB kd ky sp = true/\(kd = 3\/kd = 4)/\sp.length<=2 ^ 40) <|⟨hst,hop,hob,hprp,hrdk,hsl⟩);have hbc:=hob.cell;clear hst hop hob hzo hprp hrdk hsl hs HOp;unfold pv opVal at HDo;go_wp2_with fail;refine Calls.mono HDo.out ?_;rintro r w8 ⟨ya,yn,yc,rfl,hD⟩;have hu : shUpd ps7 kd ky = false:=by
      unfold shUpd;rcases HS.out.2.2.2.2.1 with rfl | rfl <;> rfl
     have HOL:=(mkH (OwnLists wc w8 (.slice ya yn yc) (shAns ps7 kd ky sp).spans) <|hD.no hu);obtain ⟨SA,hSA⟩ : ∃ SA,Hid (SA = shAns ps7 kd ky sp):=⟨_,rfl⟩;rw [<- hSA.out];clear hD hu HDo hbc;simp only [ansV]
     go_upto_if 77 with fail
     generalize hw9 : World.alloc _ _ = w9;have HA9:=(mkH (At w9 w8.heap.size [.int .i64 SA.err,.bool SA.did,.int .i64 SA.value,.int .i64 SA.stamp,.slice ya yn yc] 69) <|by rw [<- hw9]; exact At.new w8 _ _);have HF9:=(mkH (Fr (fun _=>False) w8 w9) <|by rw [<- hw9]; exact (Fr.refl _ _).alloc _);clear hw9;obtain ⟨bb,hbb⟩ : ∃ bb : Nat,Hid (101 * j<=bb/\bb<=2 ^ 30):=⟨101 * j,Nat.le_refl _,by omega⟩;have HMk:=(mkH (∀ w2,At w2 w8.heap.size [.int .i64 SA.err,.bool SA.did,.int .i64 SA.value,.int .i64 (if SA.err = 0 then c7 else SA.stamp),.slice ya yn yc] 69->Fr (fun k=>k = w8.heap.size) w8 w2->∃ own',FzA W0 w2 pb ob w8.heap.size T N E L bb own' D7 ps7 n7 e7 c7 kd ky va sp xa7 xc7 (.slice ya yn yc)) <|by
      intro w2 h2 hf2;rw [hSA.out] at h2;exact FzA.of HS.out.1 HS.out.2.1 HS.out.2.2.1 HS.out.2.2.2.1 HS.out.2.2.2.2.1 HS.out.2.2.2.2.2 HOL.out h2 hf2 (Nat.le_refl _) hbb.out.1)
     have HU9:=(mkH (PuAt w9 ub n7 e7 c7) <|HF9.out.at (HOL.out.fr.at HS.out.1.at_.pu (fun h=>h)) (fun h=>h))
     go_cut [17] from 75 (fun _ wx=>Hid (∃ own',FzA W0 wx pb ob w8.heap.size T N E L bb own' D7 ps7 n7 e7 c7 kd ky va sp xa7 xc7 (.slice ya yn yc)))
     case first =>
      have hac:=HA9.out.cell;have haz:=HA9.out.frozen;have huc:=HU9.out.cell;by_cases h0 : SA.err = 0
      ·have h0' : (SA.err == 0) = true:=by simpa using h0
       have HR:=(mkH (∃ own',FzA W0 (w9.setCell ⟨w8.heap.size,3,none⟩ (.int .i64 c7)) pb ob w8.heap.size T N E L bb own' D7 ps7 n7 e7 c7 kd ky va sp xa7 xc7 (.slice ya yn yc)) <|HMk.out _ (by rw [if_pos h0]; exact HA9.out.set 3 _) ((Fr.mono HF9.out (fun _ _ h=>h.elim)).set1 _ _));clear h0;go_wp2
       go_meet
       case rel=>exact HR
      ·have h0' : (SA.err == 0) = false:=by simpa using h0
       have HR:=(mkH (∃ own',FzA W0 w9 pb ob w8.heap.size T N E L bb own' D7 ps7 n7 e7 c7 kd ky va sp xa7 xc7 (.slice ya yn yc)) <|HMk.out _ (by rw [if_neg h0]; exact HA9.out) (Fr.mono HF9.out (fun _ _ h=>h.elim)));clear h0;go_wp2
       go_meet
       case rel=>exact HR
     case rest =>
      obtain ⟨own9,hA⟩:=(show Hid _ from hcut).out;clear hcut HMk HU9 HA9 HF9 HOL HS hSA;generalize w8.heap.size = ab at *;obtain ⟨A,hAe⟩ : ∃ A,Hid (A = wantOf 1 L n7 e7 c7 ps7 kd ky sp):=⟨_,rfl⟩;have HK:=(mkH (FzK W0 wc ab A (.slice ya yn yc) own9) <|by show FzK _ _ _ _ _ _; rw [hAe.out]; exact hA.k);have HRd3:=(mkH (kd = 3\/kd = 4) <|hA.rd);have HBg:=(mkH (Calls _ _ _ _ _) <|fz_begin hA.pl hA.q hA.ok hA.cfg hA.sz (by have:=hbb.out.2; omega) (by omega) hA.pr hA.rd xa7 xc7 hA.sl hA.op);have hbc:=hA.ob.cell;clear hA;unfold pv opVal at HBg;simp only [Int.ofNat_zero,Int.natCast_zero] at HBg;go_wp2_with fail;refine Calls.mono HBg.out ?_;rintro r w10 ⟨rfl,hg⟩;have HOn:=(mkH (FzOn W0 w10 pb ab A (.slice ya yn yc) (fun D=>∃ t',Fz2 T N E L (bb + 1 + 0) 0 ps7 c7 kd ky sp t' D)) <|FzOn.goes HK.out hg);clear hg HBg HK hbc;go_wp2
      go_loopw [19] (fun v wr=>∃ q : Nat,q<=3/\v = .int .i64 q/\Hid (FzOn W0 wr pb ab A (.slice ya yn yc) (fun D=>∃ t',Fz2 T N E L (bb + 1 + q) q ps7 c7 kd ky sp t' D))) (fun v _=>3 - (intOf v).toNat)
      case atStart=>exact ⟨0,by omega,rfl,HOn⟩
      case round =>
       clear HOn;obtain ⟨q,hq,rfl,HOn⟩:=hrel;obtain ⟨own11,D11,hP11,hK11,t11,h11⟩:=HOn.out;by_cases hlt3 : q < 3
       ·have HSp:=(mkH (Calls _ _ _ _ _) <|fz_step hP11 h11 hlt3 (by have:=hbb.out.2; omega));have HK11:=(mkH (FzK W0 wr ab A (.slice ya yn yc) own11) <|hK11);clear hP11 hK11 h11 HOn;unfold pv at HSp;simp only [Int.ofNat_zero,Int.natCast_zero] at HSp;go_wp2_with fail;refine Calls.mono HSp.out ?_;rintro r w12 ⟨rfl,hg⟩;have HOn2:=(mkH (FzOn W0 w12 pb ab A (.slice ya yn yc) (fun D=>∃ t',Fz2 T N E L (bb + 1 + (q + 1)) (q + 1) ps7 c7 kd ky sp t' D)) <|FzOn.goes HK11.out hg);clear hg HSp HK11;go_wp2
        go_roundw
        case rel=>exact ⟨q + 1,by omega,by go_num,HOn2⟩
        case measure=>simp [intOf]; omega
       ·have hq3 : q = 3:=by omega
        subst hq3;have HJ:=(mkH (Plays treeKin 1 T N E L (FrJ T N E L t11 ps7)) <|fr_plays h11.tb (by rw [h11.qd]; exact HRd3.out) h11.nx);have HT0:=(mkH (t11.busy = true/\(t11.work.kind = 3\/t11.work.kind = 4)/\t11.work.next = 4) <|⟨h11.tb,by rw [h11.qd]; exact HRd3.out,h11.nx⟩);have HRa:=(mkH (readAns ps7 t11.work = A) <|by show _ = _; rw [hAe.out]; exact wantOf_rd HRd3.out _ h11.qd h11.qy h11.qs (h11.tm (by omega)));obtain ⟨b1,hb1⟩ : ∃ b1 : Nat,Hid (b1 = bb + 1 + 3/\b1<=2 ^ 31):=⟨_,rfl,by have:=hbb.out.2; omega⟩;have HOn3:=(mkH (FzOn W0 wr pb ab A (.slice ya yn yc) (fun D=>FrJ T N E L t11 ps7 D/\Sz (b1 + 400 * 0) D)) <|⟨own11,D11,hP11,hK11,h11.fr,by rw [hb1.out.1]; exact h11.sz⟩);clear hP11 hK11 h11 HOn hAe hbb HRd3;go_wp2
        go_loopw [22] (fun v wr=>∃ i : Nat,i<=late.length/\v = .int .i64 i/\Hid (FzOn W0 wr pb ab A (.slice ya yn yc) (fun D=>FrJ T N E L t11 ps7 D/\Sz (b1 + 400 * i) D))) (fun v _=>late.length - (intOf v).toNat)
        case atStart=>exact ⟨0,by omega,rfl,HOn3⟩
        case round =>
         clear HOn3;obtain ⟨i,hi,rfl,HOn4⟩:=hrel;obtain ⟨own12,D12,hP12,hK12,hj12,hS12⟩:=HOn4.out;have HK12:=(mkH (FzK W0 wr ab A (.slice ya yn yc) own12) <|hK12);by_cases hltL : i < late.length
         ·have hx : late[i]? = some late[i]:=List.getElem?_eq_getElem hltL;obtain ⟨hai,hasn⟩:=HAl.out i _ hx;generalize late[i] = a at hx hai hasn;obtain ⟨lb,off,rfl,hcl,hsp,hmm,htt⟩:=hai.keep hK12.fr;have HAct:=(mkH (Calls _ _ _ _ _) <|Pact_calls HJ.out hP12 hj12 hS12 (by have:=hb1.out.2; omega) (by have:=HT.out.1; omega) a hsp hasn hmm htt);have c0:=hcl 0 _ rfl;have c1:=hcl 1 _ rfl;have c2:=hcl 2 _ rfl;have c3:=hcl 3 _ rfl;have c4:=hcl 4 _ rfl;have c5:=hcl 5 _ rfl;have c6:=hcl 6 _ rfl;obtain ⟨akd,att,ao,aky,ava,am,apsa,apsn,apsc,asps⟩:=a;simp only [Nat.add_zero,<- Nat.add_assoc] at c0 c1 c2 c3 c4 c5 c6;unfold pv actVal at HAct;simp only [Int.ofNat_one,Int.natCast_one] at HAct;clear hP12 hK12 hj12 hS12 hx hai hasn hcl hsp hmm htt HOn4;go_wp2_with fail;refine Calls.mono HAct.out ?_;rintro r w13 ⟨rfl,hg⟩;have HOn5:=(mkH (FzOn W0 w13 pb ab A (.slice ya yn yc) (fun D=>FrJ T N E L t11 ps7 D/\Sz (b1 + 400 * (i + 1)) D)) <|FzOn.goes HK12.out hg);clear hg HAct c0 c1 c2 c3 c4 c5 c6 HK12;go_wp2
          go_roundw
          case rel=>(repeat apply Exists.intro); exact ⟨⟨i + 1,by omega,by go_num,HOn5⟩,rfl⟩
          case measure=>simp [intOf]; omega
         ·have HFi:=(mkH (Calls _ _ _ _ _) <|Pfinish_calls (f:=1) HJ.out hP12 hj12 hS12 (by have:=hb1.out.2; omega) (by have:=HT.out.1; omega) HT.out.2);obtain ⟨b2,hb2⟩ : ∃ b2 : Nat,Hid (b2 = b1 + 400 * i + 60000/\b2<=2 ^ 35):=⟨_,rfl,by have:=hb1.out.2; omega⟩;clear hP12 hK12 hj12 hS12 HOn4;unfold pv at HFi;simp only [Int.ofNat_one,Int.natCast_one] at HFi;go_wp2_with fail;refine Calls.mono HFi.out ?_;rintro r w13 ⟨rfl,hg⟩;obtain ⟨own13,D13,hP13,hK13,hj13,hS13,hst13⟩:=FzOn.goes HK12.out hg;rw [<- hb2.out.1] at hS13;have HRe:=(mkH (Calls _ _ _ _ _) <|fr_rest HT0.out.1 HT0.out.2.1 HT0.out.2.2 hP13 hj13 hst13 hS13);have HK13:=(mkH (FzK W0 w13 ab A (.slice ya yn yc) own13) <|hK13);clear hg HFi HK12 hP13 hK13 hj13 hS13 hst13;unfold pv at HRe;go_wp2_with fail;refine Calls.mono HRe.out ?_;rintro r w14 ⟨rfl,hg⟩;obtain ⟨own14,D14,hP14,hK14,hj14,hst14,hz14,hS14⟩:=FzOn.goes HK13.out hg;have HSw:=(mkH (Calls _ _ _ _ _) <|fr_swept HT0.out.1 HT0.out.2.1 HT0.out.2.2 hP14 hj14 hst14 hz14 hS14);have HK14:=(mkH (FzK W0 w14 ab A (.slice ya yn yc) own14) <|hK14);clear hg HRe HK13 hP14 hK14 hj14 hS14 hst14 hz14;unfold pv at HSw;go_wp2_with fail;refine Calls.mono HSw.out ?_;rintro r w15 ⟨rfl,hg⟩;obtain ⟨own15,D15,hP15,hK15,hj15,hst15,hS15⟩:=FzOn.goes HK14.out hg;have HSo:=(mkH (Calls _ _ _ _ _) <|fr_solo HT0.out.1 HT0.out.2.1 HT0.out.2.2 HT.out.2 hP15 hj15 hst15 hS15 (by have:=hb2.out.2; omega));have HK15:=(mkH (FzK W0 w15 ab A (.slice ya yn yc) own15) <|hK15);clear hg HSw HK14 hP15 hK15 hj15 hS15 hst15;unfold pv at HSo;simp only [Int.ofNat_zero,Int.natCast_zero] at HSo;go_wp2_with fail;refine Calls.mono HSo.out ?_;rintro r w16 ⟨rfl,hg⟩;obtain ⟨own16,D16,hP16,hK16,ds,o16,av,f16,hd16,hl16⟩:=FzOn.goes HK15.out hg;rw [HRa.out] at hd16;clear hg HSo HK15;obtain ⟨gd,cd,hdv,hdc⟩:=hP16.lastDeed hd16;have hdm:=hP16.dok ⟨o16,A,av,f16⟩ (by rw [hd16]; simp);obtain ⟨va16,vc16,hav⟩ : ∃ xa xc,av = .slice xa A.spans.length xc:=by
           obtain ⟨ins,h1,h2,h3⟩:=hdm.2.1.top;exact ownsShape h2.row
          subst hav;have d4:=hdc 4 _ rfl;have d5:=hdc 5 _ rfl;have d6:=hdc 6 _ rfl;have d7:=hdc 7 _ rfl;have d8:=hdc 8 _ rfl;have hdi : (ds.length : Int)<=34359738368:=by have:=hb2.out.2; omega
          have HP16:=(mkH (At w16 pb D16.cells 42) <|hP16.at_);have HK16:=(mkH (FzK W0 w16 ab A (.slice ya yn yc) own16) <|hK16);have HDM:=(mkH (DeedOk own16 2 w16 ⟨o16,A,.slice va16 A.spans.length vc16,f16⟩) <|hdm);have HDv:=(mkH (D16.dv = .slice (some ⟨gd,0,none⟩) (ds.length + 1) cd) <|hdv);have HSame:=(mkH (∀ w',Fr (fun _=>False) w16 w'->Calls Tryz.prog 38 #[.agg #[.int .i64 A.err,.bool A.did,.int .i64 A.value,.int .i64 A.stamp,.slice va16 A.spans.length vc16],.agg #[.int .i64 A.err,.bool A.did,.int .i64 A.value,.int .i64 A.stamp,.slice ya yn yc]] w' fun e w''=>e = .returned (.bool true)/\Fr (fun _=>False) w' w'') <|by
           intro w' hw';exact sameAnswers_eq A w' va16 ya _ yn vc16 yc HDM.out.2.2 HDM.out.2.1.nil HK16.out.ls.nil (HDM.out.2.1.fr hw' (Ext.refl _ _) (fun _ _ h=>h)).read (HK16.out.ls.fr hw' (Ext.refl _ _) (fun _ _ h=>h)).read)
          clear hP16 hK16 hd16 hl16 hdm hdc hdv HJ HT0 HRa;go_wp2_with fail;refine wp_region_calm [8,9,10,11,12,14] 5 rfl (by kernel_rfl) (by kernel_rfl) (by kernel_rfl) (by decide) (by kernel_rfl) (by decide) ?_;intro U V hU hV;have hpu : ∀ u,(V u).cell? ⟨pb,9,none⟩ = some (.slice (some ⟨gd,0,none⟩) (ds.length + 1) cd):=fun u=>by
           have:=((hV u).at HP16.out (fun h=>h)).cell 9
           simp only [PlD.cells,HDv.out] at this;exact this
          have hau : ∀ u o,(V u).cell? ⟨ab,o,none⟩ = [Value.int .i64 A.err,.bool A.did,.int .i64 A.value,.int .i64 A.stamp,.slice ya yn yc][o]?:=fun u=>((hV u).at HK16.out.a1 (fun h=>h)).cell
          have D4:=(mkH (w16.cell? ⟨gd,ds.length * 10 + 4,none⟩ = some (.int .i64 A.err)) <|d4);have D5:=(mkH (w16.cell? ⟨gd,ds.length * 10 + 5,none⟩ = some (.bool A.did)) <|d5);have D6:=(mkH (w16.cell? ⟨gd,ds.length * 10 + 6,none⟩ = some (.int .i64 A.value)) <|d6);have D7:=(mkH (w16.cell? ⟨gd,ds.length * 10 + 7,none⟩ = some (.int .i64 A.stamp)) <|d7);have D8:=(mkH (w16.cell? ⟨gd,ds.length * 10 + 8,none⟩ = some (.slice va16 A.spans.length vc16)) <|d8);clear hV d4 d5 d6 d7 d8
          repeat (refine mix_read rfl rfl ?_; go_big_quiet_step (fail); refine wpQuiet_nil ?_)
          refine mix_effC (.int .i64 (ds.length + 1 : Nat)) rfl rfl rfl ?_ ?_
          ·intro w' hw';go_simp;exact ⟨rfl,hw'⟩
          go_simp;refine mix_effC (.int .i64 ds.length) rfl rfl rfl ?_ ?_
          ·intro w' hw';go_simp;exact ⟨by rw [wrap_small _ (by omega) (by omega)],hw'⟩
          go_simp;refine mix_effC (.pointer (some ⟨gd,ds.length * 10,none⟩)) rfl rfl rfl ?_ ?_
          ·intro w' hw';go_simp;rw [if_pos (by omega)];exact ⟨rfl,hw'⟩
          go_simp;refine mix_effC (.pointer (some ⟨gd,ds.length * 10 + 4,none⟩)) rfl rfl rfl ?_ ?_
          ·intro w' hw';go_simp;exact ⟨rfl,hw'⟩
          go_simp;refine mix_effC (.agg #[.int .i64 A.err,.bool A.did,.int .i64 A.value,.int .i64 A.stamp,.slice va16 A.spans.length vc16]) rfl rfl rfl ?_ ?_
          ·intro w' hw';have e4:=hw'.keepCell D4.out;have e5:=hw'.keepCell D5.out;have e6:=hw'.keepCell D6.out;have e7:=hw'.keepCell D7.out;have e8:=hw'.keepCell D8.out;go_simp;exact ⟨rfl,hw'⟩
          go_simp
          repeat (refine mix_read rfl rfl ?_; go_big_quiet_step (fail); refine wpQuiet_nil ?_)
          refine mix_effC (.bool true) rfl rfl rfl ?_ ?_
          ·intro w' hw';go_simp;refine Calls.mono (HSame.out w' hw') ?_;rintro e w'' ⟨rfl,hF⟩;exact ⟨rfl,hw'.trans hF⟩
          go_simp
          repeat (refine mix_read rfl rfl ?_; go_big_quiet_step (fail); refine wpQuiet_nil ?_)
          refine mix_nil ?_;intro w17 hw17;have HFin:=(mkH (Fr (fun _=>False) W w17) <|HF0.out.trans (HK16.out.fr.trans hw17));clear hw17 hpu hau;go_wp2;go_ret;exact ⟨rfl,HFin.out⟩
theorem tfrozen_any (k t n e l : Int) (W : World) (sa sl : Option Addr) (c cl : Nat) (early late : List ActD) (rd : ActD) (rt : rawI t) (rn : rawI n) (re : rawI e) (rl : rawI l) (hlenE : early.length<=2 ^ 20) (hlenL : late.length<=2 ^ 20) (hactsE : ∀ i a,early[i]? = some a->ActIn W sa i a/\a.sn<=2 ^ 20) (hactsL : ∀ i a,late[i]? = some a->ActIn W sl i a/\a.sn<=2 ^ 20) (hrd : Spans W rd.sa rd.sn rd.ps/\rd.sn<=2 ^ 20) :
  Calls Tryz.prog 7 #[cfg k t n e l,.slice sa early.length c,actVal rd,.slice sl late.length cl] W fun r W'=>r = .returned (.bool true)/\Fr (fun _=>False) W W':=by
 have HF0:=(mkH (Fr (fun _=>False) W ((W.alloc (.cells #[.int .i64 k,.int .i64 t,.int .i64 n,.int .i64 e,.int .i64 l] 23)).alloc (.cells #[.int .i64 rd.kd,.int .i64 rd.tt,.int .i64 rd.o,.int .i64 rd.ky,.int .i64 rd.v,.int .i64 rd.m,.slice rd.sa rd.sn rd.sc] 29))) <|((Fr.refl _ _).alloc _).alloc _);have HA:=(mkH (Calls Tryz.prog 13 #[cfg k t n e l,.slice sa early.length c,actVal rd,.slice sl late.length cl,.int .i64 1] _ _) <|ltfrozen_calls k t n e l _ sa sl c cl early late rd rt rn re rl hlenE hlenL (fun i a ha=>⟨(hactsE i a ha).1.keep HF0.out,(hactsE i a ha).2⟩) (fun i a ha=>⟨(hactsL i a ha).1.keep HF0.out,(hactsL i a ha).2⟩) ⟨hrd.1.keep HF0.out,hrd.2⟩);clear hactsE hactsL hrd;unfold cfg actVal at HA;unfold cfg actVal
 go_enter Tryz.func7,Tryz.ntmps7
 go_wp2_with fail;refine Calls.mono HA.out ?_;rintro r w1 ⟨rfl,hF1⟩;have HF1:=(mkH (Fr (fun _=>False) W w1) <|HF0.out.trans hF1);clear hF1 HA HF0;go_wp2;go_ret;exact ⟨rfl,HF1.out⟩
end
end
section
theorem tfrozen_holds : Rows.TreeFrozenUptoSaid:=tfrozen_frame (fun k t n e l W sa sl c cl early late rd rt rn re rl h1 h2 h3 h4 h5=>tfrozen_any k t n e l W sa sl c cl early late rd rt rn re rl h1 h2 h3 h4 h5)
#print axioms tfrozen_holds
end
end Go.Proofs.YtfccelbmacjifabGreat
