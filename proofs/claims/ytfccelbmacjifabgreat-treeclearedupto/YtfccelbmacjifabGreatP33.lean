import Derived.Test.YtfccelbmacjifabGreatP0
import Derived.Test.YtfccelbmacjifabGreatP26
import Derived.Test.YtfccelbmacjifabGreatP30
import Derived.Test.YtfccelbmacjifabGreatP32
set_option linter.unusedSimpArgs false
set_option maxRecDepth 100000
set_option maxHeartbeats 4000000
namespace Go.Proofs.YtfccelbmacjifabGreat
section
open Go.RowKit
section
variable {own : Own} {z : Nat} {w w' : World} {pb b : Nat} {D D1 : PlD} {i j : Nat}
theorem isUpdate_calls (kind key value : Int) (sv : Value) (w : World) :
  Calls Tryz.prog 33 #[opVal kind key value sv] w fun r w'=>r = .returned (.bool (kind == 1 || kind == 2))/\Fr (fun _=>False) w w':=by
 unfold opVal;have HF:=(mkH (∀ o,Fr (fun _=>False) w (w.alloc o)) <|fun o=>(Fr.refl _ _).alloc _);by_cases h1 : kind = 1
 ·subst h1
  go_enter Tryz.func33,Tryz.ntmps33
  go_wp2;go_ret;exact ⟨rfl,HF.out _⟩
 ·have h1' : (kind == 1) = false:=by simpa using h1
  by_cases h2 : kind = 2
  ·subst h2;clear h1 h1'
   go_enter Tryz.func33,Tryz.ntmps33
   go_wp2;go_ret;exact ⟨rfl,HF.out _⟩
  ·have h2' : (kind == 2) = false:=by simpa using h2
   have HE : Hid ((kind == 1 || kind == 2) = false):=by show _ = _; simp [h1',h2']
   clear h1 h2
   go_enter Tryz.func33,Tryz.ntmps33
   go_wp2;go_ret;exact ⟨ret_bool HE.out.symm,HF.out _⟩
end
end
section
open Go.RowKit
section
variable {own : Own} {z : Nat} {w w' : World} {pb : Nat} {D D1 : PlD} {i j : Nat}
theorem rest_run {P : PSt} (hs : ∀ t ∈ P.ts,t.slot = 0) (hm : P.sweep.made<=P.ts.length + 2) : (∀ j,j < P.ts.length + 2 - P.sweep.made->P.swHow j = 1)/\P.swHow (P.ts.length + 2 - P.sweep.made) = 3/\(P.swIter (P.ts.length + 2 - P.sweep.made + 1)).sweep = PSweep.zero:=by
 have one : ∀ Q : PSt,Q.ts = P.ts->Q.sweep.made < P.ts.length + 2->Q.doSweep.2 = 1/\Q.doSweep.1.sweep.made = Q.sweep.made + 1:=by
  intro Q hQ hlt;unfold PSt.doSweep;simp only;split
  ·next h0=>exact ⟨rfl,by show 1 = _; omega⟩
  ·split
   ·next hl =>
    have hsl : (Q.th (Q.sweep.made - 1)).slot = 0:=by
     unfold PSt.th;rw [hQ] at hl ⊢;rw [List.getElem?_eq_getElem hl];exact hs _ (List.getElem_mem hl)
    rw [if_neg (by rw [hsl]; decide)];exact ⟨rfl,rfl⟩
   ·next hl =>
    rw [if_pos (by rw [hQ] at hl ⊢; omega)];exact ⟨rfl,rfl⟩
 have run : ∀ j,j<=P.ts.length + 2 - P.sweep.made->(P.swIter j).sweep.made = P.sweep.made + j:=by
  intro j
  induction j with
  | zero=>intro _; rfl
  | succ j ih =>
   intro hj
   have:=ih (by omega)
   show (P.swIter j).doSweep.1.sweep.made = _;rw [(one (P.swIter j) (swIter_ts P j) (by omega)).2,this]; omega
 refine ⟨?_,?_,?_⟩
 ·intro j hj;exact (one (P.swIter j) (swIter_ts P j) (by rw [run j (by omega)]; omega)).1
 ·have hr:=run _ (Nat.le_refl _);show (P.swIter (P.ts.length + 2 - P.sweep.made)).doSweep.2 = 3;have ht:=swIter_ts P (P.ts.length + 2 - P.sweep.made);generalize P.swIter (P.ts.length + 2 - P.sweep.made) = Q at *;unfold PSt.doSweep;simp only;rw [if_neg (by omega),if_neg (by rw [ht]; omega),if_neg (by rw [ht]; omega)]
 ·have hr:=run _ (Nat.le_refl _);show (P.swIter (P.ts.length + 2 - P.sweep.made)).doSweep.1.sweep = _;have ht:=swIter_ts P (P.ts.length + 2 - P.sweep.made);generalize P.swIter (P.ts.length + 2 - P.sweep.made) = Q at *;unfold PSt.doSweep;simp only;rw [if_neg (by omega),if_neg (by rw [ht]; omega),if_neg (by rw [ht]; omega)]
theorem Prest_calls (h : PlAt own z w pb D) (r : Nat) (hr : r < D.P.ts.length + 3) (hmv : ∀ j,j < r->D.P.swHow j = 1) (hend : D.P.swHow r = 3) :
  Calls Tryz.prog 37 #[pv pb] w fun e w'=>e = .returned (.bool true)/\PlGoes own z w pb w' (SwN D (r + 1)):=by
 have hT : (D.t : Int)<=64/\0<=D.t:=by have:=h.thr; have:=h.fit.thr; omega
 obtain ⟨T,hTe⟩ : ∃ T,Hid (T = D.P.ts.length):=⟨_,rfl⟩;have hTt : Hid (D.t = T):=by show D.t = T; rw [hTe.out]; exact h.thr
 have hTb : T<=64:=by have:=hTt.out; omega
 have hrT : r < T + 3:=by rw [hTe.out]; exact hr
 have H:=(mkH (PlAt own z w pb D) <|h);have HM:=(mkH (∀ j,j < r->D.P.swHow j = 1) <|hmv);have HE:=(mkH (D.P.swHow r = 3) <|hend);have HS:=(mkH (∀ j (own1 : Own) (w1 : World) (D1 : PlD),PlAt own1 z w1 pb D1->Ext own own1 w->FrP own z w w1->SwN D j D1->Calls Tryz.prog 42 #[pv D1.L.s] w1 fun r w2=>r = .returned (.int .i64 (D.P.swHow j))/\PlGoes own z w pb w2 (SwN D (j + 1))) <|by
  intro j own1 w1 D1 h1 hE hF hS;obtain ⟨L1,e1,rfl⟩:=hS;refine (ZSweep_fit h1.st h1.fit).mono ?_;rintro r w2 ⟨rfl,hG⟩;have hf:=(h1.fit.sweep h1.st.mem.nsmall).1;obtain ⟨own2,L2,hP2,hE2,hF2,e2⟩:=h1.store hG hf (by rw [sweep_ts]);exact ⟨rfl,PlGoes.trans hE hF ⟨own2,_,hP2,hE2,hF2,L2,e2.trans e1,rfl⟩⟩)
 clear h hmv hend hT hTe hr;unfold pv at HS ⊢
 go_enter Tryz.func37,Tryz.ntmps37
 go_wp2
 go_loopw [3] (fun v wr=>∃ j : Nat,j<=r/\v = .int .i64 j/\Hid (PlGoes own z w pb wr (SwN D j))) (fun v _=>r + 1 - (intOf v).toNat)
 case atStart=>exact ⟨0,by omega,rfl,own,D,H.out,Ext.refl _ _,Fr.refl _ _,D.L,rfl,rfl⟩
 case round =>
  clear H;obtain ⟨j,hj,rfl,HG⟩:=hrel;obtain ⟨own1,D1,hP,hE,hF,hI⟩:=HG.out;have ha:=hP.at_.cell;have HC:=(mkH (PlAt own1 z wr pb D1/\Ext own own1 w/\FrP own z w wr/\SwN D j D1) <|⟨hP,hE,hF,hI⟩);have ht : D1.t = T:=by obtain ⟨L1,_,rfl⟩:=hI; exact hTt.out
  simp only [PlD.cells,ht,pv] at ha;clear hP hE hF hI HG ht;by_cases hlt : j < r
  ·have h1:=HM.out j hlt;go_wp2_with fail;refine (HS.out j own1 wr D1 HC.out.1 HC.out.2.1 HC.out.2.2.1 HC.out.2.2.2).mono ?_;rw [h1];rintro r w2 ⟨rfl,hG2⟩;have HG2:=(mkH (PlGoes own z w pb w2 (SwN D (j + 1))) <|hG2);clear hG2 h1;go_wp2
   go_roundw
   case rel=>exact ⟨j + 1,by omega,by go_num,HG2⟩
   case measure=>simp [intOf]; omega
  ·have hjm : Hid (j = r):=by show j = r; omega
   have h1 : D.P.swHow j = 3:=by rw [hjm.out]; exact HE.out
   go_wp2_with fail;refine (HS.out j own1 wr D1 HC.out.1 HC.out.2.1 HC.out.2.2.1 HC.out.2.2.2).mono ?_;rw [h1];rintro e w2 ⟨rfl,hG2⟩;have HG2:=(mkH (PlGoes own z w pb w2 (SwN D (r + 1))) <|by rw [<- show j + 1 = r + 1 by rw [hjm.out]]; exact hG2);clear hG2 h1;go_wp2;go_ret;exact ⟨rfl,HG2.out⟩
theorem whole_calls (w : World) : Calls Tryz.prog 28 #[] w fun e w'=>∃ va vc,e = .returned (opVal 4 0 0 (.slice va 1 vc))/\OwnSpans w w' (.slice va 1 vc) [(0,1099511627776)]:=by
 go_enter Tryz.func28,Tryz.ntmps28
 go_wp2_with fail;generalize hw1 : World.alloc (World.alloc w _) _ = w1;have hA : At w1 w.heap.size [.int .i64 4,.int .i64 0,.int .i64 0,.slice (some ⟨w.heap.size + 1,0,none⟩) 1 1] 53:=by subst hw1; exact (At.new w _ _).alloc _
 have hB : At w1 (w.heap.size + 1) [.int .i64 0,.int .i64 1099511627776] 81:=by subst hw1; exact At.newAt (by simp) _ _
 have hF : Fr (fun _=>False) w w1:=by subst hw1; exact ((Fr.refl _ _).alloc _).alloc _
 have f0:=hA.cell;have HO : OwnSpans w w1 (.slice (some ⟨w.heap.size + 1,0,none⟩) 1 1) [(0,1099511627776)]:=by
  refine ⟨⟨rfl,.inr ⟨w.heap.size + 1,1,_,rfl,Nat.zero_le _,hB,Nat.le_refl _,by unfold maxLen; decide,rfl,rfl⟩⟩,?_,hF⟩;intro k hk;simp [Value.ownBlock] at hk;omega
 clear hw1 hA hB hF;refine bodyPost_ret (v:=opVal 4 0 0 (.slice (some ⟨w.heap.size + 1,0,none⟩) 1 1)) (by simp [results,Tryz.results28,go_sem,opVal,f0]) rfl ⟨_,_,rfl,HO⟩
theorem took_calls (kd ky va : Int) (sv : Value) (e : Int) (did : Bool) (av st : Int) (lv : Value) (f : Int) (w : World) (sa la : Option Addr) (sn sc ln lc : Nat) (hs : sv = .slice sa sn sc) (hv : lv = .slice la ln lc) :
  Calls Tryz.prog 39 #[.agg #[.int .i64 kd,.int .i64 ky,.int .i64 va,sv,.int .i64 e,.bool did,.int .i64 av,.int .i64 st,lv,.int .i64 f]] w fun r w'=>r = .returned (.bool ((kd == 1 || kd == 2) && did))/\Fr (fun _=>False) w w':=by
 subst hv hs;have HU:=(mkH (∀ w,Calls Tryz.prog 33 #[opVal kd ky va (.slice sa sn sc)] w _) <|fun w=>isUpdate_calls kd ky va (.slice sa sn sc) w);unfold opVal at HU
 go_enter Tryz.func39,Tryz.ntmps39
 go_wp2_with fail;refine Calls.mono (HU.out _) ?_;rintro r w1 ⟨rfl,hF1⟩;have hA : At w1 w.heap.size [.int .i64 kd,.int .i64 ky,.int .i64 va,.slice sa sn sc,.int .i64 e,.bool did,.int .i64 av,.int .i64 st,.slice la ln lc,.int .i64 f] 75:=hF1.at (At.new w _ _) (fun h=>h);have hac:=hA.cell;have HF:=(mkH (Fr (fun _=>False) w w1) <|((Fr.refl _ _).alloc _).trans hF1);clear hA hF1 HU;obtain ⟨b,hb⟩ : ∃ b,Hid ((kd == 1 || kd == 2) = b):=⟨_,rfl⟩;rw [hb.out];cases b
 ·go_wp2;go_ret;exact ⟨by rw [hb.out]; rfl,HF.out⟩
 ·go_wp2;go_ret;exact ⟨by rw [hb.out]; simp,HF.out⟩
end
end
section
namespace T
section
variable {D D' : PlD} {i j : Nat} {t : PThread} {T N E L : Int}
theorem ClJ.swIter (h : ClJ T N E L D) : ∀ (j : Nat) (L' : ZLay),ClJ T N E L { D with L:=L',P:=D.P.swIter j }
 | 0,L'=>by
  obtain ⟨h1,h2,h3,h4,h5,h6,h7⟩:=h;exact ⟨h1,h2,h3,h4,h5,h6,h7⟩
 | j + 1,L'=>cl_plays.sweep L' (ClJ.swIter h j L')
theorem ClJ.swN (h : ClJ T N E L D) {j : Nat} (hs : SwN D j D') : ClJ T N E L D':=by
 obtain ⟨L',_,rfl⟩:=hs;exact h.swIter j L'
theorem ClJ.after (h : ClJ T N E L D) (hst : Still 0 D) (hfit : Fit D.N D.P) (hz : D.P.sweep = PSweep.zero) (hN : 0<=N/\N<=64) (hE : 1<=E/\E<=256) (hL : 0<=L/\L<=1099511627776) :
  ∃ (ps : List (Int × Int)) (n e : Int),QT N E L D.P ps n e D.P.clock/\(ps.length : Int) = isum (D.deeds.map tk)/\(∀ p ∈ ps,0<=p.1/\p.1<=1099511627776)/\ps.length<=64:=by
 obtain ⟨g,hA,hr⟩:=h.ex;have hidle : Idle D.P:=by
  intro t ht;obtain ⟨j,hj⟩:=List.mem_iff_getElem?.1 ht;exact hst j t (Nat.zero_le _) hj
 have hq : QT N E L D.P (Rt g D.P.clock) D.P.mem.room.1 D.P.mem.room.2 D.P.clock:=⟨⟨g,hA,rfl⟩,h.uq,hidle,hz,h.len,⟨rfl,rfl⟩,rfl,h.lim,by rw [<- h.lim]; exact hfit.clk.2⟩;have hrm:=hq.room hN hE hL;refine ⟨_,_,_,hq,?_,?_,hrm.2.2.2.2.2.2⟩
 ·have hl0 : isum (D.P.ts.map lnkd) = 0:=isum_zero lnkd _ (fun t ht=>lnkd_low t (fun hb=>by rw [hidle t ht] at hb; cases hb));unfold net at hr;rw [hl0] at hr;omega
 ·rintro ⟨q,v⟩ hp;obtain ⟨x,h1,h2⟩:=(Rt_mem hA.i.n.gt).1 hp;exact hA.i.n.gt.kr x q v h1 h2
theorem filter_whole {ps : List (Int × Int)} (h : ∀ p ∈ ps,0<=p.1/\p.1<=1099511627776) : ps.filter (inSpan (0,1099511627776)) = ps:=by
 refine List.filter_eq_self.2 ?_;intro p hp;unfold inSpan;rw [isIn_iff]; exact h p hp
theorem want_whole {lim n e c : Int} {ps : List (Int × Int)} (h : ∀ p ∈ ps,0<=p.1/\p.1<=1099511627776) (hl : ps.length<=64) : wantOf 1 lim n e c ps 4 0 [(0,1099511627776)] = { stamp:=c,spans:=[ps] }/\doneOf 1 lim n e c ps 4 0 = false:=by
 have hu : shUpd ps 4 0 = false:=by unfold shUpd; simp
 have hs : spanLists [(0,1099511627776)] ps = [ps]:=by unfold spanLists; rw [List.map_cons,filter_whole h]; rfl
 have ha : shAns ps 4 0 [(0,1099511627776)] = { stamp:=0,spans:=[ps] }:=by
  unfold shAns;rw [if_pos rfl];unfold answerOf;rw [hs,if_neg (by simp [lensOf]; omega)]
 constructor
 ·unfold wantOf;rw [hu,ha]; rfl
 ·unfold doneOf; rw [hu]; rfl
theorem proper_whole : properB 4 0 [(0,1099511627776)] = true:=by decide
end
end T
end
section
open Go.RowKit
open Go.Proofs.YtfccelbmacjifabGreat.T (ClJ QT tk isum isum_app tquiets want_whole proper_whole)
structure ClW (T N E L : Int) (b : Nat) (ps : List (Int × Int)) (D : PlD) : Prop where
 q : ∃ c,QT N E L D.P ps (N - ps.length * (1 + 1)) (E - ps.length * (1 + 1) - 1) c
 n : (ps.length : Int) = isum (D.deeds.map tk)
 ks : ∀ p ∈ ps,0<=p.1/\p.1<=1099511627776
 le : ps.length<=64
 ok : D.ok
 cfg : D.k = 1/\D.t = T/\D.n = N/\D.e = E/\D.l = L
 sz : Sz b D
structure ClB (T N E L : Int) (b : Nat) (ps : List (Int × Int)) (o : OpV) (D : PlD) : Prop where
 q : ∃ (P0 : PSt) (t0 : PThread) (c : Int),QT N E L P0 ps (N - ps.length * (1 + 1)) (E - ps.length * (1 + 1) - 1) c/\P0.ts[0]? = some t0/\D.P = P0.setT 0 { t0 with busy:=true,work:=newWork 4 0 0 [(0,1099511627776)] }
 n : (ps.length : Int) = isum (D.deeds.map tk)
 ks : ∀ p ∈ ps,0<=p.1/\p.1<=1099511627776
 le : ps.length<=64
 bs : D.bs[0]? = some true
 op : D.ops[0]? = some o
 cfg : D.k = 1/\D.t = T/\D.n = N/\D.e = E/\D.l = L
 sz : Sz b D
structure ClE (T N E L : Int) (b : Nat) (ps : List (Int × Int)) (o : OpV) (D : PlD) : Prop where
 d : ∃ ds c av f,D.deeds = ds ++ [⟨o,{ stamp:=c,spans:=[ps] },av,f⟩]/\isum (ds.map tk) = ps.length/\ds.length<=b
 rm : D.P.mem.room.1 = N - ps.length * 2/\D.P.mem.room.2 = E - ps.length * 2 - 1
 le : ps.length<=64
 cfg : D.k = 1/\D.t = T/\D.n = N/\D.e = E/\D.l = L
section
variable {own : Own} {z : Nat} {w w' : World} {pb b : Nat} {D D' : PlD} {i j : Nat} {t : PThread} {T N E L : Int} {ps : List (Int × Int)} {o : OpV}
theorem Pclean_tree (h : PlAt own z w pb D) (hk : D.k = 1) (n : Int) (hn : 0<=n/\n<=64) (hN : 0<=D.n/\D.n<=64) (hE : 0<=D.e/\D.e<=256) (h1 : D.P.mem.room.1 = D.n - n * 2) (h2 : D.P.mem.room.2 = D.e - n * 2 - 1) :
  Calls Tryz.prog 40 #[pv pb,.int .i64 n] w fun r w'=>r = .returned (.bool true)/\w' = w:=by
 obtain ⟨n1,n2⟩:=hn;obtain ⟨n3,n4⟩:=hN;obtain ⟨e1,e2⟩:=hE;have HR:=(mkH (Calls Tryz.prog 45 #[pv D.L.s] w fun r w'=>r = .returned (.tuple #[.int .i64 (D.n - n * 2),.int .i64 (D.e - n * 2 - 1)])/\w' = w) <|by
  show Calls _ _ _ _ _;rw [<- h1,<- h2]; exact ZRoom_calls h.st)
 have ha:=h.at_.cell;simp only [PlD.cells,hk,pv] at ha;clear h h1 h2;unfold pv at HR ⊢
 go_enter Tryz.func40,Tryz.ntmps40
 go_wp2_with fail;refine Calls.mono HR.out ?_;rintro r w1 ⟨rfl,rfl⟩;go_wp2;go_ret
 simp
theorem Sz.eq {b : Nat} (h : Sz b D) (h1 : D'.N<=D.N) (h2 : D'.deeds = D.deeds) (h3 : D'.puts = D.puts) (h4 : D'.takes = D.takes) : Sz b D':=by
 unfold Sz at *;rw [h2,h3,h4]; omega
theorem cl_rest (hP : PlAt own z w pb D) (h : ClJ T N E L D) (hst : Still 0 D) (hs : Sz b D) :
  Calls Tryz.prog 37 #[pv pb] w fun e w'=>e = .returned (.bool true)/\PlGoes own z w pb w' (fun D'=>ClJ T N E L D'/\Still 0 D'/\D'.P.sweep = PSweep.zero/\Sz b D'):=by
 obtain ⟨g,hA,_⟩:=h.ex;have hsl : ∀ t ∈ D.P.ts,t.slot = 0:=hA.i.slot0 (by
  intro t ht;obtain ⟨j,hj⟩:=List.mem_iff_getElem?.1 ht;exact hst j t (Nat.zero_le _) hj)
 obtain ⟨r1,r2,r3⟩:=rest_run hsl hA.i.o.sm;refine (Prest_calls hP _ (by omega) r1 r2).mono ?_;rintro e w' ⟨rfl,own',D',h1,h2,h3,hsw⟩;refine ⟨rfl,own',D',h1,h2,h3,h.swN hsw,?_,?_,?_⟩
 ·obtain ⟨L',_,rfl⟩:=hsw;intro j u hj hu;have hu' : (D.P.swIter (D.P.ts.length + 2 - D.P.sweep.made + 1)).ts[j]? = some u:=hu;rw [swIter_ts] at hu';exact hst j u hj hu'
 ·obtain ⟨L',_,rfl⟩:=hsw;exact r3
 ·obtain ⟨L',_,rfl⟩:=hsw;exact hs.eq (Nat.le_refl _) rfl rfl rfl
theorem cl_swept (hP : PlAt own z w pb D) (h : ClJ T N E L D) (hst : Still 0 D) (hz : D.P.sweep = PSweep.zero) (hs : Sz b D) (hN : 0<=N/\N<=64) (hE : 1<=E/\E<=256) (hL : 0<=L/\L<=1099511627776) :
  ∃ ps,Calls Tryz.prog 24 #[pv pb] w fun e w'=>e = .returned (.bool true)/\PlGoes own z w pb w' (ClW T N E L b ps):=by
 obtain ⟨ps,n,e,q1,q2,q3,q4⟩:=h.after hst hP.fit hz hN hE hL;refine ⟨ps,?_⟩;obtain ⟨s1,s2,s3⟩:=(tquiets (T:=T) hN hE hL).sweep q1;refine (Pswept_calls hP s1 s2).mono ?_;rintro e w' ⟨rfl,own',D',h1,h2,h3,hsw⟩;refine ⟨rfl,own',D',h1,h2,h3,?_⟩;have hj:=h.swN hsw;obtain ⟨L',_,rfl⟩:=hsw;exact ⟨⟨_,s3⟩,q2,q3,q4,hj.ok,h.cfg,hs.eq (Nat.le_refl _) rfl rfl rfl⟩
theorem cl_begin (hP : PlAt own z w pb D) (h : ClW T N E L b ps D) (hT : 1<=T) (hb : b<=2 ^ 36) (sa : Option Addr) (sc : Nat) (ho : OpOk own (z + 1) w ⟨4,0,0,[(0,1099511627776)],.slice sa 1 sc⟩) (hN : 0<=N/\N<=64) (hE : 1<=E/\E<=256) (hL : 0<=L/\L<=1099511627776) :
  Calls Tryz.prog 29 #[pv pb,.int .i64 ((0 : Nat) : Int),opVal 4 0 0 (.slice sa 1 sc)] w fun r w'=>r = .returned (.bool true)/\PlGoes own z w pb w' (ClB T N E L (b + 1) ps ⟨4,0,0,[(0,1099511627776)],.slice sa 1 sc⟩):=by
 have hl : 0 < D.P.ts.length:=by have:=hP.thr; have:=h.cfg.2.1; omega
 have ht : D.P.ts[0]? = some D.P.ts[0]:=List.getElem?_eq_getElem hl;generalize D.P.ts[0] = t at ht;obtain ⟨c,hq⟩:=h.q;have htb : t.busy = false:=(tquiets (T:=T) hN hE hL).idle hq t (List.mem_of_getElem? ht);have hs:=h.sz;refine (Pbegins_calls hP h.ok ht 4 0 0 [(0,1099511627776)] sa sc ho (by simp) (by unfold Sz at hs; omega)).mono ?_;rintro r w' ⟨rfl,own',D',h1,h2,h3,hB⟩;refine ⟨rfl,own',D',h1,h2,h3,?_⟩;obtain ⟨y1,y2,y3,y4,y5,y6⟩:=hB.yes htb proper_whole;refine ⟨⟨D.P,t,c,hq,ht,y1⟩,by rw [hB.deeds]; exact h.n,h.ks,h.le,?_,?_,cfg_trans hB.cfg h.cfg,hs.begin hB⟩
 ·rw [y2,List.getElem?_set_self (by rw [hP.bl]; exact hl)]
 ·rw [y3,List.getElem?_set_self (by rw [hP.ol]; exact hl)]; rfl
theorem cl_solo (hP : PlAt own z w pb D) (h : ClB T N E L b ps o D) (hb : b<=2 ^ 36) (hN : 0<=N/\N<=64) (hE : 1<=E/\E<=256) (hL : 0<=L/\L<=1099511627776) :
  Calls Tryz.prog 30 #[pv pb,.int .i64 ((0 : Nat) : Int)] w fun r w'=>r = .returned (.bool true)/\PlGoes own z w pb w' (ClE T N E L b ps o):=by
 obtain ⟨P0,t0,c,hq,ht0,hD⟩:=h.q;obtain ⟨m,hm,hmv,hend,hans,hq2⟩:=(tquiets (T:=T) hN hE hL).op 4 0 0 [(0,1099511627776)] hq ht0 proper_whole;have hl:=(List.getElem?_eq_some_iff.1 ht0).1;have hts : D.P.ts[0]? = some { t0 with busy:=true,work:=newWork 4 0 0 [(0,1099511627776)] }:=by
  rw [hD]; simp [PSt.setT,hl]
 have hs:=h.sz;unfold Sz at hs;rw [<- hD] at hmv hend hans hq2;obtain ⟨w1,w2⟩:=want_whole (lim:=L) (n:=N - ps.length * (1 + 1)) (e:=E - ps.length * (1 + 1) - 1) (c:=c) h.ks h.le;rw [w1] at hans;rw [w2] at hq2;refine (Psolo_calls hP (by rw [h.cfg.2.2.1]; exact hN) h.bs hts rfl (by omega) (by omega) m (by rw [h.cfg.2.2.1]; exact hm) hmv hend).mono ?_;rintro r w' ⟨rfl,own',D',h1,h2,h3,hS⟩;refine ⟨rfl,own',D',h1,h2,h3,?_⟩;obtain ⟨av,o',f,g1,g2,g3⟩:=hS.deeds;have ho' : o' = o:=by rw [h.op] at g1; injection g1 with g1; exact g1.symm
 rw [hans,ho'] at g3;have hr:=(tquiets (T:=T) hN hE hL).room hq2;refine ⟨⟨D.deeds,c,av,f,g3,h.n.symm,by omega⟩,⟨?_,?_⟩,h.le,cfg_trans hS.cfg h.cfg⟩
 ·rw [hS.P,hr.1]; rfl
 ·rw [hS.P,hr.2.1]; rfl
end
end
section
open Go.RowKit
open Go.Proofs.YtfccelbmacjifabGreat.T (ClJ QT tk isum isum_app cl_plays cl_fresh)
section
variable {own : Own} {z : Nat} {w w' : World} {pb b : Nat} {D D' : PlD} {i j : Nat} {t : PThread} {T N E L : Int} {ps : List (Int × Int)} {o : OpV}
theorem PlAt.deedCells (h : PlAt own z w pb D) (hd : D.deeds≠[]) : ∃ g c,D.dv = .slice (some ⟨g,0,none⟩) D.deeds.length c/\∀ (k : Nat) d,D.deeds[k]? = some d->(∃ sa sn sc la ln lc,d.op.sv = .slice sa sn sc/\d.av = .slice la ln lc)/\∀ q v,d.cells[q]? = some v->w.cell? ⟨g,k * 10 + q,none⟩ = some v:=by
 have hl : 0 < D.deeds.length:=List.length_pos_iff.2 hd;obtain ⟨g,c,hv,_⟩:=ownsRow_shape h.deeds.row (by omega);have hr:=h.deeds.row;rw [hv] at hr;refine ⟨g,c,hv,?_⟩;intro k d hk;refine ⟨?_,?_⟩
 ·have hdk:=h.dok d (List.mem_of_getElem? hk);obtain ⟨sa,sc,h1⟩:=ownsShape hdk.1.row;obtain ⟨ins,_,h2,_⟩:=hdk.2.1.top;obtain ⟨la,lc,h3⟩:=ownsShape h2.row;exact ⟨sa,_,sc,la,_,lc,h1,h3⟩
 ·intro q v hq;exact ownsRow_cell hr ((tab_get DeedV.cells 10 deed_len D.deeds k q d hk (by have:=(List.getElem?_eq_some_iff.1 hq).1; simpa [deed_len] using this)).trans hq)
theorem isum_take (ds : List DeedV) {k : Nat} {d : DeedV} (hk : ds[k]? = some d) : isum ((ds.take (k + 1)).map tk) = isum ((ds.take k).map tk) + tk d:=by
 rw [List.take_add_one,hk,List.map_append,isum_app];show _ + (tk d + 0) = _;omega
theorem tk_le (d : DeedV) : -1<=tk d/\tk d<=1:=by
 unfold tk;split
 ·split
  ·omega
  ·split <;> omega
 ·omega
theorem isum_le : ∀ (ds : List DeedV),-(ds.length : Int)<=isum (ds.map tk)/\isum (ds.map tk)<=ds.length
 | []=>by simp [isum]
 | d :: ds=>by
  have ih:=isum_le ds
  have:=tk_le d
  have e : isum ((d :: ds).map tk) = tk d + isum (ds.map tk):=rfl;rw [e,List.length_cons];omega
theorem ltcleared_calls (k t n e l : Int) (W : World) (sa : Option Addr) (c : Nat) (acts : List ActD) (rt : rawI t) (rn : rawI n) (re : rawI e) (rl : rawI l) (hlen : acts.length<=2 ^ 20) (hacts : ∀ i a,acts[i]? = some a->ActIn W sa i a/\a.sn<=2 ^ 20) :
  Calls Tryz.prog 14 #[cfg k t n e l,.slice sa acts.length c,.int .i64 1] W fun r W'=>r = .returned (.bool true)/\Fr (fun _=>False) W W':=by
 obtain ⟨hok,hT1⟩:=cfg_ok 1 1 t n e l (.inr rfl) (.inl rfl);have HCf:=(mkH (∀ w,Calls Tryz.prog 15 #[cfg k t n e l,.int .i64 1,.int .i64 1] w _) <|fun w=>config_calls k t n e l 1 1 w rt rn re rl (.inl rfl));generalize cT 1 t = T at *;generalize cN n = N at *;generalize cE e = E at *;generalize cL l = L at *;have hb : (1<=T/\T<=8)/\(0<=N/\N<=64)/\(1<=E/\E<=256)/\(0<=L/\L<=1099511627776):=by
  simp only [okCfg,Bool.and_eq_true,isIn_iff] at hok;omega
 have HB:=(mkH ((1<=T/\T<=8)/\(0<=N/\N<=64)/\(1<=E/\E<=256)/\(0<=L/\L<=1099511627776)) <|hb);obtain ⟨bb,hbb⟩ : ∃ bb : Nat,Hid (bb = 400 * acts.length/\bb + 70000<=2 ^ 36):=⟨_,rfl,by omega⟩;have HPd:=(mkH (∀ w,Fr (fun _=>False) W w->Calls Tryz.prog 26 #[cfg 1 T N E L,.slice sa acts.length c,.int .i64 ((0 : Nat) : Int)] w fun r W'=>∃ pb,r = .returned (pv pb)/\PlOn w W' pb (fun D=>ClJ T N E L D/\Sz bb D)) <|by
  intro w hw;rw [hbb.out.1];exact played_calls cl_plays (fun D hD=>cl_fresh hb.2.1.1 hb.2.2.1.1 hb.2.2.2.1 hD) hok (by omega) w sa c acts hlen (fun i a ha=>⟨(hacts i a ha).1.keep hw,(hacts i a ha).2⟩))
 clear hok hacts hb rt rn re rl hT1 hlen;unfold cfg at HCf HPd ⊢;simp only [Int.ofNat_zero,Int.natCast_zero] at HPd
 go_enter Tryz.func14,Tryz.ntmps14
 go_wp2_with fail;refine Calls.mono (HCf.out _) ?_;rintro r w1 ⟨rfl,hF1⟩;have HF1:=(mkH (Fr (fun _=>False) W w1) <|((Fr.refl _ _).alloc _).trans hF1);clear hF1 HCf;go_wp2_with fail;refine Calls.mono (HPd.out w1 HF1.out) ?_;rintro r w2 ⟨pb,rfl,hOn⟩;obtain ⟨own,D,hP,hE,hF,hj,hS⟩:=hOn;have HC:=(mkH (Calls _ _ _ _ _) <|Pfinish_calls (f:=0) cl_plays hP hj hS (by have:=hbb.out.2; omega) (by have:=HB.out.1; omega) HB.out.2.1);have HX:=(mkH (Ext own00 own w1/\Fr (fun _=>False) w1 w2) <|⟨hE,hF⟩);clear hP hE hF hj hS HPd;unfold pv at HC ⊢;simp only [Int.ofNat_zero,Int.natCast_zero] at HC;go_wp2_with fail;refine Calls.mono HC.out ?_;rintro r w3 ⟨rfl,hg⟩;obtain ⟨own3,D3,hP3,hE3,hF3,hj3,hS3,hst3⟩:=PlOn.goes HX.out.1 HX.out.2 hg;have HC3:=(mkH (Calls _ _ _ _ _) <|cl_rest hP3 hj3 hst3 hS3);have HX3:=(mkH (Ext own00 own3 w1/\Fr (fun _=>False) w1 w3) <|⟨hE3,hF3⟩);clear hP3 hE3 hF3 hj3 hS3 hst3 hg HC HX;unfold pv at HC3;go_wp2_with fail;refine Calls.mono HC3.out ?_;rintro r w4 ⟨rfl,hg⟩;obtain ⟨own4,D4,hP4,hE4,hF4,hj4,hst4,hz4,hS4⟩:=PlOn.goes HX3.out.1 HX3.out.2 hg;obtain ⟨ps,hsw⟩:=cl_swept hP4 hj4 hst4 hz4 hS4 HB.out.2.1 HB.out.2.2.1 HB.out.2.2.2;have HC4:=(mkH (Calls _ _ _ _ _) <|hsw);have HX4:=(mkH (Ext own00 own4 w1/\Fr (fun _=>False) w1 w4) <|⟨hE4,hF4⟩);clear hP4 hE4 hF4 hj4 hst4 hz4 hS4 hg hsw HC3 HX3;unfold pv at HC4;go_wp2_with fail;refine Calls.mono HC4.out ?_;rintro r w5 ⟨rfl,hg⟩;have HOn5:=(mkH (PlOn w1 w5 pb (ClW T N E L (bb + 60000) ps)) <|PlOn.goes HX4.out.1 HX4.out.2 hg);clear hg HC4 HX4;go_wp2_with fail;refine Calls.mono (whole_calls w5) ?_;rintro r w6 ⟨va,vc,rfl,hO⟩;have HO:=(mkH (OwnSpans w5 w6 _ _) <|hO);clear hO;simp only [opVal];go_wp2_with fail;generalize hw7 : World.alloc _ _ = w7;have hf7 : Fr (fun _=>False) w6 w7:=by rw [<- hw7]; exact (Fr.refl _ _).alloc _
 clear hw7;obtain ⟨own5,D5,hP5,hE5,hF5,hW5⟩:=HOn5.out;obtain ⟨own7,hP7,hE7,hop7⟩:=hP5.boxes (HO.out.fr.trans hf7) (HO.out.keep hf7) (Nat.le_refl _) ⟨4,0,0,[(0,1099511627776)],.slice va 1 vc⟩ rfl rfl;have HC7:=(mkH (Calls _ _ _ _ _) <|cl_begin hP7 hW5 HB.out.1.1 (by have:=hbb.out.2; omega) va vc hop7 HB.out.2.1 HB.out.2.2.1 HB.out.2.2.2);have HX7:=(mkH (Ext own00 own7 w1/\Fr (fun _=>False) w1 w7) <|⟨Ext.trans hE5 hE7 hF5.size,hF5.trans (HO.out.fr.trans hf7)⟩);clear hf7 hP5 hE5 hF5 hW5 hP7 hE7 hop7 HOn5 HO;unfold pv opVal at HC7;simp only [Int.ofNat_zero,Int.natCast_zero] at HC7;go_wp2_with fail;refine Calls.mono HC7.out ?_;rintro r w8 ⟨rfl,hg⟩;obtain ⟨own8,D8,hP8,hE8,hF8,hB8⟩:=PlOn.goes HX7.out.1 HX7.out.2 hg;have HC8:=(mkH (Calls _ _ _ _ _) <|cl_solo hP8 hB8 (by have:=hbb.out.2; omega) HB.out.2.1 HB.out.2.2.1 HB.out.2.2.2);have HX8:=(mkH (Ext own00 own8 w1/\Fr (fun _=>False) w1 w8) <|⟨hE8,hF8⟩);clear hP8 hE8 hF8 hB8 hg HC7 HX7;unfold pv at HC8;simp only [Int.ofNat_zero,Int.natCast_zero] at HC8;go_wp2_with fail;refine Calls.mono HC8.out ?_;rintro r w9 ⟨rfl,hg⟩;obtain ⟨own9,D9,hP9,hE9,hF9,hX9⟩:=PlOn.goes HX8.out.1 HX8.out.2 hg;clear hg HC8 HX8;obtain ⟨ds,c9,av,f9,hd9,hs9,hl9⟩:=hX9.d;have hlb : ds.length<=2 ^ 36:=by have:=hbb.out.2; omega
 obtain ⟨gd,cd,hdv,hdc⟩:=hP9.deedCells (by rw [hd9]; simp);have hll : D9.deeds.length = ds.length + 1:=by rw [hd9]; simp
 rw [hll] at hdv;have hlast:=hdc ds.length ⟨⟨4,0,0,[(0,1099511627776)],.slice va 1 vc⟩,{ stamp:=c9,spans:=[ps] },av,f9⟩ (by rw [hd9]; simp);have hdm:=hP9.dok ⟨⟨4,0,0,[(0,1099511627776)],.slice va 1 vc⟩,{ stamp:=c9,spans:=[ps] },av,f9⟩ (by rw [hd9]; simp);obtain ⟨ins,i1,i2,i3⟩:=hdm.2.1.top;simp only [List.length_singleton,List.length_cons,List.length_nil] at i1 i2;obtain ⟨ga,gac,hav,_⟩:=ownsRow_shape i2.row (by omega);subst hav;obtain ⟨u,hu⟩ : ∃ u,ins[0]? = some u:=⟨_,List.getElem?_eq_getElem (by omega)⟩;have hga:=ownsRow_cell i2.row hu;obtain ⟨ua,uc,huv⟩:=ownsShape (i3 0 u ps hu rfl).row;subst huv;have ha:=hP9.at_.cell;simp only [PlD.cells,hX9.cfg.1,hX9.cfg.2.2.1,hX9.cfg.2.2.2.1,hdv,pv] at ha;have hpl:=hP9.at_.lt;have hpn : pb≠w9.heap.size:=by omega
 have d4:=hlast.2 4 _ rfl;have d5:=hlast.2 5 _ rfl;have d6:=hlast.2 6 _ rfl;have d7:=hlast.2 7 _ rfl;have d8:=hlast.2 8 _ rfl;have hgl:=cellLt d4;simp only at hgl;have hgn : gd≠w9.heap.size:=by omega
 have hdi : (ds.length : Int)<=2 ^ 36:=by omega
 have HDC:=(mkH (∀ (k : Nat) d,D9.deeds[k]? = some d->_) <|hdc);have HP9:=(mkH (PlAt own9 1 w9 pb D9/\D9.deeds.length = ds.length + 1/\D9.dv = .slice (some ⟨gd,0,none⟩) (ds.length + 1) cd) <|⟨hP9,hll,hdv⟩);have HGA:=(mkH (w9.cell? ⟨ga,0,none⟩ = some (.slice ua ps.length uc)) <|by
  show _ = _;simpa using hga)
 have HX9:=(mkH (ClE T N E L (bb + 60000 + 1) ps ⟨4,0,0,[(0,1099511627776)],.slice va 1 vc⟩ D9) <|hX9);have HSum:=(mkH (isum (D9.deeds.map tk) = ps.length) <|by
  show isum (D9.deeds.map tk) = ps.length;rw [hd9,List.map_append,isum_app,hs9];show _ + (tk _ + 0) = _;have : tk ⟨⟨4,0,0,[(0,1099511627776)],.slice va 1 vc⟩,{ stamp:=c9,spans:=[ps] },.slice (some ⟨ga,0,none⟩) 1 gac,f9⟩ = 0:=rfl;rw [this]; omega)
 have HF9:=(mkH (Fr (fun _=>False) W w9) <|HF1.out.trans hF9);clear hP9 hE9 hF9 hX9 hd9 hs9 hl9 hdv hll hlast hdm i1 i2 i3 hu hga hdc;go_wp2_with fail;go_region;generalize hw10 : World.drew _ = w10;have HA10:=(mkH (At w10 w9.heap.size [.int .i64 0,.bool false,.int .i64 0,.int .i64 c9,.slice (some ⟨ga,0,none⟩) 1 gac] 69) <|by rw [<- hw10]; exact (At.new w9 _ _).drew);have HF10:=(mkH (Fr (fun _=>False) w9 w10) <|by rw [<- hw10]; exact ((Fr.refl _ _).alloc _).drew);clear hw10 ha d4 d5 d6 d7 d8 hpl hpn hgl hgn;have hac:=HA10.out.cell;go_wp2;clear hac
 go_loopw [13,14] (fun v1 v2 wr=>∃ k : Nat,k<=ds.length + 1/\v1 = .int .i64 (isum ((D9.deeds.take k).map tk))/\v2 = .int .i64 k/\Hid (Fr (fun _=>False) w10 wr)) (fun _ v2 _=>ds.length + 1 - (intOf v2).toNat)
 case atStart=>exact ⟨0,by omega,rfl,rfl,Fr.refl _ _⟩
 case round =>
  obtain ⟨k,hk,rfl,rfl,HFr⟩:=hrel;have hPr:=HP9.out.1.calm (HF10.out.trans HFr.out);have ha:=hPr.at_.cell;simp only [PlD.cells,HX9.out.cfg.1,HX9.out.cfg.2.2.1,HX9.out.cfg.2.2.2.1,HP9.out.2.2,pv] at ha;have hac:=(HFr.out.at HA10.out (fun h=>h)).cell;have HPr:=(mkH (PlAt own9 1 wr pb D9) <|hPr);clear hPr;obtain ⟨sm,hsm⟩ : ∃ sm,Hid (sm = isum ((D9.deeds.take k).map tk)):=⟨_,rfl⟩;rw [<- hsm.out];have hsb : -(k : Int)<=sm/\sm<=k:=by
   have:=isum_le (D9.deeds.take k)
   rw [<- hsm.out] at this;have h2 : (D9.deeds.take k).length<=k:=by rw [List.length_take]; omega
   omega
  by_cases hlt : k < ds.length + 1
  ·obtain ⟨d,hx⟩ : ∃ d,D9.deeds[k]? = some d:=⟨_,List.getElem?_eq_getElem (by rw [HP9.out.2.1]; exact hlt)⟩;obtain ⟨⟨xa,xn,xc,la,ln,lc,e1,e2⟩,hcl⟩:=HDC.out k d hx;have hnx : isum ((D9.deeds.take (k + 1)).map tk) = sm + tk d:=by rw [isum_take D9.deeds hx,<- hsm.out]
   have kc : ∀ q v,d.cells[q]? = some v->wr.cell? ⟨gd,k * 10 + q,none⟩ = some v:=fun q v hq=>(HF10.out.trans HFr.out).keepCell (hcl q v hq)
   have c0:=kc 0 _ rfl;have c1:=kc 1 _ rfl;have c2:=kc 2 _ rfl;have c3:=kc 3 _ rfl;have c4:=kc 4 _ rfl;have c5:=kc 5 _ rfl;have c6:=kc 6 _ rfl;have c7:=kc 7 _ rfl;have c8:=kc 8 _ rfl;have c9':=kc 9 _ rfl;rw [e1] at c3;rw [e2] at c8;simp only [Nat.add_zero] at c0;have HTk:=(mkH (tk d = if d.a.did = true then (if d.op.kind = 1 then 1 else if d.op.kind = 2 then -1 else 0) else 0) <|rfl);have HNx:=(mkH (isum ((D9.deeds.take (k + 1)).map tk) = sm + tk d) <|hnx);obtain ⟨⟨kd,ky,vv,sp,sv⟩,⟨er,did,va',st,sps⟩,av',fr⟩:=d;simp only at c0 c1 c2 c3 c4 c5 c6 c7 c8 c9' HTk;have HTo:=(mkH (Calls _ _ _ _ _) <|took_calls kd ky vv (.slice xa xn xc) er did va' st (.slice la ln lc) fr wr xa la xn xc ln lc rfl rfl);clear hx hcl e1 e2 hnx kc;go_wp2_with fail;refine Calls.mono HTo.out ?_;rintro r w11 ⟨rfl,hF11⟩;have HF11:=(mkH (Fr (fun _=>False) w10 w11) <|HFr.out.trans hF11);have ha:=(hF11.at HPr.out.at_ (fun h=>h)).cell;simp only [PlD.cells,HX9.out.cfg.1,HX9.out.cfg.2.2.1,HX9.out.cfg.2.2.2.1,HP9.out.2.2,pv] at ha;have c0':=hF11.keepCell c0;clear hF11 HTo c0 c1 c2 c3 c4 c5 c6 c7 c8 c9' hac HFr HPr;by_cases hd : did = true
   ·subst hd;by_cases h1 : kd = 1
    ·subst h1;have HQ:=(mkH (sm + 1 = isum ((D9.deeds.take (k + 1)).map tk)) <|by show _ = _; rw [HNx.out,HTk.out]; rfl);clear HNx HTk;go_wp2
     go_roundw
     case rel=>exact ⟨k + 1,by omega,by rw [<- HQ.out],by go_num,HF11⟩
     case measure=>simp [intOf]; omega
    ·have h1' : (kd == 1) = false:=by simpa using h1
     by_cases h2 : kd = 2
     ·subst h2;have HQ:=(mkH (sm - 1 = isum ((D9.deeds.take (k + 1)).map tk)) <|by show _ = _; rw [HNx.out,HTk.out]; rfl);clear HNx HTk h1;go_wp2
      go_roundw
      case rel=>exact ⟨k + 1,by omega,by rw [<- HQ.out],by go_num,HF11⟩
      case measure=>simp [intOf]; omega
     ·have h2' : (kd == 2) = false:=by simpa using h2
      have HQ:=(mkH (sm = isum ((D9.deeds.take (k + 1)).map tk)) <|by
       show _ = _;rw [HNx.out,HTk.out,if_pos rfl,if_neg h1,if_neg h2]; omega)
      clear HNx HTk h1 h2;simp only [h1',h2',Bool.or_false,Bool.false_and];go_wp2
      go_roundw
      case rel=>exact ⟨k + 1,by omega,by rw [<- HQ.out],by go_num,HF11⟩
      case measure=>simp [intOf]; omega
   ·have hd' : did = false:=by simpa using hd
    subst hd';have HQ:=(mkH (sm = isum ((D9.deeds.take (k + 1)).map tk)) <|by
     show _ = _;rw [HNx.out,HTk.out,if_neg hd]; omega)
    clear HNx HTk hd;simp only [Bool.and_false];go_wp2
    go_roundw
    case rel=>exact ⟨k + 1,by omega,by rw [<- HQ.out],by go_num,HF11⟩
    case measure=>simp [intOf]; omega
  ·have hke : Hid (k = D9.deeds.length):=by show k = _; rw [HP9.out.2.1]; omega
   have hsp : sm = ps.length:=by rw [hsm.out,hke.out,List.take_length]; exact HSum.out
   subst hsp;have HCl:=(mkH (Calls _ _ _ _ _) <|Pclean_tree HPr.out HX9.out.cfg.1 ps.length ⟨by omega,by have:=HX9.out.le; omega⟩ (by rw [HX9.out.cfg.2.2.1]; exact HB.out.2.1) (by rw [HX9.out.cfg.2.2.2.1]; have:=HB.out.2.2.1; omega) (by rw [HX9.out.cfg.2.2.1]; exact HX9.out.rm.1) (by rw [HX9.out.cfg.2.2.2.1]; exact HX9.out.rm.2));unfold pv at HCl;have hgar:=(HF10.out.trans HFr.out).keepCell HGA.out;have HR:=(mkH (Fr (fun _=>False) W wr) <|HF9.out.trans (HF10.out.trans HFr.out));clear hsm;go_wp2_with fail;refine Calls.mono HCl.out ?_;rintro r w12 ⟨rfl,rfl⟩;go_wp2;go_ret;exact ⟨by simp,HR.out⟩
end
end
section
open Go.RowKit
theorem tcleared_any : LawHolds 8:=by
 intro k t n e l W sa c acts rt rn re rl hlen hacts;have HA:=(mkH (Calls Tryz.prog 14 #[cfg k t n e l,.slice sa acts.length c,.int .i64 1] (W.alloc (.cells #[.int .i64 k,.int .i64 t,.int .i64 n,.int .i64 e,.int .i64 l] 23)) _) <|ltcleared_calls k t n e l _ sa c acts rt rn re rl hlen (fun i a ha=>⟨(hacts i a ha).1.keep ((Fr.refl _ _).alloc _),(hacts i a ha).2⟩));clear hacts;unfold cfg at HA ⊢
 go_enter Tryz.func8,Tryz.ntmps8
 go_wp2_with fail;refine Calls.mono HA.out ?_;rintro r w1 ⟨rfl,hF1⟩;have HF1:=(mkH (Fr (fun _=>False) W w1) <|((Fr.refl _ _).alloc _).trans hF1);clear hF1 HA;go_wp2;go_ret;exact ⟨rfl,HF1.out⟩
end
section
open Go.ChangeShapes Go.WideShapes Go.ChangeAt Go.RowKit Go.Joins Go.Deep
theorem tcleared_contract (hany : LawHolds 8) (H : Type) (enc : TypeId × Value->H) (W : World) (base : Nat) (args : Array Value) (ds gs : List (DataW H)) (before : List MemPlace)
  (hval0 : ∀ (j : Nat) t v,Tryz.f8.params[j]? = some t->args[j]? = some v->Value.okWide Tryz.prog W .any base t v)
  (hW : DataW.Whole enc Tryz.prog Tryz.f8.params.toList Rows.treeClearedSpec.vars false W args.toList ds gs before) (hk : Rows.uptoSmall H (ds ++ gs) = true) :
  Calls Tryz.prog 8 args W fun e W'=>∃ v,e = .returned v/\Rows.treeClearedSpec.post enc Tryz.prog Tryz.f8 false true false false W args v W':=by
 have hval : ∀ (j : Nat) t v,Tryz.f8.params[j]? = some t->args[j]? = some v->Value.okWide Tryz.prog W .any base t v:=hval0;have hW':=hW;obtain ⟨p,q,hA0,hV,rfl,_,_⟩:=hW;have hA : DataW.TrodAll enc Tryz.prog W 0 (fun _=>true) true Tryz.f8.params.toList args.toList ds p:=hA0;rw [Tryz.params8] at hA hval;obtain ⟨v0,vs0,d0,ds0,p0,q0,hargs,rfl,rfl,h0,r0⟩:=trodAll_cons hA;obtain ⟨v1,vs1,d1,ds1,p1,q1,hargs1,rfl,rfl,h1,r1⟩:=trodAll_cons r0;obtain ⟨rfl,rfl,rfl⟩:=trodAll_nil r1;obtain rfl : args = #[v0,v1]:=by cases args; simp_all
 obtain ⟨rfl,rfl⟩:=trodVars_none hV;have k0:=h0;have k1:=h1;have lt0 : ∀ x ∈ p0,x.block < W.heap.size:=by obtain ⟨m,hm⟩:=k0; exact DataW.trod_lt m _ _ _ hm
 have lt1 : ∀ x ∈ p1,x.block < W.heap.size:=by obtain ⟨m,hm⟩:=k1; exact DataW.trod_lt m _ _ _ hm
 obtain ⟨k,t,n,e,l,rfl,rt,rn,re,rl⟩:=cfg_open (hval 0 23 v0 rfl rfl) h0;obtain ⟨sa,m,c,acts,rfl,hm,hl,hacts⟩:=acts_open (hval 1 24 v1 rfl rfl) h1;have hb : Rows.uptoBulk d1<=2 ^ 20:=by
  have h : Rows.uptoBulkAll ([d0,d1] ++ [])<=1048576:=of_decide_eq_true hk;simp only [List.cons_append,List.nil_append,Rows.uptoBulkAll] at h;omega
 clear hA0 hval0;subst hl;refine (hany k t n e l W sa c acts rt rn re rl (Nat.le_trans hm hb) (fun i a ha=>⟨(hacts i a ha).1,Nat.le_trans (hacts i a ha).2 hb⟩)).mono fun r W' ⟨he,hf⟩=>?_
 subst he;have bel : Below W.heap.size W W':=hf.below (fun _ _ h=>h);exact ⟨_,rfl,_,_,_,[],_,[],hW',trodAll_mk1 (shut_bool Tryz.underlying4 _),trodAll_cons_mk (Below.trod Tryz.laidOut (by kernel_rfl) (of_decide_eq_true (by kernel_rfl)) k0 bel lt0) (trodAll_cons_mk (Below.trod Tryz.laidOut (by kernel_rfl) (of_decide_eq_true (by kernel_rfl)) k1 bel lt1) trodAll_mk0),rfl,bel.frame _,fun h=>by cases h⟩
theorem tcleared_lifted (hany : LawHolds 8) (os : Os) (started : os.Started) (H : Type) (enc : TypeId × Value->H) (F : Stop.Interp) :
  ReturnsInHanded {} Tryz.checked os 8 .any ((Rows.OpenSpec.upto Rows.treeClearedSpec).pre6 enc Tryz.prog Tryz.f8 Rows.treeClearedUptoRow.domain false) (((Rows.OpenSpec.upto Rows.treeClearedSpec).at F).post enc Tryz.prog Tryz.f8 false true false false):=by
 refine returnsInHanded_of_cond (C:=Tryz.checked) (s:=Rows.OpenSpec.upto Rows.treeClearedSpec) (k:=Rows.uptoSmall) rfl Tryz.own started (by kernel_rfl) Tryz.func8
  (OpenSpec.witness (enc:=enc) (C:=Tryz.checked) (s:=Rows.OpenSpec.upto Rows.treeClearedSpec) (k:=Rows.uptoSmall) rfl false ⟨#[],#[.agg #[.int .i64 0,.int .i64 0,.int .i64 0,.int .i64 0,.int .i64 0],.slice none 0 0],[]⟩ 8 (by kernel_rfl) (by kernel_rfl) (by kernel_rfl)
   (x:=([.agg [.lit (.int .i64 0),.lit (.int .i64 0),.lit (.int .i64 0),.lit (.int .i64 0),.lit (.int .i64 0)],.nil],[],[])) (by kernel_rfl) rfl (by kernel_rfl)) ?_
 intro W base args ds gs before hval hW _ hk _;exact tcleared_contract hany H enc W base args ds gs before hval hW hk
theorem tcleared_frame (hany : LawHolds 8) : Rows.TreeClearedUptoSaid :=
 OpenClaim.holds_of_cond 8 Tryz.f8 rfl rfl rfl rfl rfl rfl rfl ⟨rfl,rfl,rfl,rfl,rfl⟩ rfl rfl rfl rfl rfl (by kernel_rfl) Tryz.func8 (by kernel_rfl)
  (of_decide_eq_true (by kernel_rfl)) (by unfold Func.isWrapper; first | (rw [if_pos (by decide +kernel)]; kernel_rfl) | (rw [if_neg (by decide +kernel)]; exact ⟨rfl,rfl⟩))
  (fun os started H enc _ F=>tcleared_lifted hany os started H enc F)
end
section
theorem tcleared_holds : Rows.TreeClearedUptoSaid:=tcleared_frame tcleared_any
#print axioms tcleared_holds
end
end Go.Proofs.YtfccelbmacjifabGreat
