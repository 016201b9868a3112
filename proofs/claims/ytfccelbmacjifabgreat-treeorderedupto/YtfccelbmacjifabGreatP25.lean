import Derived.Test.YtfccelbmacjifabGreatP0
import Derived.Test.YtfccelbmacjifabGreatP24
import Derived.Deep.SlicePairs
import Derived.Deep.Slices
import Derived.OpenShut
set_option linter.unusedSimpArgs false
set_option maxRecDepth 100000
set_option maxHeartbeats 4000000
namespace Go.Proofs.YtfccelbmacjifabGreat
section
open Go.RowKit
theorem lisKey_calls (n : Int) (w : World) : Calls Tryz.prog 50 #[.int .i64 n] w fun e w'=>e = .returned (.bool (isIn n 0 (2 ^ 40)))/\w' = w:=by
 by_cases h1 : 0<=n
 ·by_cases h2 : n<=1099511627776
  ·have HE : Hid (isIn n 0 (2 ^ 40) = true):=isIn_true (by omega)
   go_enter Tryz.func50,Tryz.ntmps50
   go_wp2;go_ret;exact ⟨ret_bool HE.out.symm,rfl⟩
  ·have HE : Hid (isIn n 0 (2 ^ 40) = false):=isIn_false (by omega)
   go_enter Tryz.func50,Tryz.ntmps50
   go_wp2;go_ret;exact ⟨ret_bool HE.out.symm,rfl⟩
 ·have HE : Hid (isIn n 0 (2 ^ 40) = false):=isIn_false (by omega)
  go_enter Tryz.func50,Tryz.ntmps50
  go_wp2;go_ret;exact ⟨ret_bool HE.out.symm,rfl⟩
def okSpan (p : Int × Int) : Bool:=isIn p.1 0 (2 ^ 40) && (isIn p.2 0 (2 ^ 40) && decide (p.1<=p.2))
theorem spansOkX_all : ∀ l : List (Int × Int),spansOkX l = l.all okSpan
 | []=>rfl
 | p :: r=>by
  rw [spansOkX,spansOkX_all r,List.all_cons,okSpan];simp [Bool.and_assoc]
theorem all_take {α : Type} {l : List α} {k : Nat} {x : α} (p : α->Bool) (h : l[k]? = some x) : (l.take (k + 1)).all p = ((l.take k).all p && p x):=by
 rw [List.take_add_one,h,List.all_append]; simp
def properB (kind key : Int) (spans : List (Int × Int)) : Bool:=decide (checkOp kind key spans = 0)
theorem proper_calls (kind key value : Int) (a : Option Addr) (c : Nat) (ps : List (Int × Int)) (w : World) (ha : PairsAt w a ps) (hsm : ps.length<=2 ^ 40) :
  Calls Tryz.prog 32 #[opVal kind key value (.slice a ps.length c)] w fun e w'=>e = .returned (.bool (properB kind key ps))/\Fr (fun _=>False) w w':=by
 have HA:=(mkH (PairsAt w a ps) <|ha);have HX:=(mkH (At (w.alloc (.cells #[.int .i64 kind,.int .i64 key,.int .i64 value,.slice a ps.length c] 53)) w.heap.size [.int .i64 kind,.int .i64 key,.int .i64 value,.slice a ps.length c] 53) <|At.new w _ _);have HF0:=(mkH (Fr (fun _=>False) w (w.alloc (.cells #[.int .i64 kind,.int .i64 key,.int .i64 value,.slice a ps.length c] 53))) <|(Fr.refl _ _).alloc _);clear ha;unfold opVal;by_cases h4 : kind = 4
 ·subst h4;have HE : Hid (properB 4 key ps = (isIn ps.length 1 16 && ps.all okSpan)):=by
   show _ = _;unfold properB checkOp;rw [if_neg (by decide),if_pos rfl,spansOkX_all];cases h : (isIn ps.length 1 16 && ps.all okSpan) <;> simp
  by_cases h0 : ps.length = 0
  ·have HE0 : Hid (properB 4 key ps = false):=by show _ = _; rw [HE.out,isIn_false (by omega)]; rfl
   have h0' : ((ps.length : Int) == 0) = true:=by simp [h0]
   clear h0
   go_enter Tryz.func32,Tryz.ntmps32
   go_wp2;go_ret;exact ⟨ret_bool HE0.out.symm,HF0.out⟩
  ·have h0' : ((ps.length : Int) == 0) = false:=by rw [beq_eq_false_iff_ne]; omega
   by_cases h16 : ps.length<=16
   ·have HE1 : Hid (properB 4 key ps = ps.all okSpan):=by show _ = _; rw [HE.out,isIn_true (by omega)]; rfl
    clear h0
    go_enter Tryz.func32,Tryz.ntmps32
    go_wp2_with fail;generalize w.alloc _ = wx at HX HF0 ⊢
    go_loopw [4] (fun v wr=>∃ j : Nat,j<=ps.length/\v = .int .i64 j/\Hid (Fr (fun _=>False) wx wr)/\Hid ((ps.take j).all okSpan = true)) (fun v _=>ps.length - (intOf v).toNat)
    case atStart=>exact ⟨0,by omega,rfl,Fr.refl _ _,rfl⟩
    case round =>
     obtain ⟨j,hj,rfl,HF,HT⟩:=hrel;have hxc:=(HF.out.at HX.out (fun h=>h)).cell;by_cases hlt : j < ps.length
     ·have hp : ps[j]? = some ps[j]:=List.getElem?_eq_getElem _;have HQ : Hid ((ps.take (j + 1)).all okSpan = okSpan ps[j]):=by
       show _ = _; rw [all_take okSpan hp,HT.out]; rfl
      have HN : Hid (okSpan ps[j] = false->ps.all okSpan = false):=by
       intro hh;rw [Bool.eq_false_iff];intro ha;rw [List.all_eq_true] at ha
       have:=ha _ (List.getElem_mem hlt)
       rw [hh] at this; cases this
      generalize ps[j] = p at hp HQ HN;obtain ⟨ga,rfl,a1,a2⟩:=HA.out j p hp;have HFw:=(mkH (Fr (fun _=>False) w wr) <|HF0.out.trans HF.out);have a1:=HFw.out.keepCell a1;have a2:=HFw.out.keepCell a2;obtain ⟨p1,p2⟩:=p;simp only at a1 a2;clear hp;obtain ⟨b1,hb1⟩ : ∃ b,isIn p1 0 (2 ^ 40) = b:=⟨_,rfl⟩;obtain ⟨b2,hb2⟩ : ∃ b,isIn p2 0 (2 ^ 40) = b:=⟨_,rfl⟩;have hk1:=(mkH (isIn p1 0 (2 ^ 40) = b1) <|hb1);have hk2:=(mkH (isIn p2 0 (2 ^ 40) = b2) <|hb2);clear hb1 hb2;go_wp2_with fail;refine (lisKey_calls p1 _).mono ?_;rw [hk1.out];rintro e w' ⟨rfl,rfl⟩;go_wp2_with fail;refine (lisKey_calls p2 _).mono ?_;rw [hk2.out];rintro e w' ⟨rfl,rfl⟩;cases b1
      ·have HB:=(mkH (ps.all okSpan = false) <|HN.out (by unfold okSpan; simp only []; rw [hk1.out]; rfl));go_wp2_with fail
       go_quiet (fail)
       go_wp2;go_ret;exact ⟨ret_bool (by rw [HE1.out,HB.out]),HFw.out.drewN _⟩
      ·cases b2
       ·have HB:=(mkH (ps.all okSpan = false) <|HN.out (by unfold okSpan; simp only []; rw [hk1.out,hk2.out]; rfl));go_wp2_with fail
        go_quiet (fail)
        go_wp2;go_ret;exact ⟨ret_bool (by rw [HE1.out,HB.out]),HFw.out.drewN _⟩
       ·by_cases hpp : p1<=p2
        ·have HB:=(mkH ((ps.take (j + 1)).all okSpan = true) <|by show _ = _; rw [HQ.out]; unfold okSpan; simp only []; rw [hk1.out,hk2.out,decide_eq_true hpp]; rfl);go_wp2_with fail
         go_quiet (fail)
         go_wp2
         go_roundw
         case rel=>exact ⟨j + 1,by omega,by go_num,HF.out.drewN _,HB⟩
         case measure=>simp [intOf]; omega
        ·have HB:=(mkH (ps.all okSpan = false) <|HN.out (by unfold okSpan; simp only []; rw [hk1.out,hk2.out,decide_eq_false hpp]; rfl));go_wp2_with fail
         go_quiet (fail)
         go_wp2;go_ret;exact ⟨ret_bool (by rw [HE1.out,HB.out]),HFw.out.drewN _⟩
     ·have HB : Hid (ps.all okSpan = true):=by
       have:=HT.out
       rw [show j = ps.length by omega,List.take_length] at this;exact this
      go_wp2;go_ret;exact ⟨ret_bool (by rw [HE1.out,HB.out]),HF0.out.trans HF.out⟩
   ·have HE0 : Hid (properB 4 key ps = false):=by show _ = _; rw [HE.out,isIn_false (by omega)]; rfl
    clear h0
    go_enter Tryz.func32,Tryz.ntmps32
    go_wp2;go_ret;exact ⟨ret_bool HE0.out.symm,HF0.out⟩
 ·have h4' : (kind != 4) = true:=by simp [h4]
  have HE : Hid (properB kind key ps = (isIn key 0 (2 ^ 40) && (decide (kind = 1\/kind = 2\/kind = 3)))):=by
   show _ = _;unfold properB checkOp;by_cases h1 : kind = 1\/kind = 2\/kind = 3
   ·rw [if_pos h1];cases h : isIn key 0 (2 ^ 40) <;> simp [h1]
   ·rw [if_neg h1,if_neg h4];simp [h1]
  have Hk:=(mkH (kind≠4) <|h4);clear h4
  go_enter Tryz.func32,Tryz.ntmps32
  go_wp2_with fail;refine (lisKey_calls key _).mono ?_;obtain ⟨b,hb⟩ : ∃ b,isIn key 0 (2 ^ 40) = b:=⟨_,rfl⟩;have Hb:=(mkH (isIn key 0 (2 ^ 40) = b) <|hb);rw [hb];rw [hb] at HE;clear hb;rintro e w' ⟨rfl,rfl⟩;have hxc:=HX.out.cell;cases b
  ·go_wp2;go_ret;exact ⟨ret_bool (by rw [HE.out]; rfl),HF0.out⟩
  ·by_cases e1 : kind = 1
   ·subst e1;go_wp2;go_ret;exact ⟨ret_bool (by rw [HE.out]; rfl),HF0.out⟩
   ·have e1' : (kind == 1) = false:=by simp [e1]
    by_cases e2 : kind = 2
    ·subst e2;go_wp2;go_ret;exact ⟨ret_bool (by rw [HE.out]; rfl),HF0.out⟩
    ·have e2' : (kind == 2) = false:=by simp [e2]
     by_cases e3 : kind = 3
     ·subst e3;go_wp2;go_ret;exact ⟨ret_bool (by rw [HE.out]; rfl),HF0.out⟩
     ·have e3' : (kind == 3) = false:=by simp [e3]
      go_wp2;go_ret;exact ⟨ret_bool (by rw [HE.out]; simp [e1,e2,e3]),HF0.out⟩
end
section
open Go.RowKit
section
variable {own own' : Own} {z : Nat} {w w' : World} {pb : Nat} {D : PlD} {S : Nat->Prop} {i : Nat} {t : PThread}
theorem PlAt.turn (_h : PlAt own z w pb D) {b : Nat} {tag : Tag} (hb : own b = ⟨z + 1,tag⟩) (hf : Fr (fun k=>k = b) w w') (h5 : tag≠.oth 5:=by simp) : (∀ tg k,tg≠tag->own k = ⟨z + 1,tg⟩->¬ k = b)/\(∀ k,(own k).z = z->¬ k = b)/\FrP own z w w':=by
 refine ⟨?_,?_,Fr.mono hf (by rintro k _ rfl; rw [hb]; exact .inr ⟨rfl,by simpa using h5⟩)⟩
 ·rintro tg k hne hk rfl; rw [hb] at hk; simp at hk; exact hne hk.symm
 ·rintro k hk rfl; rw [hb] at hk; simp at hk
theorem tab_put {l : List OpV} {i : Nat} (hi : i < l.length) (o : OpV) : ((((l.flatMap OpV.cells).set (i * 4) (.int .i64 o.kind)).set (i * 4 + 1) (.int .i64 o.key)).set (i * 4 + 2) (.int .i64 o.value)).set (i * 4 + 3) o.sv = (l.set i o).flatMap OpV.cells:=by
 have g0 : l[i]? = some l[i]:=List.getElem?_eq_getElem hi;have h0:=tab_set OpV.cells 4 opv_len l i 0 l[i] { l[i] with kind:=o.kind } (.int .i64 o.kind) g0 (by omega) rfl;rw [Nat.add_zero] at h0;have g1 : (l.set i { l[i] with kind:=o.kind })[i]? = some { l[i] with kind:=o.kind }:=by simp [hi]
 have h1:=tab_set OpV.cells 4 opv_len _ i 1 _ { l[i] with kind:=o.kind,key:=o.key } (.int .i64 o.key) g1 (by omega) rfl;have g2 : ((l.set i { l[i] with kind:=o.kind }).set i { l[i] with kind:=o.kind,key:=o.key })[i]? = some { l[i] with kind:=o.kind,key:=o.key }:=by simp [hi]
 have h2:=tab_set OpV.cells 4 opv_len _ i 2 _ { l[i] with kind:=o.kind,key:=o.key,value:=o.value } (.int .i64 o.value) g2 (by omega) rfl;have g3 : (((l.set i { l[i] with kind:=o.kind }).set i { l[i] with kind:=o.kind,key:=o.key }).set i { l[i] with kind:=o.kind,key:=o.key,value:=o.value })[i]? = some { l[i] with kind:=o.kind,key:=o.key,value:=o.value }:=by simp [hi]
 have h3:=tab_set OpV.cells 4 opv_len _ i 3 _ o o.sv g3 (by omega) rfl;rw [h0,h1,h2,h3];simp [List.set_set]
theorem PlAt.setOp (h : PlAt own z w pb D) {g c : Nat} (hv : D.ov = .slice (some ⟨g,0,none⟩) D.P.ts.length c) (hi : i < D.P.ts.length) {o : OpV} (ho : OpOk own (z + 1) w o) :
  PlAt own z ((((w.setCell ⟨g,i * 4,none⟩ (.int .i64 o.kind)).setCell ⟨g,i * 4 + 1,none⟩ (.int .i64 o.key)).setCell ⟨g,i * 4 + 2,none⟩ (.int .i64 o.value)).setCell ⟨g,i * 4 + 3,none⟩ o.sv) pb { D with ops:=D.ops.set i o } /\
  FrP own z w ((((w.setCell ⟨g,i * 4,none⟩ (.int .i64 o.kind)).setCell ⟨g,i * 4 + 1,none⟩ (.int .i64 o.key)).setCell ⟨g,i * 4 + 2,none⟩ (.int .i64 o.value)).setCell ⟨g,i * 4 + 3,none⟩ o.sv):=by
 have hg:=h.ops.tg g (by rw [hv]; rfl);have hf:=(((((Fr.refl (fun k=>k = g) w).set1 (i * 4) (.int .i64 o.kind)).set1 (i * 4 + 1) (.int .i64 o.key)).set1 (i * 4 + 2) (.int .i64 o.value)).set1 (i * 4 + 3) o.sv);have he:=Ext.refl own w;obtain ⟨hT,hZ,hP⟩:=h.turn hg hf;refine ⟨⟨(at_fr h.at_ h.tg hf he (hT _ · (by simp))).1,h.tg,h.st.fr hf he hZ,h.fit,h.thr,h.busy.fr hf he (hT _ · (by simp)),h.bl,⟨?_,h.ops.tg⟩,by simpa using h.ol,h.frm.fr hf he (hT _ · (by simp)),h.fl,h.deeds.fr hf he (hT _ · (by simp)),?_,fun d hd=>(h.dok d hd).fr hf he (hT _ · (by simp)) (hT _ · (by simp))⟩,hP⟩
 ·have hr:=h.ops.row;rw [hv] at hr
  have:=ownsRow_set (ownsRow_set (ownsRow_set (ownsRow_set hr (i * 4) (.int .i64 o.kind)) (i * 4 + 1) (.int .i64 o.key)) (i * 4 + 2) (.int .i64 o.value)) (i * 4 + 3) o.sv
  rw [tab_put (by rw [h.ol]; exact hi)] at this;simp only [hv];exact this
 ·intro q hq;rcases List.mem_or_eq_of_mem_set hq with h1 | h1
  ·exact (h.opk q h1).fr hf he (hT _ · (by simp))
  ·subst h1; exact ho.fr hf he (hT _ · (by simp))
theorem PlAt.setFrm (h : PlAt own z w pb D) {g c : Nat} (hv : D.fv = .slice (some ⟨g,0,none⟩) D.P.ts.length c) (f : Int) :
  PlAt own z (w.setCell ⟨g,i,none⟩ (.int .i64 f)) pb { D with frm:=D.frm.set i f }/\FrP own z w (w.setCell ⟨g,i,none⟩ (.int .i64 f)):=by
 have hg:=h.frm.tg g (by rw [hv]; rfl);have hf:=(Fr.refl (fun k=>k = g) w).set1 i (.int .i64 f);have he:=Ext.refl own w;obtain ⟨hT,hZ,hP⟩:=h.turn hg hf;refine ⟨⟨(at_fr h.at_ h.tg hf he (hT _ · (by simp))).1,h.tg,h.st.fr hf he hZ,h.fit,h.thr,h.busy.fr hf he (hT _ · (by simp)),h.bl,h.ops.fr hf he (hT _ · (by simp)),h.ol,⟨?_,h.frm.tg⟩,by simpa using h.fl,h.deeds.fr hf he (hT _ · (by simp)),fun o ho=>(h.opk o ho).fr hf he (hT _ · (by simp)),fun d hd=>(h.dok d hd).fr hf he (hT _ · (by simp)) (hT _ · (by simp))⟩,hP⟩;have hr:=h.frm.row;rw [hv] at hr
 have:=ownsRow_set hr i (.int .i64 f)
 simp only [hv];rw [show intCells (D.frm.set i f) = (intCells D.frm).set i (.int .i64 f) by simp [intCells,List.map_set]];exact this
theorem PlAt.setCells (h : PlAt own z w pb D) {D' : PlD} (hf : Fr (fun k=>k = pb) w w') (hA : At w' pb D'.cells 42) (e1 : D' = { D with puts:=D'.puts,takes:=D'.takes }) : PlAt own z w' pb D'/\FrP own z w w':=by
 have he:=Ext.refl own w;obtain ⟨hT,hZ,hP⟩:=h.turn h.tg hf;rw [e1] at hA ⊢;exact ⟨⟨hA,h.tg,h.st.fr hf he hZ,h.fit,h.thr,h.busy.fr hf he (hT _ · (by simp)),h.bl,h.ops.fr hf he (hT _ · (by simp)),h.ol,h.frm.fr hf he (hT _ · (by simp)),h.fl,h.deeds.fr hf he (hT _ · (by simp)),fun o ho=>(h.opk o ho).fr hf he (hT _ · (by simp)),fun d hd=>(h.dok d hd).fr hf he (hT _ · (by simp)) (hT _ · (by simp))⟩,hP⟩
structure Begun (D : PlD) (i : Nat) (t : PThread) (o : OpV) (D' : PlD) : Prop where
 N : D'.N = D.N
 cfg : D'.k = D.k/\D'.t = D.t/\D'.n = D.n/\D'.e = D.e/\D'.l = D.l
 deeds : D'.deeds = D.deeds
 no : (t.busy = true\/properB o.kind o.key o.spans = false)->D'.P = D.P/\D'.bs = D.bs/\D'.ops = D.ops/\D'.frm = D.frm/\D'.puts = D.puts/\D'.takes = D.takes
 yes : t.busy = false->properB o.kind o.key o.spans = true->D'.P = D.P.setT i { t with busy:=true,work:=newWork o.kind o.key o.value o.spans }/\D'.bs = D.bs.set i true/\D'.ops = D.ops.set i o/\D'.frm = D.frm.set i D.deeds.length/\D'.puts = D.puts + (if o.kind = 1 then 1 else 0)/\D'.takes = D.takes + (if o.kind = 2 then 1 else 0)
theorem begin_len (P : PSt) (i kind key value : Int) (spans : List (Int × Int)) : (P.begin i kind key value spans).1.ts.length = P.ts.length:=by
 unfold PSt.begin;split
 ·split
  ·rfl
  ·split
   ·simp [PSt.setT]
   ·rfl
 ·rfl
theorem begin_at {P : PSt} {i : Nat} {t : PThread} (ht : P.ts[i]? = some t) (kind key value : Int) (spans : List (Int × Int)) : P.begin i kind key value spans = if t.busy then (P,3) else if properB kind key spans then (P.setT i { t with busy:=true,work:=newWork kind key value spans },0) else (P,checkOp kind key spans):=by
 have hi:=(List.getElem?_eq_some_iff.1 ht).1;have hth : P.th i = t:=by simp [PSt.th,ht]
 unfold PSt.begin;rw [isIn_true (by omega)];simp only [if_true,Int.toNat_natCast,hth];cases t.busy
 ·simp only [Bool.false_eq_true,if_false];unfold properB;by_cases h : checkOp kind key spans = 0
  ·rw [if_pos h,if_pos (decide_eq_true h)]
  ·rw [if_neg h,if_neg (by simp [h])]
 ·simp
theorem checkOp_err {kind key : Int} {spans : List (Int × Int)} (h : properB kind key spans = false) : checkOp kind key spans = 5\/checkOp kind key spans = 6:=by
 unfold properB at h;rw [decide_eq_false_iff_not] at h;unfold checkOp at h ⊢;split at h
 ·split at h
  ·exact absurd rfl h
  ·rename_i h1 h2; rw [if_pos h1,if_neg h2]; exact .inl rfl
 ·split at h
  ·split at h
   ·exact absurd rfl h
   ·rename_i h1 h2 h3; rw [if_neg h1,if_pos h2,if_neg h3]; exact .inr rfl
  ·rename_i h1 h2; rw [if_neg h1,if_neg h2]; exact .inl rfl
end
end
section
open Go.RowKit
section
variable {own own' : Own} {z : Nat} {w w' : World} {pb : Nat} {D : PlD} {S : Nat->Prop} {i : Nat} {t : PThread}
theorem Pbegins_calls (h : PlAt own z w pb D) (hok : D.ok) (ht : D.P.ts[i]? = some t) (kd ky va : Int) (sp : List (Int × Int)) (sa : Option Addr) (sc : Nat) (ho : OpOk own (z + 1) w ⟨kd,ky,va,sp,.slice sa sp.length sc⟩) (hsl : sp.length<=2 ^ 40) (hc : D.puts<=2 ^ 40/\0<=D.puts/\D.takes<=2 ^ 40/\0<=D.takes) :
  Calls Tryz.prog 29 #[pv pb,.int .i64 i,opVal kd ky va (.slice sa sp.length sc)] w fun r w'=>r = .returned (.bool true)/\PlGoes own z w pb w' (Begun D i t ⟨kd,ky,va,sp,.slice sa sp.length sc⟩):=by
 obtain ⟨c1,c2,c3,c4⟩:=hc;have hi:=(List.getElem?_eq_some_iff.1 ht).1;have hfew:=h.fit.thr;have hE0 : Ext own (own.put w.heap.size (z + 7) .store) w:=Ext.put (Nat.le_refl _) _ _;have hf0 : Fr (fun _=>False) w (w.alloc (.cells #[.int .i64 kd,.int .i64 ky,.int .i64 va,.slice sa sp.length sc] 53)):=(Fr.refl _ _).alloc _;have H:=(mkH (PlAt (own.put w.heap.size (z + 7) .store) z _ pb D) <|h.fr hf0 hE0 (fun _ _ h=>h));have HO:=(mkH (OpOk (own.put w.heap.size (z + 7) .store) (z + 1) _ ⟨kd,ky,va,sp,.slice sa sp.length sc⟩) <|ho.fr hf0 hE0 (fun _ _ h=>h));have HX:=(mkH (At _ w.heap.size [.int .i64 kd,.int .i64 ky,.int .i64 va,.slice sa sp.length sc] 53) <|At.new w _ _);have HE0:=(mkH (Ext own _ w/\FrP own z w _/\(own.put w.heap.size (z + 7) .store) w.heap.size = ⟨z + 7,.store⟩) <|⟨hE0,Fr.mono hf0 (fun _ _ h=>h.elim),Own.put_same _ _ _ _⟩);have hbeg:=begin_at ht kd ky va sp;have HT:=(mkH (D.P.ts[i]? = some t) <|ht);have hbs : D.bs[i]? = some t.busy:=by rw [hok]; simp [ht]
 have HBS:=(mkH (D.bs[i]? = some t.busy) <|hbs);have HBG:=(show Hid _ from hbeg);clear h ho hE0 hf0 ht hok hbeg hbs;unfold opVal;unfold pv
 go_enter Tryz.func29,Tryz.ntmps29
 go_wp2_with fail;generalize w.alloc _ = w0 at H HO HX HE0 ⊢;generalize own.put w.heap.size (z + 7) .store = own0 at H HO HE0;obtain ⟨R,hR⟩ : ∃ R,R = D.P.begin i kd ky va sp:=⟨_,rfl⟩;rw [<- hR] at HBG;have HC:=(mkH (∀ w',Fr (fun _=>False) w0 w'->Calls Tryz.prog 48 #[.pointer (some ⟨D.L.s,0,none⟩),.int .i64 i,opVal kd ky va (.slice sa sp.length sc)] w' fun e w''=>e = .returned (.int .i64 R.2)/\ZGoes own0 z w0 D.L R.1 w'') <|fun w' hf=>by
  have hP:=H.out.calm hf;have hO:=HO.out.fr hf (Ext.refl _ _) (fun _ _ h=>h);rw [hR];refine (ZBegin_calls hP.st i kd ky va sa sp.length sc sp (fun _=>⟨rfl,PairsAt.ofRow hO,fun g hg=>?_⟩)).mono (fun e w'' hh=>⟨hh.1,ZGoes.calm hf hh.2⟩)
  have:=hO.tg g (by rw [hg]; rfl)
  rw [this]; simp)
 have HFit:=(mkH (Fit D.N R.1/\R.1.ts.length = D.P.ts.length) <|by rw [hR]; exact ⟨H.out.fit.begin _ _ _ _ _,begin_len _ _ _ _ _ _⟩);have HK:=(mkH (∀ u,(Fr (fun _=>False) w0 u\/ZGoes own0 z w0 D.L R.1 u)->At u pb D.cells 42/\At u w.heap.size [.int .i64 kd,.int .i64 ky,.int .i64 va,.slice sa sp.length sc] 53) <|fun u hu=>by
  rcases hu with hu | ⟨_,_,_,_,hu,_⟩
  ·exact ⟨hu.at H.out.at_ (fun h=>h),hu.at HX.out (fun h=>h)⟩
  ·exact ⟨hu.at H.out.at_ (by rw [H.out.tg]; simp),hu.at HX.out (by rw [HE0.out.2.2]; simp)⟩)
 clear hR;refine wp_region_end 6 (fun u=>ZGoes own0 z w0 D.L R.1 u) (by kernel_rfl) (by kernel_rfl) (by kernel_rfl) (by kernel_rfl) (by decide) ?_;intro U W hU hW;have hpu : ∀ u q,(W u).cell? ⟨pb,q,none⟩ = D.cells[q]?:=fun u=>(HK.out _ (hW u)).1.cell
 have hxu : ∀ u q,(W u).cell? ⟨w.heap.size,q,none⟩ = [Value.int .i64 kd,.int .i64 ky,.int .i64 va,.slice sa sp.length sc][q]?:=fun u=>(HK.out _ (hW u)).2.cell
 simp only [PlD.cells,pv] at hpu;clear hW
 repeat (refine mix_read rfl rfl ?_; go_big_quiet_step (fail); refine wpQuiet_nil ?_)
 refine mix_effC (.int .i64 R.2) rfl rfl rfl ?_ ?_
 ·intro w1 hw1;have hw0:=hw1.1 rfl;go_simp;refine Calls.mono (HC.out w1 hw0) ?_;rintro e w2 ⟨rfl,h1⟩;exact ⟨rfl,h1⟩
 go_simp
 repeat (refine mix_read rfl rfl ?_; go_big_quiet_step (fail); refine wpQuiet_nil ?_)
 refine mix_nil ?_;intro w1 hG;have hB1:=(HK.out w1 (.inr hG)).2;have HB1:=(mkH (At w1 w.heap.size _ 53) <|hB1);obtain ⟨own1,L1,hP1,hE1,hF1,e1⟩:=H.out.store hG HFit.out.1 HFit.out.2;have HO1:=(mkH (OpOk own1 (z + 1) w1 ⟨kd,ky,va,sp,.slice sa sp.length sc⟩) <|by
  obtain ⟨_,_,_,_,hf,_⟩:=hG;exact HO.out.fr hf hE1 (fun k hk h=>by rw [hk] at h; simp at h))
 have HOB:=(mkH (own1 w.heap.size = ⟨z + 7,.store⟩) <|by show _ = _; rw [hE1 _ HX.out.lt]; exact HE0.out.2.2);have HP1:=(mkH (PlAt own1 z w1 pb _) <|hP1);have HEw:=(mkH (Ext own own1 w/\FrP own z w w1) <|⟨Ext.trans HE0.out.1 hE1 HE0.out.2.1.size,FrP.trans HE0.out.2.1 HE0.out.1 hF1⟩);obtain ⟨g,c,hv,hc,hz,hg,hgl⟩:=hP1.busyRow HBS.out;have hv' : D.bv = .slice (some ⟨g,0,none⟩) D.P.ts.length c:=by rw [<- HFit.out.2]; exact hv
 have HV:=(mkH (D.bv = _) <|hv');have ha:=hP1.at_.cell;have hzp:=hP1.at_.frozen;have hpl:=hP1.at_.lt;simp only [PlD.cells,hv',pv] at ha;have hx1:=hB1.cell;clear hG hP1 hE1 hF1 hv hpu hxu HC HK hB1 H HO;cases htb : t.busy
 ·rw [htb] at hc;go_wp2_with fail;refine (proper_calls kd ky va sa sc sp w1 (PairsAt.ofRow HO1.out) hsl).mono ?_;obtain ⟨pr,hpr⟩ : ∃ pr,properB kd ky sp = pr:=⟨_,rfl⟩;have HPr:=(mkH (properB kd ky sp = pr) <|hpr);rw [hpr];clear hpr;rintro e w2 ⟨rfl,hf2⟩;have HP2:=(mkH (PlAt own1 z w2 pb _) <|HP1.out.calm hf2);have HO2:=(mkH (OpOk own1 (z + 1) w2 _) <|HO1.out.fr hf2 (Ext.refl _ _) (fun _ _ h=>h));have HB2:=(mkH (At w2 w.heap.size [.int .i64 kd,.int .i64 ky,.int .i64 va,.slice sa sp.length sc] 53) <|hf2.at HB1.out (fun h=>h));have HEw2:=(mkH (Ext own own1 w/\FrP own z w w2) <|⟨HEw.out.1,Fr.trans HEw.out.2 (Fr.mono hf2 (fun _ _ h=>h.elim))⟩);have hc2:=hf2.keepCell hc;clear hf2 hc hz ha hzp hpl hx1 hgl HP1 HO1 HB1 HEw;cases pr
  ·have hR : Hid (R = (D.P,checkOp kd ky sp)):=by show _ = _; rw [HBG.out,htb,HPr.out]; rfl
   have hR2 : R.2 = checkOp kd ky sp:=by rw [hR.out]
   rw [hR2];clear hR2;have Hend:=(mkH (PlGoes own z w pb w2 (Begun D i t ⟨kd,ky,va,sp,.slice sa sp.length sc⟩)) <|⟨own1,_,HP2.out,HEw2.out.1,HEw2.out.2,⟨rfl,⟨rfl,rfl,rfl,rfl,rfl⟩,rfl,fun _=>⟨by rw [hR.out],rfl,rfl,rfl,rfl,rfl⟩,fun _ hh=>by rw [HPr.out] at hh; cases hh⟩⟩);rcases checkOp_err HPr.out with h5 | h6
   ·rw [h5];go_wp2;go_ret;exact ⟨rfl,Hend.out⟩
   ·rw [h6];go_wp2;go_ret;exact ⟨rfl,Hend.out⟩
  ·have hR : Hid (R = (D.P.setT i { t with busy:=true,work:=newWork kd ky va sp },0)):=by show _ = _; rw [HBG.out,htb,HPr.out]; rfl
   have hR2 : R.2 = 0:=by rw [hR.out]
   rw [hR2];clear hR2;have ha:=HP2.out.at_.cell;simp only [PlD.cells,HV.out,pv] at ha;obtain ⟨g0,c0,hv0,hcc,hzz,hgg,hgl⟩:=HP2.out.busyRow HBS.out;have hg0 : g0 = g/\c0 = c:=by
    have h1 : D.bv = .slice (some ⟨g0,0,none⟩) R.1.ts.length c0:=hv0;rw [HV.out] at h1;simp at h1;exact ⟨h1.1.symm,h1.2.2.symm⟩
   obtain ⟨rfl,rfl⟩:=hg0;have hne1 : pb≠g0:=by rintro rfl; rw [HP2.out.tg] at hgg; simp at hgg
   have hne2 : g0≠pb:=fun e=>hne1 e.symm
   have hne3 : w.heap.size≠g0:=fun e=>by
    have h1:=HB2.out;have h2:=HP2.out.busy.row;exact h1.ne_row h2 (by decide) (by rw [hv0]; rw [e]; rfl)
   have hne4 : g0≠w.heap.size:=fun e=>hne3 e.symm
   obtain ⟨hP3,hF3⟩:=HP2.out.setBusy (i:=i) hv0 true;have HP3:=(mkH (PlAt own1 z _ pb _) <|hP3);have HF3:=(mkH (FrP own1 z w2 _) <|hF3);have HB3:=(mkH (At (w2.setCell ⟨g0,i,none⟩ (.bool true)) w.heap.size [.int .i64 kd,.int .i64 ky,.int .i64 va,.slice sa sp.length sc] 53) <|HB2.out.setOther _ hne3 _);have HO3:=(mkH (OpOk own1 (z + 1) (w2.setCell ⟨g0,i,none⟩ (.bool true)) _) <|HO2.out.fr ((Fr.refl (fun k=>k = g0) w2).set1 i (.bool true)) (Ext.refl _ _) (fun k hk e=>by rw [e,hgg] at hk; simp at hk));clear hP3 hF3;go_wp2_with fail;generalize w2.setCell ⟨g0,i,none⟩ (.bool true) = w3 at HP3 HF3 HB3 HO3 ⊢;have hi2 : i < R.1.ts.length:=by rw [HFit.out.2]; exact hi
   have ho4 : i < D.ops.length:=by have:=HP3.out.ol; simp only at this; omega
   obtain ⟨oo,hoo⟩ : ∃ o,D.ops[i]? = some o:=⟨_,List.getElem?_eq_getElem ho4⟩;obtain ⟨go,co,oa,oc,hov,hosv,o0,o1,o2,o3,hoz,hot⟩:=HP3.out.opRow (i:=i) (o:=oo) hoo;have hov' : D.ov = .slice (some ⟨go,0,none⟩) D.P.ts.length co:=by rw [<- HFit.out.2]; exact hov
   have ha:=HP3.out.at_.cell;simp only [PlD.cells,HV.out,hov',pv] at ha;have hxb:=HB3.out.cell;clear hcc hzz hgl hc2;go_region;obtain ⟨hP4,hF4⟩:=HP3.out.setOp (i:=i) hov hi2 HO3.out;simp only at hP4 hF4;have hgox : w.heap.size≠go:=fun e=>by have h1:=HOB.out; rw [e,hot] at h1; simp at h1
   have hB4:=(((HB3.out.setOther ⟨go,i * 4,none⟩ hgox (.int .i64 kd)).setOther ⟨go,i * 4 + 1,none⟩ hgox (.int .i64 ky)).setOther ⟨go,i * 4 + 2,none⟩ hgox (.int .i64 va)).setOther ⟨go,i * 4 + 3,none⟩ hgox (.slice sa sp.length sc);generalize hw4 : World.setCell (World.setCell (World.setCell (World.setCell w3 _ _) _ _) _ _) _ _ = w4;rw [hw4] at hP4 hF4 hB4;have HP4:=(mkH (PlAt own1 z w4.drew pb _) <|hP4.calm ((Fr.refl _ _).drew));have HF4:=(mkH (FrP own1 z w2 w4.drew) <|Fr.trans HF3.out (Fr.trans hF4 ((Fr.refl _ _).drew)));have HB4:=(mkH (At w4.drew w.heap.size [.int .i64 kd,.int .i64 ky,.int .i64 va,.slice sa sp.length sc] 53) <|hB4.drew);clear hP4 hF4 hB4 hw4 HP3 HB3 HO3 HF3 ha hxb o0 o1 o2 o3 hoz hot hov hov' hosv hgox;generalize w4.drew = w5 at HP4 HF4 HB4 ⊢;have hf4 : i < D.frm.length:=by have:=HP4.out.fl; simp only at this; omega
   obtain ⟨ff,hff⟩ : ∃ f,D.frm[i]? = some f:=⟨_,List.getElem?_eq_getElem hf4⟩;obtain ⟨gf,cf,hfv,f0,hfz,hft⟩:=HP4.out.frmRow (i:=i) (f:=ff) hff;have hfv' : D.fv = .slice (some ⟨gf,0,none⟩) D.P.ts.length cf:=by rw [<- HFit.out.2]; exact hfv
   obtain ⟨da,dc,hdv⟩:=ownsShape HP4.out.deeds.row;have hdv' : D.dv = .slice da D.deeds.length dc:=hdv;have HDV:=(mkH (D.dv = _) <|hdv');have ha:=HP4.out.at_.cell;simp only [PlD.cells,HV.out,hfv',hdv',pv] at ha;obtain ⟨hP5,hF5⟩:=HP4.out.setFrm (i:=i) hfv D.deeds.length;have hgfx : w.heap.size≠gf:=fun e=>HB4.out.ne_row (HP4.out.frm.row) (by decide) (by rw [hfv,e]; rfl)
   have HP5:=(mkH (PlAt own1 z _ pb _) <|hP5);have HF5:=(mkH (FrP own1 z w2 _) <|Fr.trans HF4.out hF5);have HB5:=(mkH (At _ w.heap.size [.int .i64 kd,.int .i64 ky,.int .i64 va,.slice sa sp.length sc] 53) <|HB4.out.setOther ⟨gf,i,none⟩ hgfx (.int .i64 D.deeds.length));clear hP5 hF5 hgfx hdv hdv' HP4 HF4 HB4;go_wp2_with fail;go_region;generalize hw6 : World.setCell w5 _ _ = w6 at HP5 HF5 HB5;have HP6:=(mkH (PlAt own1 z w6.drew pb _) <|HP5.out.calm ((Fr.refl _ _).drew));have HF6:=(mkH (FrP own1 z w2 w6.drew) <|Fr.trans HF5.out ((Fr.refl _ _).drew));have HB6:=(mkH (At w6.drew w.heap.size [.int .i64 kd,.int .i64 ky,.int .i64 va,.slice sa sp.length sc] 53) <|HB5.out.drew)
   try rw [hw6]
   clear hw6 HP5 HF5 HB5 ha f0 hfz hft hfv hfv';generalize w6.drew = w7 at HP6 HF6 HB6 ⊢;have ha:=HP6.out.at_.cell;have hzp:=HP6.out.at_.frozen;simp only [PlD.cells,HV.out,HDV.out,pv] at ha;have hxb:=HB6.out.cell;have Hend:=(mkH (∀ w8 D',PlAt own1 z w8 pb D'->FrP own1 z w7 w8->(D'.puts = D.puts + (if kd = 1 then 1 else 0)/\D'.takes = D.takes + (if kd = 2 then 1 else 0))->D' = { D with L:=L1,P:=R.1,bs:=D.bs.set i true,ops:=D.ops.set i ⟨kd,ky,va,sp,.slice sa sp.length sc⟩,frm:=D.frm.set i D.deeds.length,puts:=D'.puts,takes:=D'.takes }->PlGoes own z w pb w8 (Begun D i t ⟨kd,ky,va,sp,.slice sa sp.length sc⟩)) <|fun w8 D' h1 h2 h3 h4=>by
    refine ⟨own1,D',h1,HEw2.out.1,FrP.trans HEw2.out.2 HEw2.out.1 (Fr.trans HF6.out h2),?_⟩;rw [h4];refine ⟨rfl,⟨rfl,rfl,rfl,rfl,rfl⟩,rfl,fun hh=>?_,fun _ _=>⟨by rw [hR.out],rfl,rfl,rfl,h3.1,h3.2⟩⟩;rcases hh with hh | hh
    ·rw [htb] at hh; cases hh
    ·rw [HPr.out] at hh; cases hh)
   by_cases k1 : kd = 1
   ·subst k1;have hA8:=HP6.out.at_.set 10 (.int .i64 (D.puts + 1));have HR8:=(show Hid _ from HP6.out.setCells (D':={ D with L:=L1,P:=R.1,bs:=D.bs.set i true,ops:=D.ops.set i ⟨1,ky,va,sp,.slice sa sp.length sc⟩,frm:=D.frm.set i D.deeds.length,puts:=D.puts + 1 }) ((Fr.refl _ _).set1 10 (.int .i64 (D.puts + 1))) hA8 rfl);have hxb2:=(HB6.out.setOther ⟨pb,10,none⟩ (by show w.heap.size≠pb; exact HB6.out.ne HP6.out.at_ (by decide)) (.int .i64 (D.puts + 1))).cell;clear hA8;go_wp2;go_ret;exact ⟨rfl,Hend.out _ _ HR8.out.1 HR8.out.2 ⟨by simp,by simp⟩ rfl⟩
   ·have k1' : (kd == 1) = false:=by simp [k1]
    by_cases k2 : kd = 2
    ·subst k2;have hA8:=HP6.out.at_.set 11 (.int .i64 (D.takes + 1));have HR8:=(show Hid _ from HP6.out.setCells (D':={ D with L:=L1,P:=R.1,bs:=D.bs.set i true,ops:=D.ops.set i ⟨2,ky,va,sp,.slice sa sp.length sc⟩,frm:=D.frm.set i D.deeds.length,takes:=D.takes + 1 }) ((Fr.refl _ _).set1 11 (.int .i64 (D.takes + 1))) hA8 rfl);clear hA8;go_wp2;go_ret;exact ⟨rfl,Hend.out _ _ HR8.out.1 HR8.out.2 ⟨by simp,by simp⟩ rfl⟩
    ·have k2' : (kd == 2) = false:=by simp [k2]
     have Hk:=(mkH (¬ kd = 1/\¬ kd = 2) <|⟨k1,k2⟩);clear k1 k2;go_wp2;go_ret;exact ⟨rfl,Hend.out _ _ HP6.out (Fr.refl _ _) ⟨by rw [if_neg Hk.out.1]; simp,by rw [if_neg Hk.out.2]; simp⟩ rfl⟩
 ·rw [htb] at hc;have hR : Hid (R = (D.P,3)):=by show _ = _; rw [HBG.out,htb]; rfl
  have hR2 : R.2 = 3:=by rw [hR.out]
  rw [hR2];clear hR2;go_wp2;go_ret;refine ⟨rfl,own1,_,HP1.out,HEw.out.1,HEw.out.2,⟨rfl,⟨rfl,rfl,rfl,rfl,rfl⟩,rfl,fun _=>⟨by rw [hR.out],rfl,rfl,rfl,rfl,rfl⟩,fun hh=>?_⟩⟩;rw [htb] at hh; cases hh
end
end
section
open Go.RowKit Go.Deep
def spanCells (p : Int × Int) : List Value:=[.int .i64 p.1,.int .i64 p.2]
def Spans (w : World) (sa : Option Addr) (n : Nat) (ps : List (Int × Int)) : Prop :=
 ps.length = n/\(0 < n->∃ ad,sa = some ad/\∀ (j : Nat) v,(ps.flatMap spanCells)[j]? = some v->w.cell? (ad.add j) = some v)
structure ActD where
 kd : Int
 tt : Int
 o : Int
 ky : Int
 v : Int
 m : Int
 sa : Option Addr
 sn : Nat
 sc : Nat
 ps : List (Int × Int)
 deriving Inhabited
def actCells (a : ActD) : List Value:=[.int .i64 a.kd,.int .i64 a.tt,.int .i64 a.o,.int .i64 a.ky,.int .i64 a.v,.int .i64 a.m,.slice a.sa a.sn a.sc]
def ActIn (w : World) (sa : Option Addr) (i : Nat) (a : ActD) : Prop :=
 ∃ b off,sa = some ⟨b,off,none⟩/\(∀ j v,(actCells a)[j]? = some v->w.cell? ⟨b,off + (i * 7 + j),none⟩ = some v)/\Spans w a.sa a.sn a.ps/\(-9223372036854775808<=a.m/\a.m<=9223372036854775807)/\-9223372036854775808<=a.tt/\a.tt<=9223372036854775807
section
variable {H : Type} {enc : TypeId × Value->H} {P : Program} {w : World} {base : Nat} {spare : Nat->Bool} {held : Bool} {B : DataW H->Nat}
theorem flat2_get (f : Nat->Int × Int) (n i : Nat) (h : i < n) : (((List.range n).map f).flatMap spanCells)[i * 2]? = some (.int .i64 (f i).1)/\(((List.range n).map f).flatMap spanCells)[i * 2 + 1]? = some (.int .i64 (f i).2):=by
 have hg : ((List.range n).map f)[i]? = some (f i):=by simp [h]
 have h0:=tab_get spanCells 2 (fun _=>rfl) _ i 0 _ hg (by omega);have h1:=tab_get spanCells 2 (fun _=>rfl) _ i 1 _ hg (by omega);exact ⟨by simpa [spanCells] using h0,by simpa [spanCells] using h1⟩
theorem spans_open {t e ti : TypeId} {f0 f1 : Field} {fuel : Nat} {cs : List Value} {x : DataW H × List MemPlace} (ht : P.underlying t = some (.slice e)) (he : P.underlying e = some (.struct #[f0,f1]))
  (ce : P.cellsOf e = 2) (o0 : f0.offset = 0) (o1 : f1.offset = 1) (t0 : f0.type = ti) (t1 : f1.type = ti) (ci : P.cellsOf ti = 1) (hi : P.underlying ti = some (.int .i64))
  (hB : ∀ elems sp,elems.length<=B (.slice elems sp)) (h : DataW.trod enc P w base spare held fuel t cs = some x) :
  ∃ sa n c ps,cs = [.slice sa n c]/\n<=B x.1/\Spans w sa n ps:=by
 rcases open_slice_pairs ht he ce o0 o1 (by rw [t0]; exact ci) (by rw [t1]; exact ci) h with ⟨rfl,rfl⟩ | ⟨a,len,cap,m,n,V0,V1,D0,D1,P0,P1,rfl,_,hl,_,hm,rfl,hx⟩
 ·exact ⟨none,0,0,[],rfl,Nat.zero_le _,rfl,by omega⟩
 ·have hlm : len<=m:=by rw [hm]; split <;> omega
  have each : ∀ i,i < len->∃ p : Int × Int,V0 i = .int .i64 p.1/\V1 i = .int .i64 p.2:=by
   intro i hil;obtain ⟨_,_,h3,h4⟩:=hx i (by omega);rw [t0] at h3;rw [t1] at h4;obtain ⟨a0,e0,_,_⟩:=DataW.trod_int hi h3;obtain ⟨a1,e1,_,_⟩:=DataW.trod_int hi h4;exact ⟨(a0,a1),by simpa using e0,by simpa using e1⟩
  obtain ⟨f,hf⟩:=choose_lt each;refine ⟨some a,len,cap,(List.range len).map f,rfl,?_,by simp,?_⟩
  ·have:=hB ((List.range len).map fun i=>.agg [D0 i,D1 i]) ((List.range (m - len)).map fun j=>.agg [D0 (len + j),D1 (len + j)])
   simpa using this
  ·intro _;refine ⟨a,rfl,?_⟩;intro j v hj;have hjl : j < len * 2:=by
    have:=(List.getElem?_eq_some_iff.1 hj).1
    have h2 : (((List.range len).map f).flatMap spanCells).length = len * 2:=by
     rw [tab_len spanCells 2 (fun _=>rfl)]; simp
    omega
   obtain ⟨c0,c1,_,_⟩:=hx (j / 2) (by omega);obtain ⟨g0,g1⟩:=flat2_get f len (j / 2) (by omega);obtain ⟨v0,v1⟩:=hf (j / 2) (by omega);rcases (show j = j / 2 * 2\/j = j / 2 * 2 + 1 by omega) with hh | hh
   ·rw [hh,g0] at hj;rw [hh,c0,v0];exact congrArg some (Option.some.inj hj)
   ·rw [hh,g1] at hj;rw [hh,c1,v1];exact congrArg some (Option.some.inj hj)
theorem list7 {α : Type} {l : List α} (h : l.length = 7) : ∃ a b c d e f g,l = [a,b,c,d,e,f,g]:=by
 match l,h with
 | [a,b,c,d,e,f,g],_=>exact ⟨a,b,c,d,e,f,g,rfl⟩
theorem script_open {tS tA tL tP ti : TypeId} {f0 f1 f2 f3 f4 f5 f6 g0 g1 : Field} {fuel : Nat} {cs : List Value} {x : DataW H × List MemPlace} (hS : P.underlying tS = some (.slice tA)) (hA : P.underlying tA = some (.struct #[f0,f1,f2,f3,f4,f5,f6])) (cA : P.cellsOf tA = 7)
  (o0 : f0.offset = 0) (o1 : f1.offset = 1) (o2 : f2.offset = 2) (o3 : f3.offset = 3) (o4 : f4.offset = 4) (o5 : f5.offset = 5) (o6 : f6.offset = 6)
  (t0 : f0.type = ti) (t1 : f1.type = ti) (t2 : f2.type = ti) (t3 : f3.type = ti) (t4 : f4.type = ti) (t5 : f5.type = ti) (t6 : f6.type = tL) (ci : P.cellsOf ti = 1) (hi : P.underlying ti = some (.int .i64)) (cL : P.cellsOf tL = 1)
  (hL : P.underlying tL = some (.slice tP)) (hP : P.underlying tP = some (.struct #[g0,g1])) (cP : P.cellsOf tP = 2) (q0 : g0.offset = 0) (q1 : g1.offset = 1) (s0 : g0.type = ti) (s1 : g1.type = ti)
  (hB : ∀ elems sp,elems.length<=B (.slice elems sp)) (hE : ∀ elems sp d,d ∈ elems->B d<=B (.slice elems sp)) (hG : ∀ parts d,d ∈ parts->B d<=B (.agg parts))
  (h : DataW.trod enc P w base spare held fuel tS cs = some x) :
  ∃ sa n c,∃ acts : List ActD,cs = [.slice sa n c]/\n<=B x.1/\acts.length = n/\∀ i a,acts[i]? = some a->ActIn w sa i a/\a.sn<=B x.1:=by
 rcases open_slice hS h with ⟨rfl,rfl⟩ | ⟨a,len,cap,m,n,D,Pl,rfl,_,hl,_,hm,rfl,hx⟩
 ·exact ⟨none,0,0,[],rfl,Nat.zero_le _,rfl,by intro i a ha; simp at ha⟩
 ·have hlm : len<=m:=by rw [hm]; split <;> omega
  have hBl:=hB ((List.range len).map D) ((List.range (m - len)).map fun j=>D (len + j));have hEl : ∀ i,i < len->B (D i)<=B (.slice ((List.range len).map D) ((List.range (m - len)).map fun j=>D (len + j))):=fun i hi=>hE _ _ _ (by simp; exact ⟨i,hi,rfl⟩)
  simp only at hBl hEl ⊢;generalize B (.slice ((List.range len).map D) ((List.range (m - len)).map fun j=>D (len + j))) = bb at hBl hEl ⊢;have each : ∀ i,i < len->∃ y : ActD,ActIn w (some a) i y/\y.sn<=bb:=by
   intro i hil;obtain ⟨cs',h1,h2⟩:=hx i (by omega);rw [cA] at h1;obtain ⟨_,hlen,hcell⟩:=World.cells?_some h1;obtain ⟨xs,k,_,hxy,_,hxl,hf⟩:=DataW.trod_struct hA h2;obtain ⟨c0,c1,c2,c3,c4,c5,c6,rfl⟩:=list7 hlen;obtain ⟨y0,y1,y2,y3,y4,y5,y6,rfl⟩:=list7 (l:=xs) hxl;have k0:=hf 0 f0 rfl;have k1:=hf 1 f1 rfl;have k2:=hf 2 f2 rfl;have k3:=hf 3 f3 rfl;have k4:=hf 4 f4 rfl;have k5:=hf 5 f5 rfl;have k6:=hf 6 f6 rfl;simp only [o0,o1,o2,o3,o4,o5,o6,t0,t1,t2,t3,t4,t5,t6,ci,cL] at k0 k1 k2 k3 k4 k5 k6;simp at k0 k1 k2 k3 k4 k5 k6;obtain ⟨a0,e0,_,_⟩:=DataW.trod_int hi k0;obtain ⟨a1,e1,_,wf1⟩:=DataW.trod_int hi k1;have b1:=Go.bounds_i64 wf1;obtain ⟨a2,e2,_,_⟩:=DataW.trod_int hi k2;obtain ⟨a3,e3,_,_⟩:=DataW.trod_int hi k3;obtain ⟨a4,e4,_,_⟩:=DataW.trod_int hi k4;obtain ⟨a5,e5,_,wf5⟩:=DataW.trod_int hi k5;have b5:=Go.bounds_i64 wf5;obtain ⟨sa,sn,sc,ps,e6,hsn,hsp⟩:=spans_open hL hP cP q0 q1 s0 s1 ci hi hB k6;simp at e0 e1 e2 e3 e4 e5 e6;subst e0 e1 e2 e3 e4 e5 e6;have hd : B y6.1<=B (D i):=by
    have hD : D i = .agg [y0.1,y1.1,y2.1,y3.1,y4.1,y5.1,y6.1]:=by
     have:=congrArg Prod.fst hxy
     simpa using this
    rw [hD]; exact hG _ _ (by simp)
   refine ⟨⟨a0,a1,a2,a3,a4,a5,sa,sn,sc,ps⟩,?_,?_⟩
   ·obtain ⟨ab,ao,asp⟩:=a;have hz:=hcell 0 (by omega);have hspot : asp = none:=by
     by_cases h0 : i = 0
     ·subst h0; simpa [Addr.add] using World.cell?_spot hz
     ·obtain ⟨cs0,z1,_⟩:=hx 0 (by omega);rw [cA] at z1;obtain ⟨_,zl,zc⟩:=World.cells?_some z1
      have:=zc 0 (by omega)
      rw [List.getElem?_eq_getElem (by omega)] at this;simpa [Addr.add] using World.cell?_spot this
    subst hspot;refine ⟨ab,ao,rfl,?_,hsp,b5,b1⟩;intro j v hj;have hj7 : j < 7:=(List.getElem?_eq_some_iff.1 hj).1;have hc:=hcell j hj7;rw [add_add,Addr.add_lit] at hc;rw [hc];exact hj
   ·exact Nat.le_trans hsn (Nat.le_trans hd (hEl i hil))
  obtain ⟨f,hf⟩:=choose_lt each;refine ⟨some a,len,cap,(List.range len).map f,rfl,by simpa using hBl,by simp,?_⟩;intro i y hy;obtain ⟨hil,rfl⟩ : i < len/\f i = y:=by
   by_cases hil : i < len
   ·simp [hil] at hy; exact ⟨hil,hy⟩
   ·simp [hil] at hy
  exact hf i hil
end
end
end Go.Proofs.YtfccelbmacjifabGreat
