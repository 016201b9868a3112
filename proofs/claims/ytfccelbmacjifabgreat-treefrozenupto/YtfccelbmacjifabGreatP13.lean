import Derived.Test.YtfccelbmacjifabGreatP0
import Derived.Test.YtfccelbmacjifabGreatP12
import Derived.Test.YtfccelbmacjifabGreatP10
import Derived.Test.YtfccelbmacjifabGreatP11
set_option linter.unusedSimpArgs false
set_option maxRecDepth 100000
set_option maxHeartbeats 4000000
namespace Go.Proofs.YtfccelbmacjifabGreat
section
open Go.RowKit
section
variable {own : Own} {z : Nat} {w : World} {L : ZLay} {P : PSt}
theorem stepOfRead_calls (h : ZAt own z w L P) (hk : P.kind = 0\/P.kind = 1) {i : Nat} {l : WLay} {t : PThread} (hl : L.wks[i]? = some l) (ht : P.ts[i]? = some t) (hkd : t.work.kind = 3\/t.work.kind = 4) (hlk : t.work.kind = 4->t.work.links.length<=2 ^ 39 + 1/\t.work.spans.length<=16/\t.work.noted.length<=2 ^ 39) :
  Calls Tryz.prog 81 #[.pointer (some ⟨L.s,0,none⟩),.pointer (some ⟨l.b,0,none⟩)] w fun e w'=>e = .returned (.int .i64 (P.read i t.work).2)/\ZGoes own z w L (P.read i t.work).1 w':=by
 have HE : Hid (∀ b a,P.mem.hasPending (P.linkNext t.work).1 (P.linkNext t.work).2 = b->P.mem.ledTo (P.linkNext t.work).1 (P.linkNext t.work).2 t.work.time = a->P.read i t.work = if b then (P,2) else (P.setW i (if t.work.kind = 3 then P.lookUp t.work a else P.scan t.work a),1)):=by
  rintro b a rfl rfl; rfl
 have HW : Hid (∀ k,P.setW i k = P.setT i { t with work:=k }):=by
  intro k;exact setT_work ht k
 have H:=(mkH (ZAt own z w L P) <|h);have HL:=(mkH (L.wks[i]? = some l) <|hl);have Ht:=(mkH (P.ts[i]? = some t) <|ht);have HK:=(mkH ((P.kind = 0\/P.kind = 1)/\(t.work.kind = 4->_)) <|⟨hk,hlk⟩);have HKD:=(mkH (t.work.kind = 3\/t.work.kind = 4) <|hkd);clear h hl ht hk hlk hkd
 go_enter Tryz.func81,Tryz.ntmps81
 go_wp2_with fail;refine (linkToFollow_calls H.out HL.out Ht.out).mono ?_;rintro e w1 ⟨rfl,hF1⟩;generalize P.linkNext t.work = p at HE ⊢;obtain ⟨pn,ps⟩:=p;have HF1:=(mkH (Fr _ w w1) <|hF1);clear hF1;unfold lnk;go_wp2_with fail;generalize hw2 : World.alloc w1 _ = w2;have HF2 : Hid (Fr (fun _=>False) w w2):=by subst hw2; exact HF1.out.alloc _
 have HX : Hid (At w2 w1.heap.size [.int .i64 pn,.int .i64 (b2i ps)] 113):=by subst hw2; exact At.new _ _ _
 clear hw2 HF1;have H2:=(mkH (ZAt own z w2 L P) <|H.out.calm HF2.out);clear H;refine wp_region_calm [5] 0 rfl (by kernel_rfl) (by kernel_rfl) (by kernel_rfl) (by decide) (by kernel_rfl) (by decide) ?_;intro U W hU hW;have hau : ∀ u o,(W u).cell? ⟨L.s,o,none⟩ = (P.head L)[o]?:=fun u=>((H2.out).calm (hW u)).hd.cell
 have hxu : ∀ u o,(W u).cell? ⟨w1.heap.size,o,none⟩ = [Value.int .i64 pn,.int .i64 (b2i ps)][o]?:=fun u=>((hW u).at HX.out (fun h=>h)).cell
 simp only [PSt.head] at hau;clear hW
 repeat (refine mix_read rfl rfl ?_; go_big_quiet_step (fail); refine wpQuiet_nil ?_)
 refine mix_effC (.bool (P.mem.hasPending pn ps)) rfl rfl rfl ?_ ?_
 ·intro w' hw';go_simp;refine (HasPending_calls (H2.out.calm hw').mem pn ps).mono ?_;rintro e w'' ⟨rfl,hF⟩;exact ⟨rfl,hw'.trans hF⟩
 go_simp;refine mix_nil ?_;intro w3 hw3;have HF3:=(mkH (Fr (fun _=>False) w w3) <|HF2.out.trans hw3);have H3:=(mkH (ZAt own z w3 L P) <|H2.out.calm hw3);have HX3:=(mkH (At w3 w1.heap.size _ _) <|hw3.at HX.out (fun h=>h));clear hau hxu hw3 HF2 HX H2;have HE2:=(show Hid _ from HE.out _ _ rfl rfl);clear HE;generalize P.mem.hasPending pn ps = hp at HE2 ⊢;cases hp
 ·go_wp2_with fail;refine wp_region_calm [10] 0 rfl (by kernel_rfl) (by kernel_rfl) (by kernel_rfl) (by decide) (by kernel_rfl) (by decide) ?_;intro U W hU hW;have hau : ∀ u o,(W u).cell? ⟨L.s,o,none⟩ = (P.head L)[o]?:=fun u=>((H3.out).calm (hW u)).hd.cell
  have hlu : ∀ u o,(W u).cell? ⟨l.b,o,none⟩ = (t.cells i l)[o]?:=fun u=>(((H3.out).calm (hW u)).wk i l t HL.out Ht.out).at_.cell
  have hxu : ∀ u o,(W u).cell? ⟨w1.heap.size,o,none⟩ = [Value.int .i64 pn,.int .i64 (b2i ps)][o]?:=fun u=>((hW u).at HX3.out (fun h=>h)).cell
  simp only [PSt.head] at hau;simp only [PThread.cells] at hlu;clear hW
  repeat (refine mix_read rfl rfl ?_; go_big_quiet_step (fail); refine wpQuiet_nil ?_)
  refine mix_effC (.int .i64 (P.mem.ledTo pn ps t.work.time)) rfl rfl rfl ?_ ?_
  ·intro w' hw';go_simp;refine (LedTo_calls (H3.out.calm hw').mem pn ps t.work.time).mono ?_;rintro e w'' ⟨rfl,hF⟩;exact ⟨rfl,hw'.trans hF⟩
  go_simp
  repeat (refine mix_read rfl rfl ?_; go_big_quiet_step (fail); refine wpQuiet_nil ?_)
  refine mix_nil ?_;intro w4 hw4;have HF4:=(mkH (Fr (fun _=>False) w w4) <|HF3.out.trans hw4);have H4:=(mkH (ZAt own z w4 L P) <|H3.out.calm hw4);clear hau hlu hxu hw4 HF3 H3 HX3;obtain ⟨ha,haz,hal,_,_,_,_,_⟩:=H4.out.view HL.out Ht.out;simp only [PThread.cells] at ha;generalize P.mem.ledTo pn ps t.work.time = ah at HE2 ⊢;rcases HKD.out with h3 | h4
  ·rw [h3] at ha;go_wp2_with fail;refine (lookUp_calls H4.out HL.out Ht.out ah).mono ?_;rintro e w5 ⟨rfl,hZ⟩;have HZ:=(mkH (ZGoes own z w L _ w5) <|ZGoes.calm HF4.out hZ);clear hZ ha;go_wp2;go_ret;rw [HE2.out,if_neg (by simp),if_pos h3,HW.out];exact ⟨rfl,HZ.out⟩
  ·rw [h4] at ha;go_wp2_with fail;obtain ⟨q1,q2,q3⟩:=HK.out.2 h4;refine (scan_calls H4.out HK.out.1 HL.out Ht.out ah q1 q2 q3).mono ?_;rintro e w5 ⟨rfl,hZ⟩;have HZ:=(mkH (ZGoes own z w L _ w5) <|ZGoes.calm HF4.out hZ);clear hZ ha;go_wp2;go_ret;rw [HE2.out,if_neg (by simp),if_neg (by omega),HW.out];exact ⟨rfl,HZ.out⟩
 ·go_wp2;go_ret;rw [HE2.out,if_pos (by trivial)];exact ⟨rfl,ZGoes.calm HF3.out ⟨own,L,H3.out,Ext.refl _ _,Fr.refl _ _,rfl,rfl,rfl⟩⟩
theorem step_read {i : Nat} {t : PThread} (hkd : t.work.kind = 3\/t.work.kind = 4) (hn : 4<=t.work.next/\t.work.next<=12) : P.step i t = P.read i t.work:=by
 unfold PSt.step;split
 ·next h=>omega
 ·next h=>omega
 ·next h=>omega
 ·next h=>omega
 ·rw [if_pos hkd]
theorem ZStep_read (h : ZAt own z w L P) (hk : P.kind = 0\/P.kind = 1) {i : Nat} {t : PThread} (ht : P.ts[i]? = some t) (hb : t.busy = true) (hn : 1<=t.work.next/\t.work.next<=13) (hkd : t.work.kind = 3\/t.work.kind = 4) (hlk : t.work.kind = 4->4<=t.work.next/\t.work.next<=12->t.work.links.length<=2 ^ 39 + 1/\t.work.spans.length<=16/\t.work.noted.length<=2 ^ 39) :
  Calls Tryz.prog 54 #[.pointer (some ⟨L.s,0,none⟩),.int .i64 i] w fun e w'=>e = .returned (.tuple #[.int .i64 (P.step i t).2,.int .i64 0])/\ZGoes own z w L (P.step i t).1 w' :=
 ZStep_gen h ht hb hn true (by rcases hkd with h | h <;> rw [h] <;> rfl) (fun l hl hn'=>by
  rw [step_read hkd hn'];exact stepOfRead_calls h hk hl ht hkd (fun h4=>hlk h4 hn'))
end
end
section
open Go.RowKit
def opVal (kind key value : Int) (spans : Value) : Value:=.agg #[.int .i64 kind,.int .i64 key,.int .i64 value,spans]
def workV (k : PWork) (sp lk : Value) : List Value:=[.int .i64 k.kind,.int .i64 k.key,.int .i64 k.value,sp,.int .i64 k.next,.int .i64 k.time,.int .i64 k.stand,.int .i64 k.ahead,.int .i64 k.above,.int .i64 k.locks,
 .slice none 0 0,.int .i64 k.tsrc,.int .i64 (b2i k.tside),lk,.slice none 0 0,.int .i64 k.ans.err,.bool k.ans.did,.int .i64 k.ans.value,.int .i64 k.ans.stamp,.slice none 0 0]
theorem isKey_calls (k : Int) (w : World) : Calls Tryz.prog 76 #[.int .i64 k] w fun e w'=>e = .returned (.bool (isIn k 0 (2 ^ 40)))/\w' = w:=by
 go_enter Tryz.func76,Tryz.ntmps76
 go_wp2_with fail;refine (isWithin_calls k 0 1099511627776 _).mono ?_;rintro e w' ⟨rfl,rfl⟩;go_wp2;go_ret;exact ⟨rfl,rfl⟩
def spanOk (p : Int × Int) : Bool:=isIn p.1 0 (2 ^ 40) && (isIn p.2 0 (2 ^ 40) && decide (p.1<=p.2))
theorem spansOk_all : ∀ l : List (Int × Int),spansOkX l = l.all spanOk
 | []=>rfl
 | p :: r=>by unfold spansOkX; rw [spansOk_all r,List.all_cons]; unfold spanOk; cases isIn p.1 0 (2 ^ 40) <;> cases isIn p.2 0 (2 ^ 40) <;> rfl
theorem areSpans_calls (w : World) (a : Option Addr) (c : Nat) (ps : List (Int × Int)) (ha : PairsAt w a ps) :
  Calls Tryz.prog 77 #[.slice a ps.length c] w fun r w'=>r = .returned (.bool (isIn ps.length 1 16 && spansOkX ps))/\Fr (fun _=>False) w w':=by
 have HA:=(mkH (PairsAt w a ps) <|ha);clear ha;rw [spansOk_all];cases h16 : isIn ps.length 1 16
 ·go_enter Tryz.func77,Tryz.ntmps77
  go_wp2_with fail;refine (isWithin_calls ps.length 1 16 _).mono ?_;rintro e w' ⟨rfl,rfl⟩;rw [h16];go_wp2;go_ret;exact ⟨rfl,Fr.refl _ _⟩
 ·have hl : ps.length<=16:=by have:=(isIn_iff.1 h16).2; omega
  go_enter Tryz.func77,Tryz.ntmps77
  go_wp2_with fail;refine (isWithin_calls ps.length 1 16 _).mono ?_;rintro e w' ⟨rfl,rfl⟩;rw [h16];go_wp2
  go_loopw [10] (fun i wr=>∃ k : Nat,k<=ps.length/\i = .int .i64 k/\Hid ((ps.take k).all spanOk = true)/\Hid (Fr (fun _=>False) w' wr)) (fun i _=>ps.length - (intOf i).toNat)
  case atStart=>exact ⟨0,Nat.zero_le _,rfl,rfl,Fr.refl _ _⟩
  case round =>
   obtain ⟨k,hk,rfl,HO,HF⟩:=hrel;by_cases hlt : k < ps.length
   ·have hx : Hid (ps[k]? = some ps[k]):=List.getElem?_eq_getElem hlt;generalize ps[k] = x at hx;obtain ⟨g,rfl,c0,c1⟩:=(HA.out.calm HF.out) k x hx.out;have hbad : spanOk x = false->(ps.all spanOk) = false:=by
     intro hb;rw [List.all_eq_false];exact ⟨x,List.mem_of_getElem? hx.out,by rw [hb]; simp⟩
    have hgood : spanOk x = true->((ps.take (k + 1)).all spanOk) = true:=by
     intro hb;rw [List.take_add_one,hx.out,List.all_append,HO.out];simp [hb]
    have HBad:=(mkH (_->_) <|hbad);have HGood:=(mkH (_->_) <|hgood);clear hbad hgood;cases k1 : isIn x.1 0 (2 ^ 40)
    ·go_wp2_with fail
     go_quiet (refine Calls.quiet_of_same ((isKey_calls x.1 _).mono fun _ _ ⟨h1,h2⟩=>⟨by rw [h1,k1],h2⟩))
     go_wp2;go_ret;rw [HBad.out (by unfold spanOk; rw [k1]; rfl)];exact ⟨rfl,HF.out.drewN _⟩
    ·cases k2 : isIn x.2 0 (2 ^ 40)
     ·go_wp2_with fail
      go_quiet (first
       | (refine Calls.quiet_of_same ((isKey_calls x.1 _).mono fun _ _ ⟨h1,h2⟩=>⟨by rw [h1,k1],h2⟩))
       | (refine Calls.quiet_of_same ((isKey_calls x.2 _).mono fun _ _ ⟨h1,h2⟩=>⟨by rw [h1,k2],h2⟩)))
      go_wp2;go_ret;rw [HBad.out (by unfold spanOk; rw [k1,k2]; rfl)];exact ⟨rfl,HF.out.drewN _⟩
     ·cases k3 : decide (x.2 < x.1)
      ·have hng : ¬ x.2 < x.1:=by simpa using k3
       have HG:=(show Hid _ from HGood.out (by unfold spanOk; rw [k1,k2]; simp; omega));go_wp2_with fail
       go_quiet (first
        | (refine Calls.quiet_of_same ((isKey_calls x.1 _).mono fun _ _ ⟨h1,h2⟩=>⟨by rw [h1,k1],h2⟩))
        | (refine Calls.quiet_of_same ((isKey_calls x.2 _).mono fun _ _ ⟨h1,h2⟩=>⟨by rw [h1,k2],h2⟩)))
       go_wp2
       go_roundw
       case rel=>exact ⟨k + 1,by omega,by go_num,HG.out,HF.out.drewN _⟩
       case measure=>simp [intOf]; omega
      ·have hng : x.2 < x.1:=by simpa using k3
       go_wp2_with fail
       go_quiet (first
        | (refine Calls.quiet_of_same ((isKey_calls x.1 _).mono fun _ _ ⟨h1,h2⟩=>⟨by rw [h1,k1],h2⟩))
        | (refine Calls.quiet_of_same ((isKey_calls x.2 _).mono fun _ _ ⟨h1,h2⟩=>⟨by rw [h1,k2],h2⟩)))
       go_wp2;go_ret;rw [HBad.out (by unfold spanOk; rw [k1,k2]; simp; omega)];exact ⟨rfl,HF.out.drewN _⟩
   ·have hke : k = ps.length:=by omega
    subst hke;have hall : ps.all spanOk = true:=by have:=HO.out; rwa [List.take_length] at this
    go_wp2;go_ret;rw [hall];exact ⟨rfl,HF.out⟩
theorem checkOp_calls (kind key value : Int) (a : Option Addr) (n c : Nat) (ps : List (Int × Int)) (w : World) (hsp : kind = 4->n = ps.length/\PairsAt w a ps) :
  Calls Tryz.prog 63 #[opVal kind key value (.slice a n c)] w fun e w'=>e = .returned (.int .i64 (checkOp kind key ps))/\Fr (fun _=>False) w w':=by
 have hA:=(At.new w [.int .i64 kind,.int .i64 key,.int .i64 value,.slice a n c] 53).cell;have HF:=(mkH (Fr _ w (w.alloc _)) <|(Fr.refl (fun _=>False) w).alloc (.cells #[.int .i64 kind,.int .i64 key,.int .i64 value,.slice a n c] 53));unfold opVal;by_cases hk : kind = 1\/kind = 2\/kind = 3
 ·have HE : Hid (checkOp kind key ps = if isIn key 0 (2 ^ 40) then 0 else 5):=by show _ = _; unfold checkOp; rw [if_pos hk]
  clear hsp;cases hk0 : isIn key 0 (2 ^ 40)
  all_goals
   rw [hk0] at HE;rcases hk with rfl | rfl | rfl
  all_goals
   go_enter Tryz.func63,Tryz.ntmps63
   go_wp2_with fail;refine (isKey_calls key _).mono ?_;rintro e w' ⟨rfl,rfl⟩;rw [hk0];go_wp2;go_ret;rw [HE.out];exact ⟨rfl,HF.out⟩
 ·by_cases h4 : kind = 4
  ·obtain ⟨rfl,hP⟩:=hsp h4;subst h4;have HE : Hid (checkOp 4 key ps = if isIn ps.length 1 16 && spansOkX ps then 0 else 6):=rfl;have HP:=(mkH (PairsAt _ a ps) <|hP.calm HF.out);clear hP hsp hk
   go_enter Tryz.func63,Tryz.ntmps63
   go_wp2_with fail;refine (areSpans_calls _ a c ps HP.out).mono ?_;rintro e w' ⟨rfl,hF⟩;have HF2:=(mkH (Fr _ w w') <|HF.out.trans hF);clear hF hA;generalize (isIn ps.length 1 16 && spansOkX ps) = b at HE ⊢;cases b
   all_goals
    go_wp2;go_ret;rw [HE.out];exact ⟨rfl,HF2.out⟩
  ·have HE : Hid (checkOp kind key ps = 5):=by show _ = _; unfold checkOp; rw [if_neg hk,if_neg h4]
   have q1 : (kind == 1) = false:=by simp; omega
   have q2 : (kind == 2) = false:=by simp; omega
   have q3 : (kind == 3) = false:=by simp; omega
   have q4 : (kind == 4) = false:=by simp; omega
   clear hsp hk h4
   go_enter Tryz.func63,Tryz.ntmps63
   go_wp2;go_ret;rw [HE.out];exact ⟨rfl,HF.out⟩
theorem work_size : ∀ w : World,(sizeOf 116).run Tryz.prog w = .ok 20 w:=fun _=>by kernel_rfl
def wkOf (kind key value : Int) : PWork:={ PWork.zero with kind:=kind,key:=key,value:=value,next:=1 }
def wk0 (kind : Int) : List Value:=workV (wkOf kind 0 0) (.slice none 0 0) (.slice none 0 0)
def wkZ : List Value:=workV PWork.zero (.slice none 0 0) (.slice none 0 0)
theorem newWork_start (kind : Int) (oc : List Value) (w : World) : ∀ w1,w1 = ((((w.alloc (.cells oc.toArray 53)).alloc (.cells wkZ.toArray 116)).alloc (.cells wkZ.toArray 116)).setCells (w.heap.size + 2) 0 (wk0 kind)) ->
  At w1 w.heap.size oc 53/\At w1 (w.heap.size + 1) wkZ 116/\At w1 (w.heap.size + 2) (wk0 kind) 116/\Fr (fun _=>False) w w1:=by
 rintro w1 rfl;have hF : Fr (fun k=>k = w.heap.size + 2) (((w.alloc (.cells oc.toArray 53)).alloc (.cells wkZ.toArray 116)).alloc (.cells wkZ.toArray 116)) ((((w.alloc (.cells oc.toArray 53)).alloc (.cells wkZ.toArray 116)).alloc (.cells wkZ.toArray 116)).setCells (w.heap.size + 2) 0 (wk0 kind)):=Fr.setCells (S:=fun k=>k = w.heap.size + 2) rfl _ _ _ (Fr.refl _ _);refine ⟨hF.at (((At.new w oc 53).alloc _).alloc _) (by omega),hF.at ((At.newAt (by simp) _ _).alloc _) (by omega),?_,Fr.transNew ((((Fr.refl _ _).alloc _).alloc _).alloc _) hF (by rintro i rfl; right; omega)⟩;have h1:=At.setCells (wk0 kind) 0 (((w.alloc (.cells oc.toArray 53)).alloc (.cells wkZ.toArray 116)).alloc (.cells wkZ.toArray 116)) wkZ (b:=w.heap.size + 2) (e:=116) (At.newAt (by simp) _ _);have h2 : setAll wkZ 0 (wk0 kind) = wk0 kind:=by
  unfold wkZ wk0 workV;simp only [setAll,List.set_cons_zero,List.set_cons_succ]
 rw [h2] at h1;exact h1
theorem newWork_flat (kind key value : Int) (hk : kind = 1\/kind = 2\/kind = 3) (a : Option Addr) (n c : Nat) (w : World) :
  Calls Tryz.prog 64 #[opVal kind key value (.slice a n c)] w fun e w'=>e = .returned (.agg (workV (newWork kind key value []) (.slice none 0 0) (.slice none 0 0)).toArray)/\Fr (fun _=>False) w w':=by
 have hws:=work_size;have hag : ∀ w : World,(isAgg 116).run Tryz.prog w = .ok true w:=fun _=>by kernel_rfl
 unfold opVal;obtain ⟨nw,hnw⟩ : ∃ nw,newWork kind key value [] = nw:=⟨_,rfl⟩;rw [hnw];have HE : Hid (nw = if kind = 1 then wkOf 1 key value else wkOf kind key 0):=by
  show _ = _;rw [<- hnw];rcases hk with rfl | rfl | rfl <;> rfl
 clear hnw;rcases hk with rfl | rfl | rfl
 all_goals
  go_enter Tryz.func64,Tryz.ntmps64
  go_upto_region 2 with (refine wpList_storeAgg _ rfl _ _ 116 rfl (w.heap.size + 2) 0 (wk0 _) rfl rfl hws wkZ 116 (At.newAt (by simp) _ _) (by simp [wk0,wkZ,workV]) (by simp [wk0,workV,Value.oneCell']) ?_)
  generalize hw1 : World.setCells _ _ _ _ = w1;obtain ⟨h1,h2,h3,h4⟩:=newWork_start _ [_,.int .i64 key,.int .i64 value,.slice a n c] w w1 hw1.symm;have HO:=(mkH (At _ _ _ _) <|h1);have HR:=(mkH (At _ _ _ _) <|h2);have HV:=(mkH (At _ _ _ _) <|h3);have HFF:=(mkH (Fr _ w _) <|h4);clear hw1 h1 h2 h3 h4;have ho:=HO.out.cell;have hv:=HV.out.cell;have hvz:=HV.out.frozen;simp only [wk0,workV] at hv
  go_upto_region 16 with fail
  generalize hw2 : World.setCell _ _ _ = w2;have HV2 : Hid (At w2 (w.heap.size + 2) (workV nw (.slice none 0 0) (.slice none 0 0)) 116):=by
   subst hw2;show At _ _ _ _;rw [HE.out]
   first
    | exact (HV.out.set 1 (.int .i64 key)).set 2 (.int .i64 value)
    | exact HV.out.set 1 (.int .i64 key)
  have HR2 : Hid (At w2 (w.heap.size + 1) wkZ 116):=by
   subst hw2
   first
    | exact (HR.out.setOther ⟨w.heap.size + 2,1,none⟩ (by simp) (.int .i64 key)).setOther ⟨w.heap.size + 2,2,none⟩ (by simp) (.int .i64 value)
    | exact HR.out.setOther ⟨w.heap.size + 2,1,none⟩ (by simp) (.int .i64 key)
  have HF2 : Hid (Fr (fun _=>False) w w2):=by
   subst hw2;show Fr _ _ _
   repeat (with_reducible first | refine Fr.setNew (by omega) ?_ _ _ | exact HFF.out)
  clear hw2 ho hv hvz HO HR HV HFF HE;go_wp2_with (first
   | refine wpList_loadAgg w2 rfl _ 116 rfl (w.heap.size + 2) 0 (workV nw (.slice none 0 0) (.slice none 0 0)) rfl hag hws (by intro j v hv; rw [Nat.zero_add,HV2.out.cell]; exact hv) ?_
   | refine wpList_storeAgg w2 rfl _ _ 116 rfl (w.heap.size + 1) 0 (workV nw (.slice none 0 0) (.slice none 0 0)) rfl rfl hws _ _ HR2.out (by simp [wkZ,workV]) (by simp [workV,Value.oneCell']) ?_)
  have hA3:=At.setCells (workV nw (.slice none 0 0) (.slice none 0 0)) 0 w2 _ HR2.out;have h2 : setAll wkZ 0 (workV nw (.slice none 0 0) (.slice none 0 0)) = workV nw (.slice none 0 0) (.slice none 0 0):=by
   unfold wkZ workV;simp only [setAll,List.set_cons_zero,List.set_cons_succ]
  rw [h2] at hA3;refine bodyPost_ret (results_cellAgg (P:=Tryz.prog) (k:=2) (t:=116) rfl _ _ (w.heap.size + 1) 0 (workV nw (.slice none 0 0) (.slice none 0 0)) rfl hag hws (by intro j v hv; rw [Nat.zero_add,hA3.cell]; exact hv)) rfl ?_;refine ⟨rfl,?_⟩;exact Fr.transNew HF2.out (Fr.setCells (S:=fun k=>k = w.heap.size + 1) rfl _ _ _ (Fr.refl _ _)) (by rintro i rfl; right; omega)
end
section
open Go.RowKit
theorem Tryz.infoSn : (Tryz.prog.info? 81).map (fun i=>(i.zero,i.size,i.bytes)) = some (some (.agg #[.int .i64 0,.int .i64 0]),2,16):=by kernel_rfl
theorem Fr.keepCellS {S : Nat->Prop} {w w' : World} (hf : Fr S w w') {a : Addr} {v : Value} (h : w.cell? a = some v) (hS : ¬ S a.block) : w'.cell? a = some v:=by
 rw [cellHeap (hf.block a.block (cellLt h) hS)]; exact h
structure OwnSpans (w0 w : World) (v : Value) (ps : List (Int × Int)) : Prop where
 row : w.ownsRow 0 81 2 v ps.length (ps.flatMap pairCells)
 new : ∀ k,v.ownBlock = some k->w0.heap.size<=k
 fr : Fr (fun _=>False) w0 w
theorem newWork_scan (key value : Int) (a : Option Addr) (c : Nat) (ps : List (Int × Int)) (hl : ps.length<=16) (w : World) (hP : PairsAt w a ps) :
  Calls Tryz.prog 64 #[opVal 4 key value (.slice a ps.length c)] w fun e w'=>∃ sp lk,e = .returned (.agg (workV (newWork 4 key value ps) sp lk).toArray)/\OwnSpans w w' sp ps/\OwnLinks w w' lk [(0,false)]:=by
 have hws:=work_size;have hag : ∀ w : World,(isAgg 116).run Tryz.prog w = .ok true w:=fun _=>by kernel_rfl
 obtain ⟨iP,hiP,hzP,hsP,hbP⟩:=info_parts Tryz.infoSn;obtain ⟨iL,hiL,hzL,hsL,hbL⟩:=info_parts Tryz.infoLk;have HP:=(mkH (PairsAt w a ps) <|hP);clear hP;obtain ⟨nw,hnw⟩ : ∃ nw,newWork 4 key value ps = nw:=⟨_,rfl⟩;rw [hnw];have HNW:=(mkH (_ = nw) <|hnw);clear hnw;unfold opVal
 go_enter Tryz.func64,Tryz.ntmps64
 go_upto_region 2 with (refine wpList_storeAgg _ rfl _ _ 116 rfl (w.heap.size + 2) 0 (wk0 _) rfl rfl hws wkZ 116 (At.newAt (by simp) _ _) (by simp [wk0,wkZ,workV]) (by simp [wk0,workV,Value.oneCell']) ?_)
 generalize hw1 : World.setCells _ _ _ _ = w1;obtain ⟨h1,h2,h3,h4⟩:=newWork_start _ [.int .i64 4,.int .i64 key,.int .i64 value,.slice a ps.length c] w w1 hw1.symm;have HO:=(mkH (At _ _ _ _) <|h1);have HR:=(mkH (At _ _ _ _) <|h2);have HV:=(mkH (At _ _ _ _) <|h3);have HFF:=(mkH (Fr _ w _) <|h4);clear hw1 h1 h2 h3 h4;have ho:=HO.out.cell;go_wp2
 go_loopw [29] (fun i wr=>∃ k : Nat,k<=ps.length/\i = .int .i64 k/\∃ va vn vc,Hid (OwnSpans w wr (.slice va vn vc) (ps.take k))/\Hid (At wr (w.heap.size + 2) (workV (wkOf 4 0 0) (.slice va vn vc) (.slice none 0 0)) 116)/\Hid (At wr w.heap.size [.int .i64 4,.int .i64 key,.int .i64 value,.slice a ps.length c] 53)/\Hid (At wr (w.heap.size + 1) wkZ 116)) (fun i _=>ps.length - (intOf i).toNat)
 case atStart =>
  refine ⟨0,Nat.zero_le _,rfl,none,0,0,⟨⟨by simp,.inl ⟨rfl,rfl⟩⟩,by intro k hk; simp [Value.ownBlock] at hk,HFF.out⟩,HV,HO,HR⟩
 case round =>
  clear HO HR HV HFF ho;obtain ⟨k,hk,rfl,va,vn,vc,HS,HV,HO,HR⟩:=hrel;have ho:=HO.out.cell;have hv:=HV.out.cell;have hvz:=HV.out.frozen;simp only [workV] at hv;by_cases hlt : k < ps.length
  ·have hx : Hid (ps[k]? = some ps[k]):=List.getElem?_eq_getElem hlt;generalize ps[k] = x at hx;obtain ⟨g,rfl,c0,c1⟩:=(HP.out.calm HS.out.fr) k x hx.out;have HN : Hid (ps.take (k + 1) = ps.take k ++ [x]):=by show _ = _; rw [List.take_add_one,hx.out]; rfl
   have hkl : (ps.take k).length = k:=by rw [List.length_take]; omega
   go_wp2_with fail;have hrow:=HS.out.row;obtain ⟨ra,rc,hrv⟩:=ownsShape hrow;obtain ⟨rfl,rfl,rfl⟩ : va = ra/\vn = (ps.take k).length/\vc = rc:=by simpa using hrv
   rw [hkl] at HS HV hv hrow;have hrow1 : (wr.drew.alloc (.cells #[.int .i64 x.1,.int .i64 x.2] 81)).ownsRow 0 81 2 (.slice va k vc) k ((ps.take k).flatMap pairCells):=ownsRow_alloc (World.ownsRow.drew hrow) _;obtain ⟨g',gcap,w3,hown,hg,hge,hrun⟩:=push_runs (P:=Tryz.prog) (wr.drew.alloc (.cells #[.int .i64 x.1,.int .i64 x.2] 81)) 27 27 0 81 iP (.agg #[.int .i64 0,.int .i64 0]) 2 16 Tryz.underlying27 hiP hzP hsP hbP rfl (by decide) _ _ _ hrow1
    wr.heap.size [.int .i64 x.1,.int .i64 x.2] rfl 81 (At.newAt rfl _ _) (by simp [Value.oneCell']) (by unfold maxLen; omega) (by omega) (by simp)
   have HV3:=(mkH (At w3 (w.heap.size + 2) _ _) <|((HV.out.drew).alloc _).grown hg (HV.out.ne_row hrow (by decide)));have HO3:=(mkH (At w3 w.heap.size _ _) <|((HO.out.drew).alloc _).grown hg (HO.out.ne_row hrow (by decide)));have HR3:=(mkH (At w3 (w.heap.size + 1) _ _) <|((HR.out.drew).alloc _).grown hg (HR.out.ne_row hrow (by decide)));have HRun:=(mkH (∀ (o : Oper) (a : Act) (s x : Operand),_) <|hrun);have HOwn:=(mkH (w3.ownsRow 0 _ _ _ _ _) <|hown);have HG:=(mkH (World.grownBy _ w3 _) <|hg);have HGe:=(mkH (_\/_) <|hge);have HC:=(mkH (wr.cell? ⟨g,k * 2,none⟩ = some (.int .i64 x.1)/\wr.cell? ⟨g,k * 2 + 1,none⟩ = some (.int .i64 x.2)) <|⟨c0,c1⟩);clear hrun hown hg hge hrow1 hrow hrv ho hv hvz c0 c1;refine wp_region_mix [7,8,10] (fun k'=>match k' with | 0=>wr.drew | 1=>wr.drew.alloc (.cells #[.int .i64 x.1,.int .i64 x.2] 81) | 2=>w3 | _=>w3.setCell ⟨w.heap.size + 2,3,none⟩ (.slice (some ⟨g',0,none⟩) (k + 1) gcap)) 2 rfl (by kernel_rfl) (by kernel_rfl) (by kernel_rfl) (by decide) (by kernel_rfl) (by kernel_rfl) (by decide) rfl ?_;intro W hW;have hF3 : Fr (fun j=>(Value.slice va k vc).ownBlock = some j) wr w3:=((((Fr.refl _ _).drew).alloc _).grown HG.out (fun k hk=>.inl hk));have hgn : ¬ (Value.slice va k vc).ownBlock = some g:=by
    intro e;have h1:=HS.out.new g e;obtain ⟨g2,e2,c2,_⟩:=HP.out k x hx.out
    have:=cellLt c2
    simp at e2;simp only [<- e2] at this;omega
   have c0 : ∀ u,(W u).cell? ⟨g,k * 2,none⟩ = some (.int .i64 x.1):=by
    intro u;obtain ⟨k',hk',he⟩:=hW u;rw [he];rcases (show k' = 0\/k' = 1\/k' = 2 by omega) with rfl | rfl | rfl
    ·exact ((Fr.refl _ _).drew).keepCell HC.out.1
    ·exact (((Fr.refl _ _).drew).alloc _).keepCell HC.out.1
    ·exact hF3.keepCellS HC.out.1 hgn
   have c1 : ∀ u,(W u).cell? ⟨g,k * 2 + 1,none⟩ = some (.int .i64 x.2):=by
    intro u;obtain ⟨k',hk',he⟩:=hW u;rw [he];rcases (show k' = 0\/k' = 1\/k' = 2 by omega) with rfl | rfl | rfl
    ·exact ((Fr.refl _ _).drew).keepCell HC.out.2
    ·exact (((Fr.refl _ _).drew).alloc _).keepCell HC.out.2
    ·exact hF3.keepCellS HC.out.2 hgn
   have hv : ∀ u o,(W u).cell? ⟨w.heap.size + 2,o,none⟩ = (workV (wkOf 4 0 0) (.slice va k vc) (.slice none 0 0))[o]?:=by
    intro u;obtain ⟨k',hk',he⟩:=hW u;rw [he];rcases (show k' = 0\/k' = 1\/k' = 2 by omega) with rfl | rfl | rfl
    ·exact HV.out.drew.cell
    ·exact (HV.out.drew.alloc _).cell
    ·exact HV3.out.cell
   have ho : ∀ u o,(W u).cell? ⟨w.heap.size,o,none⟩ = [Value.int .i64 4,.int .i64 key,.int .i64 value,.slice (some ⟨g,0,none⟩) ps.length c][o]?:=by
    intro u;obtain ⟨k',hk',he⟩:=hW u;rw [he];rcases (show k' = 0\/k' = 1\/k' = 2 by omega) with rfl | rfl | rfl
    ·exact HO.out.drew.cell
    ·exact (HO.out.drew.alloc _).cell
    ·exact HO3.out.cell
   simp only [workV] at hv;have hc3:=HV3.out.cell;have hz3:=HV3.out.frozen;simp only [workV] at hc3;have HF3:=(mkH (Fr _ wr w3) <|hF3);clear hW hF3 hgn
   repeat (refine mix_read rfl rfl ?_; go_big_quiet_step (fail); refine wpQuiet_nil ?_)
   refine mix_eff (v:=.slice (some ⟨wr.heap.size,0,none⟩) 1 1) rfl rfl rfl ?_ ?_
   ·go_simp;exact ⟨rfl,rfl⟩
   refine mix_eff rfl rfl rfl (HRun.out _ _ _ _ rfl rfl rfl rfl) ?_;go_simp
   repeat (refine mix_read rfl rfl ?_; go_big_quiet_step (fail); refine wpQuiet_nil ?_)
   refine mix_eff (v:=undef) rfl rfl rfl ?_ ?_
   ·go_simp;exact ⟨rfl,rfl⟩
   refine mix_nil ?_;go_simp;clear c0 c1 hv ho hc3 hz3;have hS4 : OwnSpans w w3 (.slice (some ⟨g',0,none⟩) (k + 1) gcap) (ps.take (k + 1)):=by
    rw [HN.out];refine ⟨by rw [List.length_append,hkl]; simpa [pairCells] using HOwn.out,?_,Fr.transNew HS.out.fr HF3.out (fun j hj=>.inr (HS.out.new j hj))⟩;intro q hq;simp [Value.ownBlock] at hq;subst hq;rcases HGe.out with h | h
    ·exact HS.out.new _ h
    ·have:=HS.out.fr.size
     simp at h; omega
   have HS4 : Hid (OwnSpans w (w3.setCell ⟨w.heap.size + 2,3,none⟩ (.slice (some ⟨g',0,none⟩) (k + 1) gcap)) (.slice (some ⟨g',0,none⟩) (k + 1) gcap) (ps.take (k + 1))) :=
    ⟨ownsRow_setOther hS4.row (a:=⟨w.heap.size + 2,3,none⟩) (HV3.out.ne_row hS4.row (by decide)) _,hS4.new,Fr.setNew (by omega) hS4.fr _ _⟩
   clear hS4;go_wp2
   go_roundw
   case rel=>exact ⟨k + 1,by omega,by go_num,some ⟨g',0,none⟩,k + 1,gcap,HS4,HV3.out.set 3 _,HO3.out.setOther _ (by show w.heap.size≠w.heap.size + 2; omega) _,HR3.out.setOther _ (by show w.heap.size + 1≠w.heap.size + 2; omega) _⟩
   case measure=>simp [intOf]; omega
  ·have hke : k = ps.length:=by omega
   subst hke;rw [List.take_length] at HS;go_wp2_with (at_builtin; refine wpList_push _ rfl _ _ 114 rfl 0 113 iL _ 2 16 Tryz.underlying114 hiL hzL hsL hbL rfl (by decide) (.slice none 0 0) 0 [] rfl (World.ownsRow_nil _ 0 _ _) wr.heap.size [.int .i64 0,.int .i64 0] rfl rfl 113 (At.newAt (by simp) _ _) (by simp [Value.oneCell']) (by unfold maxLen; omega) (by omega) (by simp) ?_);intro g' cap w3 hown hgr hge;have hF3 : Fr (fun _=>False) wr w3:=Fr.grown ((Fr.refl _ _).alloc _) hgr (fun k hk=>by simp [Value.ownBlock] at hk);have HL3 : Hid (OwnLinks w w3 (.slice (some ⟨g',0,none⟩) 1 cap) [(0,false)]):=by
    refine ⟨by simpa [linkCells,b2i] using hown,?_,HS.out.fr.trans hF3⟩;intro q hq;simp [Value.ownBlock] at hq;subst hq
    have:=HS.out.fr.size
    rcases hge with h | h
    ·simp [Value.ownBlock] at h
    ·first | omega | (simp at h; omega)
   have HS3 : Hid (OwnSpans w w3 (.slice va vn vc) ps):=⟨hF3.owns HS.out.row (fun _ _ h=>h),HS.out.new,HS.out.fr.trans hF3⟩;have HV3:=(mkH (At w3 (w.heap.size + 2) _ _) <|hF3.at HV.out (fun h=>h));have HR3:=(mkH (At w3 (w.heap.size + 1) _ _) <|hF3.at HR.out (fun h=>h));clear hown hgr hge hF3 HS HV HO HR ho hv hvz;have hv:=HV3.out.cell;have hvz:=HV3.out.frozen;simp only [workV] at hv
   go_upto_region 16 with fail
   have HV4:=(mkH (At (w3.setCell ⟨w.heap.size + 2,13,none⟩ (.slice (some ⟨g',0,none⟩) 1 cap)) (w.heap.size + 2) (workV nw (.slice va vn vc) (.slice (some ⟨g',0,none⟩) 1 cap)) 116) <|by rw [<- HNW.out]; exact HV3.out.set 13 (.slice (some ⟨g',0,none⟩) 1 cap));have HR4:=(mkH (At (w3.setCell ⟨w.heap.size + 2,13,none⟩ (.slice (some ⟨g',0,none⟩) 1 cap)) (w.heap.size + 1) _ _) <|HR3.out.setOther _ (by show w.heap.size + 1≠w.heap.size + 2; omega) _);have HL4 : Hid (OwnLinks w (w3.setCell ⟨w.heap.size + 2,13,none⟩ (.slice (some ⟨g',0,none⟩) 1 cap)) (.slice (some ⟨g',0,none⟩) 1 cap) [(0,false)]):=⟨ownsRow_setOther HL3.out.row (a:=⟨w.heap.size + 2,13,none⟩) (HV3.out.ne_row HL3.out.row (by decide)) _,HL3.out.new,Fr.setNew (by omega) HL3.out.fr _ _⟩;have HS4 : Hid (OwnSpans w (w3.setCell ⟨w.heap.size + 2,13,none⟩ (.slice (some ⟨g',0,none⟩) 1 cap)) (.slice va vn vc) ps):=⟨ownsRow_setOther HS3.out.row (a:=⟨w.heap.size + 2,13,none⟩) (HV3.out.ne_row HS3.out.row (by decide)) _,HS3.out.new,Fr.setNew (by omega) HS3.out.fr _ _⟩;generalize w3.setCell ⟨w.heap.size + 2,13,none⟩ (.slice (some ⟨g',0,none⟩) 1 cap) = w4 at *;clear hv hvz HV3 HR3 HL3 HS3;go_wp2_with (first
    | refine wpList_loadAgg w4 rfl _ 116 rfl (w.heap.size + 2) 0 (workV nw (.slice va vn vc) (.slice (some ⟨g',0,none⟩) 1 cap)) rfl hag hws (by intro j v hv; rw [Nat.zero_add,HV4.out.cell]; exact hv) ?_
    | refine wpList_storeAgg w4 rfl _ _ 116 rfl (w.heap.size + 1) 0 (workV nw (.slice va vn vc) (.slice (some ⟨g',0,none⟩) 1 cap)) rfl rfl hws _ _ HR4.out (by simp [wkZ,workV]) (by simp [workV,Value.oneCell']) ?_)
   have hA5:=At.setCells (workV nw (.slice va vn vc) (.slice (some ⟨g',0,none⟩) 1 cap)) 0 w4 _ HR4.out;have h2 : setAll wkZ 0 (workV nw (.slice va vn vc) (.slice (some ⟨g',0,none⟩) 1 cap)) = workV nw (.slice va vn vc) (.slice (some ⟨g',0,none⟩) 1 cap):=by
    unfold wkZ workV;simp only [setAll,List.set_cons_zero,List.set_cons_succ]
   rw [h2] at hA5;have hFb : Fr (fun k=>k = w.heap.size + 1) w4 (w4.setCells (w.heap.size + 1) 0 (workV nw (.slice va vn vc) (.slice (some ⟨g',0,none⟩) 1 cap))):=Fr.setCells (S:=fun k=>k = w.heap.size + 1) rfl _ _ _ (Fr.refl _ _);refine bodyPost_ret (results_cellAgg (P:=Tryz.prog) (k:=2) (t:=116) rfl _ _ (w.heap.size + 1) 0 (workV nw (.slice va vn vc) (.slice (some ⟨g',0,none⟩) 1 cap)) rfl hag hws (by intro j v hv; rw [Nat.zero_add,hA5.cell]; exact hv)) rfl ?_;refine ⟨_,_,rfl,⟨hFb.owns HS4.out.row (fun k hk e=>HR4.out.ne_row HS4.out.row (by decide) (by rw [<- e]; exact hk)),HS4.out.new,Fr.transNew HS4.out.fr hFb (by rintro i rfl; right; omega)⟩,hFb.owns HL4.out.row (fun k hk e=>HR4.out.ne_row HL4.out.row (by decide) (by rw [<- e]; exact hk)),HL4.out.new,Fr.transNew HL4.out.fr hFb (by rintro i rfl; right; omega)⟩
theorem checkOp_zero {kind key : Int} {ps : List (Int × Int)} (h : checkOp kind key ps = 0) : (kind = 1\/kind = 2\/kind = 3)\/(kind = 4/\ps.length<=16):=by
 unfold checkOp at h;by_cases h1 : kind = 1\/kind = 2\/kind = 3
 ·exact .inl h1
 ·rw [if_neg h1] at h;by_cases h2 : kind = 4
  ·rw [if_pos h2] at h;cases hI : isIn ps.length 1 16
   ·rw [hI] at h; simp at h
   ·exact .inr ⟨h2,by have:=(isIn_iff.1 hI).2; omega⟩
  ·rw [if_neg h2] at h; simp at h
theorem newWork_calls (kind key value : Int) (a : Option Addr) (n c : Nat) (ps : List (Int × Int)) (w : World) (hok : checkOp kind key ps = 0) (hsp : kind = 4->n = ps.length/\PairsAt w a ps) :
  Calls Tryz.prog 64 #[opVal kind key value (.slice a n c)] w fun e w'=>∃ sp lk,e = .returned (.agg (workV (newWork kind key value ps) sp lk).toArray)/\OwnSpans w w' sp (newWork kind key value ps).spans/\OwnLinks w w' lk (newWork kind key value ps).links:=by
 rcases checkOp_zero hok with hk | ⟨rfl,hl⟩
 ·have e1 : newWork kind key value ps = newWork kind key value []:=by rcases hk with rfl | rfl | rfl <;> rfl
  have e2 : (newWork kind key value []).spans = []/\(newWork kind key value []).links = []:=by rcases hk with rfl | rfl | rfl <;> exact ⟨rfl,rfl⟩
  refine (newWork_flat kind key value hk a n c w).mono ?_;rintro e w' ⟨rfl,hF⟩;rw [e1,e2.1,e2.2];exact ⟨_,_,rfl,⟨⟨by simp,.inl ⟨rfl,rfl⟩⟩,by intro k hk; simp [Value.ownBlock] at hk,hF⟩,⟨by simp,.inl ⟨rfl,rfl⟩⟩,by intro k hk; simp [Value.ownBlock] at hk,hF⟩
 ·obtain ⟨rfl,hP⟩:=hsp rfl;exact newWork_scan key value a c ps hl w hP
end
section
open Go.RowKit
section
variable {own : Own} {z : Nat} {w : World} {L : ZLay} {P : PSt}
theorem rows_ne {w : World} {e e' : TypeId} {s s' : Nat} {v v' : Value} {n n' : Nat} {xs xs' : List Value} (h : w.ownsRow 0 e s v n xs) (h' : w.ownsRow 0 e' s' v' n' xs') (hne : e≠e') (k : Nat) (hk : v.ownBlock = some k) (hk' : v'.ownBlock = some k) : False:=by
 rcases h.2 with ⟨rfl,_⟩ | ⟨g,cap,cur,rfl,_,hg,_⟩
 ·simp [Value.ownBlock] at hk
 ·rcases h'.2 with ⟨rfl,_⟩ | ⟨g',cap',cur',rfl,_,hg',_⟩
  ·simp [Value.ownBlock] at hk'
  ·simp [Value.ownBlock] at hk hk';subst hk; subst hk';rw [hg] at hg';simp at hg';exact hne hg'.2
theorem ZAt.wkBegin (h : ZAt own z w L P) {w0 w' : World} {i : Nat} {l : WLay} {t t' : PThread} {sp lk : Value} (hl : L.wks[i]? = some l) (ht : P.ts[i]? = some t) (hf : Fr (fun k=>k = l.b) w w')
  (hA : At w' l.b (t'.cells i ⟨l.b,sp,.slice none 0 0,lk,.slice none 0 0,.slice none 0 0,l.lspans⟩) 118) (hw0 : w.heap.size<=w0.heap.size)
  (e1 : w'.ownsRow 0 81 2 sp t'.work.spans.length (t'.work.spans.flatMap pairCells)) (f1 : ∀ k,sp.ownBlock = some k->w0.heap.size<=k) (e2 : t'.work.made = [])
  (e3 : w'.ownsRow 0 113 2 lk t'.work.links.length (t'.work.links.flatMap linkCells)) (f3 : ∀ k,lk.ownBlock = some k->w0.heap.size<=k) (e4 : t'.work.noted = []) (e6 : t'.work.ans.spans = []) (e7 : t'.last.spans = t.last.spans) : ZGoes own z w L (P.setT i t') w':=by
 have hT:=h.wk i l t hl ht;have hF : FrT own z (fun t=>t = .thread i\/∃ k,t = .tr i k) w w':=FrT.one hf hT.tg (.inl rfl);have hn : ∀ tag,tag≠Tag.thread i->∀ k,own k = ⟨z,tag⟩->¬ k = l.b:=by
  rintro tag hne k hk rfl; rw [hT.tg] at hk; simp at hk; exact hne hk.symm
 have hE : Ext own (fun k=>if sp.ownBlock = some k then ⟨z,.tr i 0⟩ else if lk.ownBlock = some k then ⟨z,.tr i 2⟩ else own k) w:=by
  intro k hk;show (if _ then _ else _) = _;rw [if_neg (fun e=>by have:=f1 k e; omega),if_neg (fun e=>by have:=f3 k e; omega)]
 refine ⟨_,{ L with wks:=L.wks.set i ⟨l.b,sp,.slice none 0 0,lk,.slice none 0 0,.slice none 0 0,l.lspans⟩ },h.wkSet hl rfl hF hE ⟨hA,(hE _ hT.at_.lt).trans hT.tg,⟨e1,fun k hk=>by show (if _ then _ else _) = _; rw [if_pos hk]⟩,?_,⟨e3,fun k hk=>by show (if _ then _ else _) = _; rw [if_neg (fun e=>rows_ne e1 e3 (by decide) k e hk),if_pos hk]⟩,?_,?_,?_⟩,hE,hF.zone,rfl,rfl,?_⟩
 ·rw [e2]; exact Row.nil _ _ _ _ _ _
 ·rw [e4]; exact Row.nil _ _ _ _ _ _
 ·rw [e6]; exact ListsAt.none _ _ _
 ·rw [e7]; exact hT.llists.fr hf hE (hn _ (by simp))
 ·show (L.wks.set i _).map (·.b) = _;rw [List.map_set];exact setL_same (by simp [hl])
theorem newWork_rest (kind key value : Int) (ps : List (Int × Int)) : (newWork kind key value ps).made = []/\(newWork kind key value ps).noted = []/\(newWork kind key value ps).ans.spans = []:=by
 unfold newWork;simp only;split
 ·exact ⟨rfl,rfl,rfl⟩
 ·split
  ·exact ⟨rfl,rfl,rfl⟩
  ·split <;> exact ⟨rfl,rfl,rfl⟩
theorem workV_one (k : PWork) (a b : Option Addr) (n m c d : Nat) : ∀ v ∈ workV k (.slice a n c) (.slice b m d),v.oneCell' = true:=by
 simp [workV,Value.oneCell']
theorem ZBegin_calls (h : ZAt own z w L P) (i kind key value : Int) (sa : Option Addr) (sn sc : Nat) (spans : List (Int × Int)) (hsp : kind = 4->sn = spans.length/\PairsAt w sa spans/\∀ g,sa = some ⟨g,0,none⟩->(own g).z≠z) :
  Calls Tryz.prog 48 #[.pointer (some ⟨L.s,0,none⟩),.int .i64 i,opVal kind key value (.slice sa sn sc)] w fun e w'=>e = .returned (.int .i64 (P.begin i kind key value spans).2)/\ZGoes own z w L (P.begin i kind key value spans).1 w':=by
 have hF0 : Fr (fun _=>False) w (w.alloc (.cells #[.int .i64 kind,.int .i64 key,.int .i64 value,.slice sa sn sc] 53)):=(Fr.refl _ _).alloc _;have H:=(mkH (ZAt own z _ L P) <|h.calm hF0);have HO:=(mkH (At _ w.heap.size _ _) <|At.new w [.int .i64 kind,.int .i64 key,.int .i64 value,.slice sa sn sc] 53);have HF0:=(mkH (Fr (fun _=>False) w _) <|hF0);have HSP:=(mkH (kind = 4->_) <|hsp);clear h hF0 hsp;cases hI : isIn i 0 (P.ts.length - 1)
 ·have hE : Hid (P.begin i kind key value spans = (P,2)):=by show _ = _; simp [PSt.begin,hI]
  unfold opVal
  go_enter Tryz.func48,Tryz.ntmps48
  go_wp2_with fail;refine (ZhasThread_calls H.out i).mono ?_;rintro e w' ⟨rfl,rfl⟩;rw [hI];go_wp2;go_ret;rw [hE.out];exact ⟨rfl,ZGoes.calm HF0.out (ZGoes.here ⟨H.out,Fr.refl _ _⟩)⟩
 ·obtain ⟨h0,h1⟩:=isIn_iff.1 hI;obtain ⟨j,rfl⟩:=Int.eq_ofNat_of_zero_le h0;have hlt : j < P.ts.length:=by omega
  have ht : P.ts[j]? = some P.ts[j]:=List.getElem?_eq_getElem hlt;generalize P.ts[j] = t at ht;have hth : P.th j = t:=by simp [PSt.th,ht]
  obtain ⟨l,tb,cap,hl,htv,hptr⟩:=H.out.wkPtr ht;obtain ⟨ha,haz,hal,hs,hsz,hsl,n1,n2⟩:=H.out.view hl ht;have hfew:=H.out.few;have HT:=(mkH (At _ l.b _ _) <|(H.out.wk j l t hl ht).at_);have HL:=(mkH (L.wks[j]? = some l) <|hl);have Ht:=(mkH (P.ts[j]? = some t) <|ht);have hne : w.heap.size≠l.b:=HO.out.ne HT.out (by decide);have hoc:=HO.out.cell;simp only [PThread.cells,PSt.head,htv] at ha hs;clear hl ht h0 h1 hsz;cases hb : t.busy
  ·rw [hb] at ha;by_cases hky : checkOp kind key spans = 0
   rotate_left
   ·have hE : Hid (P.begin j kind key value spans = (P,checkOp kind key spans)):=by show _ = _; unfold PSt.begin; rw [hI,Int.toNat_natCast,hth,hb]; simp [hky]
    have hkn : (checkOp kind key spans == 0) = false:=by simpa using hky
    unfold opVal
    go_enter Tryz.func48,Tryz.ntmps48
    go_wp2_with fail;refine (ZhasThread_calls H.out j).mono ?_;rintro e w' ⟨rfl,rfl⟩;rw [hI];go_wp2_with fail;refine (checkOp_calls kind key value sa sn sc spans _ (fun h4=>⟨(HSP.out h4).1,(HSP.out h4).2.1.calm HF0.out⟩)).mono ?_;rintro e w1 ⟨rfl,hF⟩;have HF1:=(mkH (Fr (fun _=>False) w w1) <|HF0.out.trans hF);have H1:=(mkH (ZAt own z w1 L P) <|H.out.calm hF);clear hF ha hs hoc hptr haz;go_wp2;go_ret;rw [hE.out];exact ⟨rfl,ZGoes.calm HF1.out (ZGoes.here ⟨H1.out,Fr.refl _ _⟩)⟩
   ·have hE : Hid (P.begin j kind key value spans = (P.setT j { t with busy:=true,work:=newWork kind key value spans },0)):=by
     show _ = _; unfold PSt.begin; rw [hI,Int.toNat_natCast,hth,hb]; simp [hky]
    have HKY:=(mkH (checkOp kind key spans = 0) <|hky);unfold opVal
    go_enter Tryz.func48,Tryz.ntmps48
    go_wp2_with fail;refine (ZhasThread_calls H.out j).mono ?_;rintro e w' ⟨rfl,rfl⟩;rw [hI];go_wp2_with fail;refine (checkOp_calls kind key value sa sn sc spans _ (fun h4=>⟨(HSP.out h4).1,(HSP.out h4).2.1.calm HF0.out⟩)).mono ?_;rintro e w1 ⟨rfl,hF⟩;have HF1:=(mkH (Fr (fun _=>False) w w1) <|HF0.out.trans hF);have H1:=(mkH (ZAt own z w1 L P) <|H.out.calm hF);have HO1:=(mkH (At w1 w.heap.size _ _) <|hF.at HO.out (fun h=>h));rw [HKY.out];clear hF ha hs hoc hptr haz HO HT H HF0 hky;have HT1:=(mkH (At w1 l.b _ _) <|(H1.out.wk j l t HL.out Ht.out).at_);have ha:=HT1.out.cell;have haz:=HT1.out.frozen;have hoc:=HO1.out.cell;simp only [PThread.cells] at ha;go_wp2_with fail;have hP1 : kind = 4->sn = spans.length/\PairsAt (w1.setCell ⟨l.b,2,none⟩ (.bool true)) sa spans:=fun h4=>⟨(HSP.out h4).1,by
     intro q p hp;obtain ⟨g,e,c0,c1⟩:=((HSP.out h4).2.1.calm HF1.out) q p hp;have hg : g≠l.b:=by
      intro eg;apply (HSP.out h4).2.2 g e;rw [eg,(H1.out.wk j l t HL.out Ht.out).tg]
     have hF : Fr (fun k=>k = l.b) w1 (w1.setCell ⟨l.b,2,none⟩ (.bool true)):=(Fr.refl _ _).set1 _ _;exact ⟨g,e,hF.keepCellS c0 hg,hF.keepCellS c1 hg⟩⟩
    refine (newWork_calls kind key value sa sn sc spans _ HKY.out hP1).mono ?_;rintro e w2 ⟨sp,lk,rfl,hS,hL⟩;obtain ⟨s1,s2,rfl⟩:=ownsShape hS.row;obtain ⟨k1,k2,rfl⟩:=ownsShape hL.row;have hA2:=hS.fr.at (HT1.out.set 2 (.bool true)) (fun h=>h);have HA2:=(mkH (At w2 l.b _ _) <|hA2);have HF2:=(mkH (Fr (fun k=>k = l.b) w1 w2) <|((Fr.refl _ _).set1 _ _).trans (Fr.mono hS.fr (fun _ _ h=>h.elim)));have HS2:=(mkH (OwnSpans _ w2 _ _) <|hS);have HL2:=(mkH (OwnLinks _ w2 _ _) <|hL);clear hS hL hA2 ha haz hoc HT1 HO1 hP1;generalize hwc : workV (newWork kind key value spans) _ _ = vs;have hvl : vs.length = 20:=by rw [<- hwc]; rfl
    have hv1 : ∀ v ∈ vs,v.oneCell' = true:=by rw [<- hwc]; exact workV_one _ _ _ _ _ _ _
    have hws : ∀ w : World,(sizeOf 116).run Tryz.prog w = .ok vs.length w:=by rw [hvl]; exact work_size
    go_wp2_with (refine wpList_storeAgg w2 rfl _ _ 116 rfl l.b 3 vs rfl rfl hws _ _ HA2.out (by simp [PThread.cells,hvl]) hv1 ?_);go_ret;rw [hE.out];have hFb : Fr (fun k=>k = l.b) w2 (w2.setCells l.b 3 vs):=Fr.setCells (S:=fun k=>k = l.b) rfl _ _ _ (Fr.refl _ _);have hN:=newWork_rest kind key value spans;refine ⟨rfl,ZGoes.calm HF1.out (H1.out.wkBegin HL.out Ht.out (t':={ t with busy:=true,work:=newWork kind key value spans }) (w0:=w1.setCell ⟨l.b,2,none⟩ (.bool true)) (HF2.out.trans hFb) ?_ (by simp) (hFb.owns HS2.out.row (fun k hk e=>HA2.out.ne_row HS2.out.row (by decide) (by rw [<- e]; exact hk))) HS2.out.new hN.1 (hFb.owns HL2.out.row (fun k hk e=>HA2.out.ne_row HL2.out.row (by decide) (by rw [<- e]; exact hk))) HL2.out.new hN.2.1 hN.2.2 rfl)⟩;have hX:=At.setCells vs 3 w2 _ HA2.out;rw [<- hwc] at hX ⊢;simp only [workV,setAll,PThread.cells,List.set_cons_zero,List.set_cons_succ] at hX;simp only [PThread.cells];exact hX
  ·rw [hb] at ha;have hE : Hid (P.begin j kind key value spans = (P,3)):=by show _ = _; simp [PSt.begin,hI,hth,hb]
   unfold opVal
   go_enter Tryz.func48,Tryz.ntmps48
   go_wp2_with fail;refine (ZhasThread_calls H.out j).mono ?_;rintro e w' ⟨rfl,rfl⟩;rw [hI];go_wp2;go_ret;rw [hE.out];exact ⟨rfl,ZGoes.calm HF0.out (ZGoes.here ⟨H.out,Fr.refl _ _⟩)⟩
end
end
end Go.Proofs.YtfccelbmacjifabGreat
