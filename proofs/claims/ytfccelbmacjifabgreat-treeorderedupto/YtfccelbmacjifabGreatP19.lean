import Derived.Test.YtfccelbmacjifabGreatP0
import Derived.Test.YtfccelbmacjifabGreatP18
import Derived.Test.YtfccelbmacjifabGreatP17
import Derived.Test.YtfccelbmacjifabGreatP12
set_option linter.unusedSimpArgs false
set_option maxRecDepth 100000
set_option maxHeartbeats 4000000
namespace Go.Proofs.YtfccelbmacjifabGreat
section
open Go.RowKit
section
variable {own : Own} {z : Nat} {w : World} {L : ZLay} {P : PSt}
theorem update_calls (h : ZAt own z w L P) {i : Nat} {l : WLay} {t : PThread} (hl : L.wks[i]? = some l) (ht : P.ts[i]? = some t) (hU : PUpd P t.work) (hn : 4<=t.work.next/\t.work.next<=12) :
  Calls Tryz.prog 82 #[.pointer (some ⟨L.s,0,none⟩),.pointer (some ⟨l.b,0,none⟩)] w fun e w'=>e = .returned (.int .i64 (P.update i t.work).2)/\ZGoes own z w L (P.update i t.work).1 w':=by
 by_cases h1 : t.work.next = 10
 ·exact update_10 h hl ht h1
 ·by_cases h2 : t.work.next = 11
  ·exact update_11 h hl ht h2
  ·exact update_low h hl ht hU (by omega)
theorem makeStep_calls (h : ZAt own z w L P) {i : Nat} {l : WLay} {t : PThread} (hl : L.wks[i]? = some l) (ht : P.ts[i]? = some t) (hn : 1<=t.work.next/\t.work.next<=13) (rd : Bool) (hkd : (t.work.kind == 3 || t.work.kind == 4) = rd)
  (hU : 4<=t.work.next/\t.work.next<=12->Calls Tryz.prog (if rd then 81 else 82) #[.pointer (some ⟨L.s,0,none⟩),.pointer (some ⟨l.b,0,none⟩)] w fun e w'=>e = .returned (.int .i64 (P.step i t).2)/\ZGoes own z w L (P.step i t).1 w') :
  Calls Tryz.prog 67 #[.pointer (some ⟨L.s,0,none⟩),.pointer (some ⟨l.b,0,none⟩)] w fun e w'=>e = .returned (.int .i64 (P.step i t).2)/\ZGoes own z w L (P.step i t).1 w':=by
 obtain ⟨ha,haz,hal,hs,hsz,hsl,n1,n2⟩:=h.view hl ht;simp only [PThread.cells,PSt.head] at ha hs;have HT:=(mkH (At w l.b _ _) <|(h.wk i l t hl ht).at_);have H:=(mkH (ZAt own z w L P) <|h);have HL:=(mkH (L.wks[i]? = some l) <|hl);have Ht:=(mkH (P.ts[i]? = some t) <|ht);have HU:=(mkH (_->Calls _ _ _ _ _) <|hU);clear h hl ht hU hsz;by_cases c1 : t.work.next = 1
 ·have hE : Hid (P.step i t = (P.setT i { t with slot:=1,work:={ t.work with next:=2 } },1)):=by show _ = _; simp only [PSt.step,c1]
  rw [c1] at ha;clear c1 hn hkd hs
  go_enter Tryz.func67,Tryz.ntmps67
  go_wp2;go_ret;rw [hE.out];exact ⟨rfl,ZGoes.here (H.out.wkCells HL.out Ht.out (t':={ t with slot:=1,work:={ t.work with next:=2 } }) (((Fr.refl _ _).set1 _ _).set1 _ _) ((HT.out.set 1 _).set 7 _) rfl rfl rfl rfl rfl rfl)⟩
 ·by_cases c2 : t.work.next = 2
  ·have hE : Hid (P.step i t = (P.setT i { t with work:={ t.work with time:=P.clock,next:=3 } },1)):=by show _ = _; simp only [PSt.step,c2]
   rw [c2] at ha;clear c1 c2 hn hkd
   go_enter Tryz.func67,Tryz.ntmps67
   go_wp2;go_ret;rw [hE.out];exact ⟨rfl,ZGoes.here (H.out.wkCells HL.out Ht.out (t':={ t with work:={ t.work with time:=P.clock,next:=3 } }) (((Fr.refl _ _).set1 _ _).set1 _ _) ((HT.out.set 8 _).set 7 _) rfl rfl rfl rfl rfl rfl)⟩
  ·by_cases c3 : t.work.next = 3
   ·have hE : Hid (P.step i t = (P.setT i { t with slot:=2,work:=t.work.home },1)):=by show _ = _; simp only [PSt.step,c3]
    rw [c3] at ha;clear c1 c2 c3 hn hkd hs
    go_enter Tryz.func67,Tryz.ntmps67
    go_wp2_with fail;have R:=H.out.wkCells HL.out Ht.out (t':={ t with slot:=2 }) ((Fr.refl _ _).set1 _ _) (HT.out.set 1 (.int .i64 2)) rfl rfl rfl rfl rfl rfl;have Ht1:=(mkH (_ = some _) <|setT_get P Ht.out { t with slot:=2 });refine (beginWalk_calls R.1 HL.out Ht1.out).mono ?_;rintro e w1 ⟨rfl,hZ,hF⟩;have H1:=(mkH (ZAt own z w1 L _) <|hZ);have HF1:=(mkH (FrZ own z w w1) <|FrZ.trans R.2 (Ext.refl _ _) hF);clear hZ hF R ha haz;go_wp2;go_ret;rw [hE.out];have H1':=H1.out;rw [setT_setT] at H1';exact ⟨rfl,ZGoes.here ⟨H1',HF1.out⟩⟩
   ·by_cases c13 : t.work.next = 13
    ·have hE : Hid (P.step i t = (P.setT i t.leave,3)):=by show _ = _; simp only [PSt.step,c13]
     rw [c13] at ha;clear c1 c2 c3 c13 hn hkd hs
     go_enter Tryz.func67,Tryz.ntmps67
     go_wp2_with fail;refine (leave_calls H.out HL.out Ht.out).mono ?_;rintro e w1 ⟨rfl,hG⟩;have HG:=(mkH (ZGoes _ _ _ _ _ _) <|hG);clear hG ha haz;go_wp2;go_ret;rw [hE.out];exact ⟨rfl,HG.out⟩
    ·have q1 : ((t.work.next : Int) == 1) = false:=by simp; omega
     have q2 : ((t.work.next : Int) == 2) = false:=by simp; omega
     have q3 : ((t.work.next : Int) == 3) = false:=by simp; omega
     have q4 : ((t.work.next : Int) == 13) = false:=by simp; omega
     have hr : Hid ((t.work.kind == 3 || t.work.kind == 4) = rd):=hkd;have hn' : Hid (4<=t.work.next/\t.work.next<=12):=by show _/\_; omega
     clear c1 c2 c3 c13 hn hkd hs
     go_enter Tryz.func67,Tryz.ntmps67
     go_wp2_with fail;refine (isRead_calls t.work.kind _).mono ?_;rintro e w1 ⟨rfl,rfl⟩;rw [hr.out];cases rd
     all_goals
      go_wp2_with fail;refine Calls.mono (HU.out hn'.out) ?_;rintro e w1 ⟨rfl,hG⟩;have HG:=(mkH (ZGoes _ _ _ _ _ _) <|hG);clear hG ha haz;go_wp2;go_ret;exact ⟨rfl,HG.out⟩
theorem step_update {i : Nat} {t : PThread} (hkd : t.work.kind = 1\/t.work.kind = 2) (hn : 4<=t.work.next/\t.work.next<=12) : P.step i t = P.update i t.work:=by
 have hk : ¬ (t.work.kind = 3\/t.work.kind = 4):=by omega
 unfold PSt.step;split
 ·next h=>omega
 ·next h=>omega
 ·next h=>omega
 ·next h=>omega
 ·rw [if_neg hk]
theorem ZhasThread_calls (h : ZAt own z w L P) (i : Int) :
  Calls Tryz.prog 62 #[.pointer (some ⟨L.s,0,none⟩),.int .i64 i] w fun e w'=>e = .returned (.bool (isIn i 0 (P.ts.length - 1)))/\w' = w:=by
 obtain ⟨ta,tcap,htv,_⟩:=h.th.shape;have hc:=h.hd.cell;have hs:=h.few;simp only [PSt.head,htv] at hc;clear h;by_cases h1 : 0<=i
 ·by_cases h2 : i < P.ts.length
  ·go_enter Tryz.func62,Tryz.ntmps62
   go_wp2;go_ret;exact ⟨ret_bool (isIn_true (by omega)).symm,rfl⟩
  ·go_enter Tryz.func62,Tryz.ntmps62
   go_wp2;go_ret;exact ⟨ret_bool (isIn_false (by omega)).symm,rfl⟩
 ·go_enter Tryz.func62,Tryz.ntmps62
  go_wp2;go_ret;exact ⟨ret_bool (isIn_false (by omega)).symm,rfl⟩
theorem ZAt.wkPtr (h : ZAt own z w L P) {i : Nat} {t : PThread} (ht : P.ts[i]? = some t) : ∃ l tb cap,L.wks[i]? = some l/\L.tv = .slice (some ⟨tb,0,none⟩) P.ts.length cap/\w.cell? ⟨tb,i,none⟩ = some (.pointer (some ⟨l.b,0,none⟩)):=by
 have hi:=(List.getElem?_eq_some_iff.1 ht).1;have hb:=List.getElem?_eq_getElem (show i < L.wks.length by rw [h.wlen]; exact hi);obtain ⟨sb,cap,hv,_⟩:=ownsRow_shape h.th.row (by omega);have ho:=h.th.row;rw [hv] at ho;exact ⟨_,sb,cap,hb,hv,ownsRow_cell ho (by unfold wptrs; rw [List.getElem?_map,hb]; rfl)⟩
theorem ZStep_idle (h : ZAt own z w L P) {i : Nat} {t : PThread} (ht : P.ts[i]? = some t) (hb : t.busy = false) :
  Calls Tryz.prog 54 #[.pointer (some ⟨L.s,0,none⟩),.int .i64 i] w fun e w'=>e = .returned (.tuple #[.int .i64 0,.int .i64 4])/\w' = w:=by
 have hlt:=(List.getElem?_eq_some_iff.1 ht).1;have hI : Hid (isIn i 0 (P.ts.length - 1) = true):=isIn_true (by omega);obtain ⟨l,tb,cap,hl,htv,hptr⟩:=h.wkPtr ht;obtain ⟨ha,haz,hal,hs,hsz,hsl,n1,n2⟩:=h.view hl ht;have hf:=h.few;simp only [PThread.cells,PSt.head,hb,htv] at ha hs;have H:=(mkH (ZAt own z w L P) <|h);clear h ht hl
 go_enter Tryz.func54,Tryz.ntmps54
 go_wp2_with fail;refine (ZhasThread_calls H.out i).mono ?_;rintro e w' ⟨rfl,rfl⟩;rw [hI.out];go_wp2;go_ret2;exact ⟨rfl,rfl⟩
theorem ZStep_gen (h : ZAt own z w L P) {i : Nat} {t : PThread} (ht : P.ts[i]? = some t) (hb : t.busy = true) (hn : 1<=t.work.next/\t.work.next<=13) (rd : Bool) (hkd : (t.work.kind == 3 || t.work.kind == 4) = rd)
  (hU : ∀ l,L.wks[i]? = some l->4<=t.work.next/\t.work.next<=12->Calls Tryz.prog (if rd then 81 else 82) #[.pointer (some ⟨L.s,0,none⟩),.pointer (some ⟨l.b,0,none⟩)] w fun e w'=>e = .returned (.int .i64 (P.step i t).2)/\ZGoes own z w L (P.step i t).1 w') :
  Calls Tryz.prog 54 #[.pointer (some ⟨L.s,0,none⟩),.int .i64 i] w fun e w'=>e = .returned (.tuple #[.int .i64 (P.step i t).2,.int .i64 0])/\ZGoes own z w L (P.step i t).1 w':=by
 have hlt:=(List.getElem?_eq_some_iff.1 ht).1;have hI : Hid (isIn i 0 (P.ts.length - 1) = true):=isIn_true (by omega);obtain ⟨l,tb,cap,hl,htv,hptr⟩:=h.wkPtr ht;obtain ⟨ha,haz,hal,hs,hsz,hsl,n1,n2⟩:=h.view hl ht;have hf:=h.few;simp only [PThread.cells,PSt.head,hb,htv] at ha hs;have HC:=(mkH (Calls _ _ _ _ _) <|makeStep_calls h hl ht hn rd hkd (hU l hl));have H:=(mkH (ZAt own z w L P) <|h);clear h ht hl hU hn hkd
 go_enter Tryz.func54,Tryz.ntmps54
 go_wp2_with fail;refine (ZhasThread_calls H.out i).mono ?_;rintro e w' ⟨rfl,rfl⟩;rw [hI.out];go_wp2_with fail;refine Calls.mono HC.out ?_;rintro e w1 ⟨rfl,hG⟩;have HG:=(mkH (ZGoes _ _ _ _ _ _) <|hG);clear hG ha haz hs hsz hptr;go_wp2;go_ret2;exact ⟨rfl,HG.out⟩
theorem ZStep_busy (h : ZAt own z w L P) {i : Nat} {t : PThread} (ht : P.ts[i]? = some t) (hb : t.busy = true) (hU : PUpd P t.work) (hn : 1<=t.work.next/\t.work.next<=13) (hkd : t.work.kind = 1\/t.work.kind = 2) :
  Calls Tryz.prog 54 #[.pointer (some ⟨L.s,0,none⟩),.int .i64 i] w fun e w'=>e = .returned (.tuple #[.int .i64 (P.step i t).2,.int .i64 0])/\ZGoes own z w L (P.step i t).1 w' :=
 ZStep_gen h ht hb hn false (by rcases hkd with h | h <;> rw [h] <;> rfl) (fun l hl hn'=>by
  rw [step_update hkd hn'];exact update_calls h hl ht hU hn')
end
end
section
open Go.RowKit
section
variable {own : Own} {z : Nat} {w : World} {L : ZLay} {P : PSt}
def PSt.setS (P : PSt) (r : PSweep) : PSt:={ P with sweep:=r }
theorem ZAt.sweepSet (h : ZAt own z w L P) {w' : World} {own' : Own} {r : PSweep} {v : Value} (hf : Fr (fun k=>k = L.s) w w') (hE : Ext own own' w) (hA : At w' L.s ((P.setS r).head { L with retired:=v }) 109)
  (hr : Row own' z w' .gone 3 1 v r.retired.length (natCells r.retired)) : ZAt own' z w' { L with retired:=v } (P.setS r)/\FrZ own z w w':=by
 have hn : ∀ tag,tag≠Tag.store->∀ k,own k = ⟨z,tag⟩->¬ k = L.s:=by
  rintro tag hne k hk rfl; rw [h.hown] at hk; simp at hk; exact hne hk.symm
 have ht:=at_fr h.hd h.hown hf hE;refine ⟨⟨hA,?_,MAt.same h.mem hf (hn _ (by simp) _ h.mo) (hn _ (by simp) _ h.no) (hn _ (by simp) _ h.eo),?_,?_,?_,h.th.fr hf hE (hn _ (by simp)),h.wlen,
  fun i l t hl ht=>(h.wk i l t hl ht).fr hf hE (hn _ (by simp)) (fun k j=>hn _ (by simp) k) (hn _ (by simp)),hr,h.few⟩,?_⟩
 ·rw [hE _ h.hd.lt]; exact h.hown
 ·rw [hE _ h.mem.hd.lt]; exact h.mo
 ·rw [hE _ (ownsRow_lt0 h.mem.nodes)]; exact h.no
 ·rw [hE _ (ownsRow_lt0 h.mem.ents)]; exact h.eo
 ·refine Fr.mono hf ?_;rintro k _ rfl;rw [h.hown]
theorem ZAt.sweepCells (h : ZAt own z w L P) {w' : World} {r : PSweep} (hf : Fr (fun k=>k = L.s) w w') (hA : At w' L.s ((P.setS r).head L) 109) (hr : r.retired = P.sweep.retired) : ZAt own z w' L (P.setS r)/\FrZ own z w w':=by
 have hn : ∀ k,own k = ⟨z,.gone⟩->¬ k = L.s:=by
  rintro k hk rfl; rw [h.hown] at hk; simp at hk
 have:=h.sweepSet (v:=L.retired) hf (Ext.refl _ _) hA (by rw [hr]; exact h.ret.fr hf (Ext.refl _ _) hn)
 exact this
theorem beginSweep_calls (h : ZAt own z w L P) :
  Calls Tryz.prog 72 #[.pointer (some ⟨L.s,0,none⟩)] w fun e w'=>e = .returned (.tuple #[])/\ZGoes own z w L (P.setS { P.sweep with clock:=P.clock,retired:=retiredFrom P.mem.ns 0 }) w':=by
 have hs:=h.hd.cell;have hz:=h.hd.frozen;simp only [PSt.head] at hs;have hA1:=h.hd.set 6 (.int .i64 P.clock);have H1:=(show Hid _ from h.sweepCells (r:={ P.sweep with clock:=P.clock }) ((Fr.refl _ _).set1 6 (.int .i64 P.clock)) hA1 rfl);clear h hA1
 go_enter Tryz.func72,Tryz.ntmps72
 go_wp2_with fail;obtain ⟨w1,hw1⟩ : ∃ w1,w1 = w.setCell ⟨L.s,6,none⟩ (.int .i64 P.clock):=⟨_,rfl⟩;rw [<- hw1] at H1 ⊢;clear hw1 hs hz;refine (RetiredNodes_calls H1.out.1.mem).mono ?_;rintro e w2 ⟨a,n,c,rfl,hO⟩;have HO:=(mkH (OwnNats w1 w2 (.slice a n c) (retiredFrom P.mem.ns 0)) <|hO);have hs:=(H1.out.1.calm hO.fr).hd.cell;have hz:=(H1.out.1.calm hO.fr).hd.frozen;simp only [PSt.head,PSt.setS] at hs;clear hO;go_wp2
 go_end0
 refine ⟨rfl,?_⟩;have h2:=H1.out.1.calm HO.out.fr;obtain ⟨own',hE,ho⟩ : ∃ own' : Own,Ext own own' w1/\∀ k,(Value.slice a n c).ownBlock = some k->own' k = ⟨z,.gone⟩:=by
  refine ⟨fun k=>if (Value.slice a n c).ownBlock = some k then ⟨z,.gone⟩ else own k,?_,fun k hk=>by simp [hk]⟩;intro k hk;have : ¬ (Value.slice a n c).ownBlock = some k:=fun hh=>by have:=HO.out.new k hh; omega
  simp [this]
 have hrow : Row own' z w2 .gone 3 1 (.slice a n c) (retiredFrom P.mem.ns 0).length (natCells (retiredFrom P.mem.ns 0)):=⟨HO.out.row,ho⟩;have h1:=H1.out.1.fr HO.out.fr hE (fun _ _ h=>h);have hne : ∀ k,own' k = ⟨z,.gone⟩->¬ k = L.s:=by
  rintro k hk rfl; rw [h1.hown] at hk; simp at hk
 have h3:=h1.sweepSet (r:={ P.sweep with clock:=P.clock,retired:=retiredFrom P.mem.ns 0 }) (v:=.slice a n c) ((Fr.refl _ _).set1 7 (.slice a n c)) (Ext.refl _ _) (h1.hd.set 7 (.slice a n c)) (hrow.fr ((Fr.refl _ _).set1 7 (.slice a n c)) (Ext.refl _ _) hne);have hFz : FrZ own z w w2:=Fr.trans H1.out.2 (Fr.mono HO.out.fr (fun _ _ h=>h.elim));have hEw : Ext own own' w:=fun k hk=>hE k (Nat.lt_of_lt_of_le hk H1.out.2.size)
 exact ⟨own',{ L with retired:=.slice a n c },h3.1,hEw,FrZ.trans hFz hEw h3.2,rfl,rfl,rfl⟩
theorem lookAt_calls (h : ZAt own z w L P) {i : Nat} {l : WLay} {t : PThread} (hl : L.wks[i]? = some l) (ht : P.ts[i]? = some t) :
  Calls Tryz.prog 73 #[.pointer (some ⟨L.s,5,none⟩),.pointer (some ⟨l.b,0,none⟩)] w fun e w'=>e = .returned (.tuple #[])/\ZAt own z w' L (P.setS (P.sweep.lookAt t))/\FrZ own z w w':=by
 obtain ⟨ha,haz,hal,hs,hsz,hsl,n1,n2⟩:=h.view hl ht;simp only [PThread.cells,PSt.head] at ha hs;have H:=(mkH (∀ n,ZAt own z (w.drewN n) L P) <|fun n=>h.calm ((Fr.refl _ _).drewN n));have H0:=(mkH (ZAt own z w L P) <|h);have HFd:=(mkH (∀ n w',FrZ own z (w.drewN n) w'->FrZ own z w w') <|fun n w' hf=>Fr.trans ((Fr.refl _ _).drewN n) hf);clear h hl ht;by_cases h2 : t.slot = 2
 ·have h2' : (t.slot != 2) = false:=by simp [h2]
  cases hh : P.sweep.hasTime
  ·have HE : Hid (P.sweep.lookAt t = { P.sweep with time:=t.work.time,hasTime:=true }):=by
    show _ = _; unfold PSweep.lookAt; rw [if_pos h2,hh]; rfl
   rw [hh] at hs;have HR:=(mkH (∀ n,_) <|fun n=>(H.out n).sweepCells (r:={ P.sweep with time:=t.work.time,hasTime:=true }) (((Fr.refl _ _).set1 9 (.int .i64 t.work.time)).set1 8 (.bool true)) (((H.out n).hd.set 9 (.int .i64 t.work.time)).set 8 (.bool true)) rfl);clear h2
   go_enter Tryz.func73,Tryz.ntmps73
   go_wp2_with fail
   go_quiet (fail)
   go_wp2
   go_end0
   rw [HE.out];exact ⟨rfl,(HR.out _).1,HFd.out _ _ (HR.out _).2⟩
  ·rw [hh] at hs;by_cases hlt : t.work.time < P.sweep.time
   ·have HE : Hid (P.sweep.lookAt t = { P.sweep with time:=t.work.time,hasTime:=true }):=by
     show _ = _; unfold PSweep.lookAt; rw [if_pos h2,hh,decide_eq_true hlt]; rfl
    have HR:=(mkH (∀ n,_) <|fun n=>(H.out n).sweepCells (r:={ P.sweep with time:=t.work.time,hasTime:=true }) (((Fr.refl _ _).set1 9 (.int .i64 t.work.time)).set1 8 (.bool true)) (((H.out n).hd.set 9 (.int .i64 t.work.time)).set 8 (.bool true)) rfl);clear h2
    go_enter Tryz.func73,Tryz.ntmps73
    go_wp2_with fail
    go_quiet (fail)
    go_wp2
    go_end0
    rw [HE.out];exact ⟨rfl,(HR.out _).1,HFd.out _ _ (HR.out _).2⟩
   ·have HE : Hid (P.sweep.lookAt t = { P.sweep with hasTime:=true }):=by
     show _ = _; unfold PSweep.lookAt; rw [if_pos h2,hh,decide_eq_false hlt]; rfl
    have HR:=(mkH (∀ n,_) <|fun n=>(H.out n).sweepCells (r:={ P.sweep with hasTime:=true }) ((Fr.refl _ _).set1 8 (.bool true)) ((H.out n).hd.set 8 (.bool true)) rfl);clear h2
    go_enter Tryz.func73,Tryz.ntmps73
    go_wp2_with fail
    go_quiet (fail)
    go_wp2
    go_end0
    rw [HE.out];exact ⟨rfl,(HR.out _).1,HFd.out _ _ (HR.out _).2⟩
 ·have HE : Hid (P.sweep.lookAt t = P.sweep):=by
   show _ = _; unfold PSweep.lookAt; rw [if_neg h2]
  have h2' : (t.slot != 2) = true:=by simp [h2]
  go_enter Tryz.func73,Tryz.ntmps73
  go_wp2;refine bodyPost_ret (results_none rfl _ _ _) rfl ?_;rw [HE.out];exact ⟨rfl,H0.out,Fr.refl _ _⟩
def PSweep.till (r : PSweep) : Int:=if r.hasTime && decide (r.time < r.clock) then r.time else r.clock
theorem dropEntries_calls (h : ZAt own z w L P) :
  Calls Tryz.prog 74 #[.pointer (some ⟨L.s,0,none⟩)] w fun e w'=>e = .returned (.tuple #[])/\ZAt own z w' L (P.setM (P.mem.drop P.sweep.till))/\FrZ own z w w':=by
 have hs:=h.hd.cell;simp only [PSt.head] at hs;have H:=(mkH (ZAt own z w L P) <|h);clear h;cases hh : P.sweep.hasTime
 ·have HE : Hid (P.sweep.till = P.sweep.clock):=by show _ = _; unfold PSweep.till; rw [hh]; rfl
  rw [hh] at hs
  go_enter Tryz.func74,Tryz.ntmps74
  go_wp2_with fail;refine (Drop_calls H.out.mem _).mono ?_;rintro e w1 ⟨rfl,hM,hF⟩;have HR:=(show Hid _ from H.out.memSet hM hF);clear hM hF hs;go_wp2
  go_end0
  rw [HE.out];exact ⟨rfl,HR.out⟩
 ·rw [hh] at hs;by_cases hlt : P.sweep.time < P.sweep.clock
  ·have HE : Hid (P.sweep.till = P.sweep.time):=by show _ = _; unfold PSweep.till; rw [hh,decide_eq_true hlt]; rfl
   go_enter Tryz.func74,Tryz.ntmps74
   go_wp2_with fail;refine (Drop_calls H.out.mem _).mono ?_;rintro e w1 ⟨rfl,hM,hF⟩;have HR:=(show Hid _ from H.out.memSet hM hF);clear hM hF hs;go_wp2
   go_end0
   rw [HE.out];exact ⟨rfl,HR.out⟩
  ·have HE : Hid (P.sweep.till = P.sweep.clock):=by show _ = _; unfold PSweep.till; rw [hh,decide_eq_false hlt]; rfl
   go_enter Tryz.func74,Tryz.ntmps74
   go_wp2_with fail;refine (Drop_calls H.out.mem _).mono ?_;rintro e w1 ⟨rfl,hM,hF⟩;have HR:=(show Hid _ from H.out.memSet hM hF);clear hM hF hs;go_wp2
   go_end0
   rw [HE.out];exact ⟨rfl,HR.out⟩
theorem frees_app (ht : Bool) (t : Int) (n : Nat) : ∀ (l : List Nat) (M : PMem),M.freesIf ht t (l ++ [n]) = (if !ht || decide (((M.freesIf ht t l).node n).retiredAt < t) then (M.freesIf ht t l).free n else M.freesIf ht t l)
 | [],M=>rfl
 | k :: r,M=>by rw [List.cons_append,PMem.freesIf,PMem.freesIf,frees_app ht t n r]
theorem frees_take {L : List Nat} {k n : Nat} (h : L[k]? = some n) (ht : Bool) (t : Int) (M : PMem) : M.freesIf ht t (L.take (k + 1)) = (if !ht || decide (((M.freesIf ht t (L.take k)).node n).retiredAt < t) then (M.freesIf ht t (L.take k)).free n else M.freesIf ht t (L.take k)):=by
 rw [List.take_add_one,h,Option.toList_some,frees_app]
theorem nat_get {L : List Nat} {k n : Nat} (h : L[k]? = some n) : (natCells L)[k]? = some (.int .i64 n):=by simp [natCells,h]
theorem freeNodes_calls (h : ZAt own z w L P) (hfew : P.sweep.retired.length<=100) :
  Calls Tryz.prog 75 #[.pointer (some ⟨L.s,0,none⟩)] w fun e w'=>e = .returned (.tuple #[])/\ZAt own z w' L (P.setM (P.mem.freesIf P.sweep.hasTime P.sweep.time P.sweep.retired))/\FrZ own z w w':=by
 have hs:=h.hd.cell;obtain ⟨a,c,hv⟩ : ∃ a c,L.retired = .slice a P.sweep.retired.length c:=by
  rcases h.ret.row.2 with ⟨h1,h2⟩ | ⟨g,cap,_,h1,_⟩
  ·exact ⟨none,0,by rw [h1,h2]⟩
  ·exact ⟨_,cap,h1⟩
 simp only [PSt.head,hv] at hs;have H:=(mkH (ZAt own z w L P) <|h);have HV:=(mkH (L.retired = .slice a P.sweep.retired.length c) <|hv);clear h hv
 go_enter Tryz.func75,Tryz.ntmps75
 go_wp2;clear hs
 go_loopw [10] (fun i wr=>∃ k : Nat,k<=P.sweep.retired.length/\i = .int .i64 k/\∃ M,Hid (M = P.mem.freesIf P.sweep.hasTime P.sweep.time (P.sweep.retired.take k))/\Hid (ZAt own z wr L (P.setM M)/\FrZ own z w wr)) (fun i _=>P.sweep.retired.length - (intOf i).toNat)
 case atStart=>exact ⟨0,Nat.zero_le _,rfl,P.mem,rfl,H.out,Fr.refl _ _⟩
 case round =>
  clear H;obtain ⟨k,hk,rfl,M,HM,HZ⟩:=hrel;have hs:=HZ.out.1.hd.cell;simp only [PSt.head,PSt.setM,HV.out] at hs;by_cases hlt : k < P.sweep.retired.length
  ·have hx : Hid (P.sweep.retired[k]? = some P.sweep.retired[k]):=List.getElem?_eq_getElem hlt;generalize P.sweep.retired[k] = n at hx;have HT:=(show Hid _ from frees_take hx.out P.sweep.hasTime P.sweep.time P.mem);rw [<- HM.out] at HT;obtain ⟨g,cap,hg,_⟩:=ownsRow_shape HZ.out.1.ret.row (by show P.sweep.retired.length≠0; omega);have hgc : wr.cell? ⟨g,k,none⟩ = some (.int .i64 n):=by
    have ho:=HZ.out.1.ret.row;rw [hg] at ho;exact ownsRow_cell ho (nat_get hx.out)
   have hga : a = some ⟨g,0,none⟩:=by
    have:=HV.out
    rw [hg] at this;simp at this;exact this.1.symm
   subst hga;clear hx hg;cases hh : P.sweep.hasTime
   ·rw [hh] at hs;have HT' : Hid (P.mem.freesIf P.sweep.hasTime P.sweep.time (P.sweep.retired.take (k + 1)) = M.free n):=by
     show _ = _; rw [HT.out,hh]; rfl
    go_wp2_with fail
    go_quiet (fail)
    go_wp2_with fail;refine (Free_calls (HZ.out.1.calm ((Fr.refl _ _).drewN _)).mem _).mono ?_;rintro e w1 ⟨rfl,hM1,hF1⟩;have HR:=(show Hid _ from (HZ.out.1.calm ((Fr.refl _ _).drewN _)).memSet hM1 hF1);have HFR:=(mkH (FrZ own z w w1) <|Fr.trans (Fr.trans HZ.out.2 ((Fr.refl _ _).drewN _)) HR.out.2);clear hM1 hF1 hs hgc;go_wp2
    go_roundw
    case rel=>exact ⟨k + 1,by omega,by go_num,M.free n,by show _ = _; rw [<- hh]; exact HT'.out.symm,HR.out.1,HFR.out⟩
    case measure=>simp [intOf]; omega
   ·rw [hh] at hs;have HB:=(mkH (At wr L.s _ 109) <|HZ.out.1.hd);have hcmp : ∃ b,decide ((M.node n).retiredAt < P.sweep.time) = b:=⟨_,rfl⟩;obtain ⟨b,hcmp⟩:=hcmp;have HT' : Hid (P.mem.freesIf P.sweep.hasTime P.sweep.time (P.sweep.retired.take (k + 1)) = if b then M.free n else M):=by
     show _ = _; rw [HT.out,hh]; simp only [Bool.not_true,Bool.false_or,hcmp]
    go_wp2_with fail;refine wp_region_calm [12] 0 rfl (by kernel_rfl) (by kernel_rfl) (by kernel_rfl) (by decide) (by kernel_rfl) (by decide) ?_;intro U W hU hW;have hsu : ∀ u o,(W u).cell? ⟨L.s,o,none⟩ = (({ kind:=P.kind,limit:=P.limit,clock:=P.clock,mem:=M,ts:=P.ts,sweep:=P.sweep } : PSt).head L)[o]?:=fun u=>((hW u).at HB.out (fun h=>h)).cell
    simp only [PSt.head,HV.out,hh] at hsu;have hfd:=field_retiredAt (M.node n);clear hW hs
    repeat (refine mix_read rfl rfl ?_; go_big_quiet_step (fail); refine wpQuiet_nil ?_)
    refine mix_effG (nodeVal (M.node n)) rfl rfl (by rfl) ?_ ?_
    ·intro w' hw';go_simp;refine (Node_calls (HZ.out.1.calm hw').mem n).mono ?_;rintro e w'' ⟨rfl,hF⟩;exact ⟨rfl,hw'.trans hF⟩
    go_simp
    repeat (refine mix_read rfl rfl ?_; go_big_quiet_step (fail); refine wpQuiet_nil ?_)
    refine mix_nil ?_;intro w2 hw2;have HZ2:=(mkH (ZAt own z w2 L (P.setM M)) <|HZ.out.1.calm hw2);have HF2:=(mkH (FrZ own z w w2) <|Fr.trans HZ.out.2 (Fr.mono hw2 (fun _ _ h=>h.elim)));have hs:=HZ2.out.hd.cell;simp only [PSt.head,PSt.setM,HV.out] at hs;clear hw2 hsu hfd hgc HB;cases b
    ·go_wp2
     go_roundw
     case rel=>exact ⟨k + 1,by omega,by go_num,M,by show _ = _; rw [<- hh]; exact HT'.out.symm,HZ2.out,HF2.out⟩
     case measure=>simp [intOf]; omega
    ·go_wp2_with fail;refine (Free_calls HZ2.out.mem _).mono ?_;rintro e w3 ⟨rfl,hM1,hF1⟩;have HR:=(show Hid _ from HZ2.out.memSet hM1 hF1);have HFR:=(mkH (FrZ own z w w3) <|Fr.trans HF2.out HR.out.2);clear hM1 hF1 hs;go_wp2
     go_roundw
     case rel=>exact ⟨k + 1,by omega,by go_num,M.free n,by show _ = _; rw [<- hh]; exact HT'.out.symm,HR.out.1,HFR.out⟩
     case measure=>simp [intOf]; omega
  ·have hk' : k = P.sweep.retired.length:=by omega
   have HM' : Hid (M = P.mem.freesIf P.sweep.hasTime P.sweep.time P.sweep.retired):=by
    show _ = _; rw [HM.out,hk',List.take_length]
   clear hk';go_wp2
   go_end0
   refine ⟨rfl,?_⟩;rw [<- HM'.out];exact HZ.out
end
end
section
open Go.RowKit
section
variable {own : Own} {z : Nat} {w : World} {L : ZLay} {P : PSt}
theorem linkToFollow_calls (h : ZAt own z w L P) {i : Nat} {l : WLay} {t : PThread} (hl : L.wks[i]? = some l) (ht : P.ts[i]? = some t) :
  Calls Tryz.prog 91 #[.pointer (some ⟨L.s,0,none⟩),.pointer (some ⟨l.b,0,none⟩)] w fun e w'=>e = .returned (lnk (P.linkNext t.work).1 (P.linkNext t.work).2)/\Fr (fun _=>False) w w':=by
 have hF0 : Fr (fun _=>False) w (w.alloc (.cells #[.int .i64 0,.int .i64 0] 113)):=(Fr.refl _ _).alloc _;have HA:=(mkH (At _ w.heap.size _ _) <|At.new w [.int .i64 0,.int .i64 0] 113);have H:=(mkH (ZAt own z _ L P) <|h.calm hF0);have HF0:=(mkH (Fr _ _ _) <|hF0);have HL:=(mkH (L.wks[i]? = some l) <|hl);have Ht:=(mkH (P.ts[i]? = some t) <|ht);have HLK:=(mkH (Row own z w (.tr i 2) 113 2 l.links t.work.links.length (t.work.links.flatMap linkCells)) <|(h.wk i l t hl ht).links);clear h hl ht hF0;obtain ⟨ha,haz,hal,hs,hsz,hsl,n1,n2⟩:=H.out.view HL.out Ht.out;have HT:=(mkH (At _ l.b _ _) <|(H.out.wk i l t HL.out Ht.out).at_);simp only [PThread.cells] at ha;clear haz hsz;obtain ⟨la,lc,hlv,_⟩:=HLK.out.shape;rw [hlv] at ha;cases hlk : t.work.links with
 | nil =>
  have HN : Hid (P.linkNext t.work = (t.work.stand,P.mem.sideFor t.work.stand t.work.key)):=by show _ = _; unfold PSt.linkNext; rw [hlk]
  rw [hlk] at ha;simp only [List.length_nil] at ha;clear hs
  go_enter Tryz.func91,Tryz.ntmps91
  go_wp2_with fail;generalize w.alloc _ = w1 at HA H HT HF0 ha hsl hal ⊢;refine wp_region_calmstore 14 15 (fun w'=>∃ w2,Fr (fun _=>False) w1 w2/\w' = (w2.setCell ⟨w.heap.size,0,none⟩ (.int .i64 t.work.stand)).setCell ⟨w.heap.size,1,none⟩ (.int .i64 (b2i (P.mem.sideFor t.work.stand t.work.key)))) (by kernel_rfl) (by kernel_rfl) (by kernel_rfl) (by decide) (by kernel_rfl) (by kernel_rfl) (by decide) ?_;intro U W hU hW;have hau : ∀ u o,(W u).cell? ⟨L.s,o,none⟩ = (P.head L)[o]?:=fun u=>((H.out).calm (hW u)).hd.cell
  have hlu : ∀ u o,(W u).cell? ⟨l.b,o,none⟩ = (t.cells i l)[o]?:=fun u=>(((H.out).calm (hW u)).wk i l t HL.out Ht.out).at_.cell
  simp only [PSt.head] at hau;simp only [PThread.cells] at hlu;clear hW
  repeat (refine mix_read rfl rfl ?_; go_big_quiet_step (fail); refine wpQuiet_nil ?_)
  refine mix_effC (lnk t.work.stand (P.mem.sideFor t.work.stand t.work.key)) rfl rfl rfl ?_ ?_
  ·intro w' hw';have hw0:=hw'.1 (by decide);go_simp;refine (LinkFor_calls (H.out.calm hw0).mem t.work.stand t.work.key).mono ?_;rintro e w'' ⟨rfl,hF⟩;exact ⟨rfl,hw0.trans hF⟩
  unfold lnk;go_simp;refine mix_effC undef rfl rfl rfl ?_ ?_
  ·intro w' hw';have hw0:=hw'.1 (by decide);have hA:=hw0.at HA.out (fun h=>h);have hc:=hA.cell;have hf:=hA.frozen;clear hau hlu;go_simp;exact ⟨rfl,w',hw0,rfl⟩
  go_simp;refine mix_nil ?_;intro w5 w4 hF4 hw5;have hA4:=hF4.at HA.out (fun h=>h);have f0:=((hA4.set 0 (.int .i64 t.work.stand)).set 1 (.int .i64 (b2i (P.mem.sideFor t.work.stand t.work.key)))).cell;subst hw5;clear hau hlu;go_wp2;rw [HN.out];refine bodyPost_ret (v:=lnk t.work.stand (P.mem.sideFor t.work.stand t.work.key)) (by simp [results,Tryz.results91,go_sem,lnk,f0]) rfl ⟨rfl,?_⟩;exact Fr.setNew (Nat.le_refl _) (Fr.setNew (Nat.le_refl _) (HF0.out.trans hF4) _ _) _ _
 | cons p r =>
  have HN : Hid (P.linkNext t.work = p):=by show _ = _; unfold PSt.linkNext; rw [hlk]
  have hrow:=(H.out.wk i l t HL.out Ht.out).links.row;rw [hlv,hlk] at hrow;rw [hlk] at ha;simp only [List.length_cons] at ha hrow;obtain ⟨g,cap,hg,_⟩:=ownsRow_shape hrow (by simp);obtain ⟨rfl,rfl⟩ : la = some ⟨g,0,none⟩/\lc = cap:=by simpa using hg
  have c0:=ownsRow_cell hrow (o:=0) (u:=.int .i64 p.1) rfl;have c1:=ownsRow_cell hrow (o:=1) (u:=.int .i64 (b2i p.2)) rfl;have hac:=HA.out.cell;have haz:=HA.out.frozen;clear hs hg hrow
  go_enter Tryz.func91,Tryz.ntmps91
  go_wp2;rw [HN.out];refine bodyPost_ret (v:=lnk p.1 p.2) (by simp [results,Tryz.results91,go_sem,lnk]) rfl ⟨rfl,?_⟩
  repeat (with_reducible first | refine Fr.setNew (Nat.le_refl _) ?_ _ _ | refine Fr.alloc ?_ _ | exact Fr.refl _ _)
def ansV (a : BAns) (sp : Value) : Value:=.agg #[.int .i64 a.err,.bool a.did,.int .i64 a.value,.int .i64 a.stamp,sp]
theorem ZAt.wkAns2 (h : ZAt own z w L P) {w' : World} {i : Nat} {l : WLay} {t t' : PThread} {sp : Value} (hl : L.wks[i]? = some l) (ht : P.ts[i]? = some t) (hf : Fr (fun k=>k = l.b) w w') (hA : At w' l.b (t'.cells i { l with aspans:=sp }) 118)
  (e1 : t'.work.spans = t.work.spans) (e2 : t'.work.made = t.work.made) (e3 : t'.work.links = t.work.links) (e4 : t'.work.noted = t.work.noted) (e6 : ListsAt own z w sp t'.work.ans.spans) (e7 : t'.last.spans = t.last.spans) :
  ZGoes own z w L (P.setT i t') w':=by
 have hT:=h.wk i l t hl ht;have hF : FrT own z (fun t=>t = .thread i\/∃ k,t = .tr i k) w w':=FrT.one hf hT.tg (.inl rfl);have hn : ∀ tag,tag≠Tag.thread i->∀ k,own k = ⟨z,tag⟩->¬ k = l.b:=by
  rintro tag hne k hk rfl; rw [hT.tg] at hk; simp at hk; exact hne hk.symm
 have hE:=Ext.refl own w;refine ⟨own,{ L with wks:=L.wks.set i { l with aspans:=sp } },h.wkSet hl rfl hF hE ⟨hA,hT.tg,?_,?_,?_,?_,?_,?_⟩,hE,hF.zone,rfl,rfl,?_⟩
 ·rw [e1]; exact hT.spans.fr hf hE (hn _ (by simp))
 ·rw [e2]; exact hT.made.fr hf hE (hn _ (by simp))
 ·rw [e3]; exact hT.links.fr hf hE (hn _ (by simp))
 ·rw [e4]; exact hT.noted.fr hf hE (hn _ (by simp))
 ·exact e6.fr hf hE (hn _ (by simp))
 ·rw [e7]; exact hT.llists.fr hf hE (hn _ (by simp))
 ·show (L.wks.set i { l with aspans:=sp }).map (·.b) = _;rw [List.map_set];exact setL_same (by simp [hl])
theorem conclude_calls (h : ZAt own z w L P) {i : Nat} {l : WLay} {t : PThread} (hl : L.wks[i]? = some l) (ht : P.ts[i]? = some t) (a : BAns) (sa : Option Addr) (sn sc : Nat) (hsp : ListsAt own z w (.slice sa sn sc) a.spans) :
  Calls Tryz.prog 111 #[.pointer (some ⟨l.b,0,none⟩),ansV a (.slice sa sn sc)] w fun e w'=>e = .returned (.tuple #[])/\ZGoes own z w L (P.setT i { t with work:=t.work.conclude a }) w':=by
 have hF0 : Fr (fun _=>False) w (w.alloc (.cells #[.int .i64 a.err,.bool a.did,.int .i64 a.value,.int .i64 a.stamp,.slice sa sn sc] 69)):=(Fr.refl _ _).alloc _;have HA:=(mkH (At _ w.heap.size _ _) <|At.new w [.int .i64 a.err,.bool a.did,.int .i64 a.value,.int .i64 a.stamp,.slice sa sn sc] 69);have H:=(mkH (ZAt own z _ L P) <|h.calm hF0);have HSP:=(mkH (ListsAt own z _ (.slice sa sn sc) a.spans) <|hsp.fr hF0 (Ext.refl _ _) (fun _ _ h=>h));have HF0:=(mkH (Fr _ _ _) <|hF0);have HL:=(mkH (L.wks[i]? = some l) <|hl);have Ht:=(mkH (P.ts[i]? = some t) <|ht);clear h hl ht hF0 hsp;obtain ⟨ha,haz,hal,hs,hsz,hsl,n1,n2⟩:=H.out.view HL.out Ht.out;have HT:=(mkH (At _ l.b _ _) <|(H.out.wk i l t HL.out Ht.out).at_);have hac:=HA.out.cell;have hne : w.heap.size≠l.b:=(HA.out).ne (HT.out) (by decide);have hne':=hne.symm;simp only [PThread.cells] at ha;clear hs hsz;unfold ansV
 go_enter Tryz.func111,Tryz.ntmps111
 go_wp2
 go_end0
 refine ⟨rfl,ZGoes.calm HF0.out (H.out.wkAns2 HL.out Ht.out (t':={ t with work:=t.work.conclude a }) ?_ ((((((HT.out.set 18 _).set 19 _).set 20 _).set 21 _).set 22 _).set 7 _) rfl rfl rfl rfl HSP.out rfl)⟩
 repeat (with_reducible first | refine Fr.set1 ?_ _ _ | exact Fr.refl _ _)
end
end
section
open Go.RowKit
section
variable {own : Own} {z : Nat} {w : World} {L : ZLay} {P : PSt}
theorem lookUp_calls (h : ZAt own z w L P) {i : Nat} {l : WLay} {t : PThread} (hl : L.wks[i]? = some l) (ht : P.ts[i]? = some t) (n : Int) :
  Calls Tryz.prog 94 #[.pointer (some ⟨L.s,0,none⟩),.pointer (some ⟨l.b,0,none⟩),.int .i64 n] w fun e w'=>e = .returned (.tuple #[])/\ZGoes own z w L (P.setT i { t with work:=P.lookUp t.work n }) w':=by
 obtain ⟨ha,haz,hal,hs,hsz,hsl,n1,n2⟩:=h.view hl ht;simp only [PThread.cells] at ha;simp only [PSt.head] at hs;have H:=(mkH (ZAt own z w L P) <|h);have HL:=(mkH (L.wks[i]? = some l) <|hl);have Ht:=(mkH (P.ts[i]? = some t) <|ht);clear h hl ht hsz haz
 go_enter Tryz.func94,Tryz.ntmps94
 go_wp2_with fail;refine (isPassed_calls H.out n t.work.key).mono ?_;rintro e w1 ⟨rfl,hF1⟩;have H1:=(mkH (ZAt own z w1 L P) <|H.out.calm hF1);have HF1:=(mkH (Fr _ w w1) <|hF1);clear hF1 H ha hs hal hsl;obtain ⟨ha,haz,hal,hs,hsz,hsl,_,_⟩:=H1.out.view HL.out Ht.out;have HT:=(mkH (At w1 l.b _ _) <|(H1.out.wk i l t HL.out Ht.out).at_);simp only [PThread.cells] at ha;simp only [PSt.head] at hs;cases hp : P.isPassed n t.work.key
 ·have HN : Hid (P.lookUp t.work n = t.work.conclude (if (P.mem.node n).key = t.work.key then { stamp:=t.work.time,did:=true,value:=(P.mem.node n).value } else { stamp:=t.work.time })):=by
   show _ = _; unfold PSt.lookUp; rw [hp]; rfl
  go_wp2_with fail;refine (Node_calls H1.out.mem n).mono ?_;rintro e w2 ⟨rfl,hF2⟩;have H2:=(mkH (ZAt own z w2 L P) <|H1.out.calm hF2);have HF2:=(mkH (Fr _ w w2) <|HF1.out.trans hF2);clear hF2 H1 HF1 ha hs hal hsl haz hsz HT;obtain ⟨ha,haz,hal,hs,hsz,hsl,_,_⟩:=H2.out.view HL.out Ht.out;simp only [PThread.cells] at ha;clear hs hsz;unfold nodeVal;generalize P.mem.node n = x at HN ⊢;go_wp2_with fail
  go_quiet (fail)
  cases hk : (x.key == t.work.key)
  ·have HE : Hid (P.lookUp t.work n = t.work.conclude { stamp:=t.work.time }):=by
    show _ = _;rw [HN.out,if_neg (by simpa using hk)]
   go_wp2_with fail;generalize hw3 : (World.drewN _ _) = w3;have hF3 : Fr (fun _=>False) w2 w3:=by
    subst hw3
    repeat (with_reducible first | refine Fr.drewN ?_ _ | refine Fr.alloc ?_ _ | exact Fr.refl _ _)
   refine (conclude_calls (H2.out.calm hF3) HL.out Ht.out { stamp:=t.work.time } none 0 0 (ListsAt.none _ _ _)).mono ?_;rintro e w4 ⟨rfl,hZ⟩;have HZ:=(mkH (ZGoes own z w L _ w4) <|ZGoes.calm (HF2.out.trans hF3) hZ);clear hZ hF3;go_wp2
   go_end0
   rw [HE.out];exact ⟨rfl,HZ.out⟩
  ·have HE : Hid (P.lookUp t.work n = t.work.conclude { stamp:=t.work.time,did:=true,value:=x.value }):=by
    show _ = _;rw [HN.out,if_pos (by simpa using hk)]
   go_wp2_with fail;generalize hw3 : World.setCell _ ⟨w2.heap.size + 1,2,none⟩ _ = w3;have hF3 : Fr (fun _=>False) w2 w3:=by
    subst hw3
    repeat (with_reducible first | refine Fr.setNew (by omega) ?_ _ _ | refine Fr.drewN ?_ _ | refine Fr.alloc ?_ _ | exact Fr.refl _ _)
   refine (conclude_calls (H2.out.calm hF3) HL.out Ht.out { stamp:=t.work.time,did:=true,value:=x.value } none 0 0 (ListsAt.none _ _ _)).mono ?_;rintro e w4 ⟨rfl,hZ⟩;have HZ:=(mkH (ZGoes own z w L _ w4) <|ZGoes.calm (HF2.out.trans hF3) hZ);clear hZ hF3;go_wp2
   go_end0
   rw [HE.out];exact ⟨rfl,HZ.out⟩
 ·have HN : Hid (P.lookUp t.work n = { t.work with stand:=n }):=by
   show _ = _; unfold PSt.lookUp; rw [hp]; rfl
  clear hs hsz;go_wp2;refine bodyPost_ret (results_none rfl _ _ _) rfl ?_;rw [HN.out];exact ⟨rfl,ZGoes.calm HF1.out (ZGoes.here (H1.out.wkCells HL.out Ht.out (t':={ t with work:={ t.work with stand:=n } }) ((Fr.refl _ _).set1 _ _) (HT.out.set 9 _) rfl rfl rfl rfl rfl rfl))⟩
theorem foldl_take {α β : Type} {es : List α} {k : Nat} {x : α} (h : es[k]? = some x) (g : β->α->β) (p : β) : (es.take (k + 1)).foldl g p = g ((es.take k).foldl g p) x:=by
 rw [List.take_add_one,h,List.foldl_append]; rfl
theorem pair_get {ps : List (Int × Int)} {i : Nat} {p : Int × Int} (h : ps[i]? = some p) : (ps.flatMap pairCells)[i * 2]? = some (.int .i64 p.1)/\(ps.flatMap pairCells)[i * 2 + 1]? = some (.int .i64 p.2):=by
 have h0:=tab_get pairCells 2 (fun _=>rfl) ps i 0 p h (by omega);have h1:=tab_get pairCells 2 (fun _=>rfl) ps i 1 p h (by omega);exact ⟨by simpa [pairCells] using h0,by simpa [pairCells] using h1⟩
theorem leastLo_calls (w : World) (a : Option Addr) (c : Nat) (ps : List (Int × Int)) (hsm : ps.length<=2 ^ 40)
  (ha : ∀ (i : Nat) p,ps[i]? = some p->∃ g,a = some ⟨g,0,none⟩/\w.cell? ⟨g,i * 2,none⟩ = some (.int .i64 p.1)/\w.cell? ⟨g,i * 2 + 1,none⟩ = some (.int .i64 p.2)) :
  Calls Tryz.prog 112 #[.slice a ps.length c] w fun r w'=>r = .returned (.int .i64 (leastLo ps))/\w' = w:=by
 have HA:=(mkH (∀ (i : Nat) p,_) <|ha);clear ha
 go_enter Tryz.func112,Tryz.ntmps112
 go_wp2
 go_loopw [3,7] (fun m i wr=>∃ k : Nat,k<=ps.length/\i = .int .i64 k/\∃ q : Int,m = .int .i64 q/\Hid ((ps.take k).foldl (fun m (p : Int × Int)=>if p.1 < m then p.1 else m) (2 ^ 40) = q)/\Hid (wr = w)) (fun _ i _=>ps.length - (intOf i).toNat)
 case atStart=>exact ⟨0,Nat.zero_le _,rfl,1099511627776,rfl,rfl,rfl⟩
 case round =>
  obtain ⟨k,hk,rfl,q,rfl,HE,HW⟩:=hrel;obtain rfl:=HW.out;by_cases hlt : k < ps.length
  ·have hx : Hid (ps[k]? = some ps[k]):=List.getElem?_eq_getElem hlt;generalize ps[k] = x at hx;obtain ⟨g,rfl,c0,c1⟩:=HA.out k x hx.out;have HN:=(show Hid _ from foldl_take hx.out (fun m (p : Int × Int)=>if p.1 < m then p.1 else m) (2 ^ 40));by_cases h1 : x.1 < q
   ·go_wp2
    go_roundw
    case rel=>exact ⟨k + 1,by omega,by go_num,x.1,rfl,by show List.foldl _ _ _ = _; rw [HN.out,HE.out,if_pos h1],by first | rfl | (show True; trivial)⟩
    case measure=>simp [intOf]; omega
   ·go_wp2
    go_roundw
    case rel=>exact ⟨k + 1,by omega,by go_num,q,rfl,by show List.foldl _ _ _ = _; rw [HN.out,HE.out,if_neg (by omega)],by first | rfl | (show True; trivial)⟩
    case measure=>simp [intOf]; omega
  ·have hke : k = ps.length:=by omega
   have HF : Hid (leastLo ps = q):=by
    have:=HE.out
    rw [hke,List.take_length] at this;exact this
   clear HE hke;go_wp2;go_ret;exact ⟨ret_int HF.out.symm,rfl⟩
theorem greatestHi_calls (w : World) (a : Option Addr) (c : Nat) (ps : List (Int × Int)) (hsm : ps.length<=2 ^ 40)
  (ha : ∀ (i : Nat) p,ps[i]? = some p->∃ g,a = some ⟨g,0,none⟩/\w.cell? ⟨g,i * 2,none⟩ = some (.int .i64 p.1)/\w.cell? ⟨g,i * 2 + 1,none⟩ = some (.int .i64 p.2)) :
  Calls Tryz.prog 113 #[.slice a ps.length c] w fun r w'=>r = .returned (.int .i64 (greatestHi ps))/\w' = w:=by
 have HA:=(mkH (∀ (i : Nat) p,_) <|ha);clear ha
 go_enter Tryz.func113,Tryz.ntmps113
 go_wp2
 go_loopw [3,7] (fun m i wr=>∃ k : Nat,k<=ps.length/\i = .int .i64 k/\∃ q : Int,m = .int .i64 q/\Hid ((ps.take k).foldl (fun m (p : Int × Int)=>if p.2 > m then p.2 else m) 0 = q)/\Hid (wr = w)) (fun _ i _=>ps.length - (intOf i).toNat)
 case atStart=>exact ⟨0,Nat.zero_le _,rfl,0,rfl,rfl,rfl⟩
 case round =>
  obtain ⟨k,hk,rfl,q,rfl,HE,HW⟩:=hrel;obtain rfl:=HW.out;by_cases hlt : k < ps.length
  ·have hx : Hid (ps[k]? = some ps[k]):=List.getElem?_eq_getElem hlt;generalize ps[k] = x at hx;obtain ⟨g,rfl,c0,c1⟩:=HA.out k x hx.out;have HN:=(show Hid _ from foldl_take hx.out (fun m (p : Int × Int)=>if p.2 > m then p.2 else m) 0);by_cases h1 : q < x.2
   ·go_wp2
    go_roundw
    case rel=>exact ⟨k + 1,by omega,by go_num,x.2,rfl,by show List.foldl _ _ _ = _; rw [HN.out,HE.out,if_pos h1],by first | rfl | (show True; trivial)⟩
    case measure=>simp [intOf]; omega
   ·go_wp2
    go_roundw
    case rel=>exact ⟨k + 1,by omega,by go_num,q,rfl,by show List.foldl _ _ _ = _; rw [HN.out,HE.out,if_neg (by omega)],by first | rfl | (show True; trivial)⟩
    case measure=>simp [intOf]; omega
  ·have hke : k = ps.length:=by omega
   have HF : Hid (greatestHi ps = q):=by
    have:=HE.out
    rw [hke,List.take_length] at this;exact this
   clear HE hke;go_wp2;go_ret;exact ⟨ret_int HF.out.symm,rfl⟩
end
end
section
open Go.RowKit
structure VAns where
 err : Int
 did : Bool
 value : Int
 stamp : Int
def VAns.zero : VAns:=⟨0,false,0,0⟩
structure VWork where
 kind : Int
 key : Int
 value : Int
 spans : Value
 next : Int
 time : Int
 stand : Int
 ahead : Int
 above : Int
 locks : Int
 made : Value
 tsrc : Int
 tside : Int
 links : Value
 noted : Value
 ans : VAns
 aspans : Value
def VWork.zero : VWork:=⟨0,0,0,.slice none 0 0,0,0,0,0,0,0,.slice none 0 0,0,0,.slice none 0 0,.slice none 0 0,VAns.zero,.slice none 0 0⟩
structure VWorker where
 number : Int
 slot : Int
 busy : Bool
 work : VWork
 hasEnded : Bool
 last : VAns
 lspans : Value
def VWorker.cells (t : VWorker) : List Value :=
 [.int .i64 t.number,.int .i64 t.slot,.bool t.busy,
  .int .i64 t.work.kind,.int .i64 t.work.key,.int .i64 t.work.value,t.work.spans,.int .i64 t.work.next,.int .i64 t.work.time,.int .i64 t.work.stand,.int .i64 t.work.ahead,.int .i64 t.work.above,.int .i64 t.work.locks,t.work.made,.int .i64 t.work.tsrc,.int .i64 t.work.tside,t.work.links,t.work.noted,
  .int .i64 t.work.ans.err,.bool t.work.ans.did,.int .i64 t.work.ans.value,.int .i64 t.work.ans.stamp,t.work.aspans,
  .bool t.hasEnded,.int .i64 t.last.err,.bool t.last.did,.int .i64 t.last.value,.int .i64 t.last.stamp,t.lspans]
def VWorker.new (n : Int) : VWorker:=⟨n,0,false,VWork.zero,false,VAns.zero,.slice none 0 0⟩
structure VSweep where
 made : Int
 clock : Int
 retired : Value
 hasTime : Bool
 time : Int
def VSweep.zero : VSweep:=⟨0,0,.slice none 0 0,false,0⟩
structure XLay where
 s : Nat
 l : MLay
 tb : Nat
 tcap : Nat
 wks : List Nat
structure XSt where
 kind : Int
 limit : Int
 clock : Int
 mem : PMem
 ts : List VWorker
 sweep : VSweep
def ptrs (l : List Nat) : List Value:=l.map fun b=>.pointer (some ⟨b,0,none⟩)
structure XAt (w : World) (L : XLay) (X : XSt) : Prop where
 hd : At w L.s [.int .i64 X.kind,.int .i64 X.limit,.int .i64 X.clock,.pointer (some ⟨L.l.m,0,none⟩),.slice (some ⟨L.tb,0,none⟩) X.ts.length L.tcap,
  .int .i64 X.sweep.made,.int .i64 X.sweep.clock,X.sweep.retired,.bool X.sweep.hasTime,.int .i64 X.sweep.time] 109
 mem : MAt w L.l X.mem
 thr : w.ownsRow 0 111 1 (.slice (some ⟨L.tb,0,none⟩) X.ts.length L.tcap) X.ts.length (ptrs L.wks)
 len : L.wks.length = X.ts.length
 wk : ∀ (i b : Nat) (t : VWorker),L.wks[i]? = some b->X.ts[i]? = some t->At w b t.cells 118
 few : X.ts.length<=8
 apart : L.wks.Nodup
def XLay.own (L : XLay) (k : Nat) : Prop:=k = L.s\/k = L.l.m\/k = L.l.nb\/k = L.l.eb\/k = L.tb\/k ∈ L.wks
section
variable {w w' : World} {L : XLay} {X : XSt}
end
end
end Go.Proofs.YtfccelbmacjifabGreat
