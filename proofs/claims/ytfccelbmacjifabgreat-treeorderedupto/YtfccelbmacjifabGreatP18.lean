import Derived.Test.YtfccelbmacjifabGreatP0
import Derived.Test.YtfccelbmacjifabGreatP17
import Derived.Laws.IdiomCopy
import Derived.Deep.Cut
set_option linter.unusedSimpArgs false
set_option maxRecDepth 100000
set_option maxHeartbeats 4000000
namespace Go.Proofs.YtfccelbmacjifabGreat
section
open Go.RowKit
section
variable {own : Own} {z : Nat} {w : World} {L : ZLay} {P : PSt}
theorem kill_list (h : ZAt own z w L P) (hk : P.kind = 0) {i : Nat} {l : WLay} {t : PThread} (hl : L.wks[i]? = some l) (ht : P.ts[i]? = some t) :
  Calls Tryz.prog 101 #[.pointer (some ⟨L.s,0,none⟩),.pointer (some ⟨l.b,0,none⟩)] w fun e w'=>e = .returned (.tuple #[]) /\
   ZAt own z w' L ((P.setM (P.mem.kills (P.takenOut t.work))).setT i { t with work:={ t.work with next:=10 } })/\FrZ own z w w':=by
 have hE : Hid (P.mem.kills (P.takenOut t.work) = P.mem.kill t.work.ahead):=by show _ = _; simp [PSt.takenOut,hk,PMem.kills]
 have H:=(mkH (ZAt own z w L P) <|h);have HL:=(mkH (L.wks[i]? = some l) <|hl);have Ht:=(mkH (P.ts[i]? = some t) <|ht);clear h hl ht
 go_enter Tryz.func101,Tryz.ntmps101
 go_wp2_with fail;refine (nodesTakenOut_list H.out hk HL.out Ht.out).mono ?_;rintro e w1 ⟨b,rfl,hA,hF⟩;have H1:=(mkH (ZAt own z w1 L P) <|H.out.calm hF);have HF1:=(mkH (FrZ own z w w1) <|Fr.mono hF (fun _ _ h=>h.elim));have HA:=(mkH (At w1 b _ _) <|hA);clear hF H hA;go_wp2_with fail
 go_loopw [5,11] (fun _ j wr=>(j = .int .i64 0/\Hid (wr = w1))\/(j = .int .i64 1/\Hid (ZAt own z wr L (P.setM (P.mem.kill t.work.ahead)))/\Hid (FrZ own z w wr))) (fun _ j _=>1 - (intOf j).toNat)
 case atStart=>exact .inl ⟨rfl,rfl⟩
 case round =>
  rcases hrel with ⟨rfl,hw⟩ | ⟨rfl,H2,HF2⟩
  ·have hw':=hw.out;subst hw';clear hw;go_wp2_with fail;refine wp_region_one 8 L.ml (fun w'=>MAt w' L.ml (P.mem.kill t.work.ahead)/\MFr L.ml wr w') (fun _ h=>h.2) (by kernel_rfl) (by kernel_rfl) (by kernel_rfl) (by kernel_rfl) (by decide) ?_;intro U W hU hW;have hau : ∀ u o,(W u).cell? ⟨L.s,o,none⟩ = (P.head L)[o]?:=fun u=>(H1.out.memCells (hW u)).1
   have hbu : ∀ u o,(W u).cell? ⟨b,o,none⟩ = ([.int .i64 t.work.ahead] : List Value)[o]?:=by
    intro u;have hnb : ¬ (b = L.ml.nb\/b = L.ml.eb):=by
     have h1:=HA.out.ne_row H1.out.mem.nodes (by decide);have h2:=HA.out.ne_row H1.out.mem.ents (by decide);simp [Value.ownBlock] at h1 h2;rintro (e | e)
     ·exact h1 e.symm
     ·exact h2 e.symm
    exact (Fr.at (hW u) HA.out hnb).cell
   simp only [PSt.head] at hau;clear hW
   repeat (refine mix_read rfl rfl ?_; go_big_quiet_step (fail); refine wpQuiet_nil ?_)
   refine mix_effC (.tuple #[]) rfl rfl rfl ?_ ?_
   ·intro w' hw';have hw0:=hw'.1 rfl;go_simp;refine (Kill_calls (H1.out.calm hw0).mem t.work.ahead).mono ?_;rintro e w'' ⟨rfl,hM,hF⟩;exact ⟨rfl,hM,(MFr.of0 hw0).trans hF⟩
   go_simp;refine mix_nil ?_;intro w3 hM3 hF3;clear hau hbu;obtain ⟨hZ3,hZF3⟩:=H1.out.memSet hM3 hF3;have H3:=(mkH (ZAt own z w3 L _) <|hZ3);have HF3:=(mkH (FrZ own z w w3) <|FrZ.trans HF1.out (Ext.refl _ _) hZF3);clear hM3 hF3 hZ3 hZF3;go_wp2
   go_roundw
   case rel=>exact .inr ⟨by go_num,H3,HF3⟩
   case measure=>simp [intOf]
  ·have HT:=(mkH (At wr l.b _ _) <|(H2.out.wk i l t HL.out Ht.out).at_);have ha:=HT.out.cell;have haz:=HT.out.frozen;simp only [PThread.cells] at ha;go_wp2
   go_end0
   rw [hE.out];have R:=H2.out.wkCells HL.out Ht.out (t':={ t with work:={ t.work with next:=10 } }) ((Fr.refl _ _).set1 7 (.int .i64 10)) (HT.out.set 7 _) rfl rfl rfl rfl rfl rfl;exact ⟨rfl,R.1,FrZ.trans HF2.out (Ext.refl _ _) R.2⟩
theorem unlock_list (h : ZAt own z w L P) (hk : P.kind = 0) {i : Nat} {l : WLay} {t : PThread} (hl : L.wks[i]? = some l) (ht : P.ts[i]? = some t) :
  Calls Tryz.prog 103 #[.pointer (some ⟨L.s,0,none⟩),.pointer (some ⟨l.b,0,none⟩)] w fun e w'=>e = .returned (.tuple #[])/\ZAt own z w' L (P.unlock i t.work)/\FrZ own z w w':=by
 have H:=(mkH (ZAt own z w L P) <|h);have HL:=(mkH (L.wks[i]? = some l) <|hl);have Ht:=(mkH (P.ts[i]? = some t) <|ht);clear h hl ht
 go_enter Tryz.func103,Tryz.ntmps103
 go_wp2_with fail;refine (giveBackLocks_calls H.out HL.out Ht.out).mono ?_;rintro e w1 ⟨rfl,hZ,hF⟩;have H1:=(mkH (ZAt own z w1 L _) <|hZ);have HF1:=(mkH (FrZ own z w w1) <|hF);have Ht1:=(mkH (_ = some _) <|setT_get (P.setM (P.mem.unlock i)) Ht.out { t with work:={ t.work with locks:=0 } });clear hZ hF H;have HT1:=(mkH (At w1 l.b _ _) <|(H1.out.wk i l _ HL.out Ht1.out).at_);have ha:=HT1.out.cell;have haz:=HT1.out.frozen;simp only [PThread.cells] at ha;have fin0 : Hid (¬ (t.work.kind = 2/\t.work.ans.did = true)->((P.setM (P.mem.unlock i)).setT i { t with work:={ t.work with locks:=0 } }).setT i { t with work:={ t.work with locks:=0,next:=13 } } = P.unlock i t.work):=by
  intro hn;rw [setT_setT];simp only [PSt.unlock,if_neg hn];rw [setT_work (P:=P.setM (P.mem.unlock i)) Ht.out]
 cases hkd : (t.work.kind == 2)
 ·go_wp2
  go_end0
  have R:=H1.out.wkCells HL.out Ht1.out (t':={ t with work:={ t.work with locks:=0,next:=13 } }) ((Fr.refl _ _).set1 7 (.int .i64 13)) (HT1.out.set 7 _) rfl rfl rfl rfl rfl rfl;rw [fin0.out (by intro h; simp [h.1] at hkd)] at R;exact ⟨rfl,R.1,FrZ.trans HF1.out (Ext.refl _ _) R.2⟩
 ·cases hdid : t.work.ans.did
  ·rw [hdid] at ha;go_wp2
   go_end0
   have R:=H1.out.wkCells HL.out Ht1.out (t':={ t with work:={ t.work with locks:=0,next:=13 } }) ((Fr.refl _ _).set1 7 (.int .i64 13)) (HT1.out.set 7 _) rfl rfl rfl rfl rfl rfl;rw [fin0.out (by intro h; rw [hdid] at h; cases h.2)] at R;exact ⟨rfl,R.1,FrZ.trans HF1.out (Ext.refl _ _) R.2⟩
  ·rw [hdid] at ha;have hy : t.work.kind = 2/\t.work.ans.did = true:=⟨by simpa using hkd,hdid⟩;have hE : Hid (P.unlock i t.work = (P.setM ((P.mem.unlock i).retire t.work.ahead P.clock)).setT i { t with work:={ t.work with locks:=0,next:=13 } }):=by
    show _ = _;simp only [PSt.unlock,if_pos hy];have e2 : P.takenOut t.work = [t.work.ahead]:=by simp [PSt.takenOut,hk]
    rw [e2,setT_work (P:=P.setM ((P.mem.unlock i).retires P.clock [t.work.ahead])) Ht.out]
    rfl
   clear hy;go_wp2_with fail;refine (nodesTakenOut_list H1.out hk HL.out Ht1.out).mono ?_;rintro e w2 ⟨b,rfl,hA,hF⟩;have H2:=(mkH (ZAt own z w2 L _) <|H1.out.calm hF);have HF2:=(mkH (FrZ own z w w2) <|FrZ.trans HF1.out (Ext.refl _ _) (Fr.mono hF (fun _ _ h=>h.elim)));have HA:=(mkH (At w2 b _ _) <|hA);clear hF H1 hA HF1 ha haz HT1;go_wp2_with fail
   go_loopw [5,28] (fun _ j wr=>(j = .int .i64 0/\Hid (wr = w2))\/(j = .int .i64 1/\Hid (ZAt own z wr L (((P.setM (P.mem.unlock i)).setT i { t with work:={ t.work with locks:=0 } }).setM ((P.mem.unlock i).retire t.work.ahead P.clock)))/\Hid (FrZ own z w wr))) (fun _ j _=>1 - (intOf j).toNat)
   case atStart=>exact .inl ⟨rfl,rfl⟩
   case round =>
    rcases hrel with ⟨rfl,hw⟩ | ⟨rfl,H3,HF3⟩
    ·have hw':=hw.out;subst hw';clear hw;go_wp2_with fail;refine wp_region_one 12 L.ml (fun w'=>MAt w' L.ml ((P.mem.unlock i).retire t.work.ahead P.clock)/\MFr L.ml wr w') (fun _ h=>h.2) (by kernel_rfl) (by kernel_rfl) (by kernel_rfl) (by kernel_rfl) (by decide) ?_;intro U W hU hW;have hau : ∀ u o,(W u).cell? ⟨L.s,o,none⟩ = _:=fun u=>(H2.out.memCells (hW u)).1
     have hbu : ∀ u o,(W u).cell? ⟨b,o,none⟩ = ([.int .i64 t.work.ahead] : List Value)[o]?:=by
      intro u;have hnb : ¬ (b = L.ml.nb\/b = L.ml.eb):=by
       have h1:=HA.out.ne_row H2.out.mem.nodes (by decide);have h2:=HA.out.ne_row H2.out.mem.ents (by decide);simp [Value.ownBlock] at h1 h2;rintro (e | e)
       ·exact h1 e.symm
       ·exact h2 e.symm
      exact (Fr.at (hW u) HA.out hnb).cell
     simp only [PSt.head,PSt.setT,PSt.setM] at hau;clear hW
     repeat (refine mix_read rfl rfl ?_; go_big_quiet_step (fail); refine wpQuiet_nil ?_)
     refine mix_effC (.tuple #[]) rfl rfl rfl ?_ ?_
     ·intro w' hw';have hw0:=hw'.1 rfl;go_simp;refine (Retire_calls (H2.out.calm hw0).mem t.work.ahead P.clock).mono ?_;rintro e w'' ⟨rfl,hM,hF⟩;exact ⟨rfl,hM,(MFr.of0 hw0).trans hF⟩
     go_simp;refine mix_nil ?_;intro w3 hM3 hF3;clear hau hbu;obtain ⟨hZ3,hZF3⟩:=H2.out.memSet hM3 hF3;have H3:=(mkH (ZAt own z w3 L _) <|hZ3);have HF3:=(mkH (FrZ own z w w3) <|FrZ.trans HF2.out (Ext.refl _ _) hZF3);clear hM3 hF3 hZ3 hZF3;go_wp2
     go_roundw
     case rel=>exact .inr ⟨by go_num,H3,HF3⟩
     case measure=>simp [intOf]
    ·have HT:=(mkH (At wr l.b _ _) <|(H3.out.wk i l _ HL.out Ht1.out).at_);have ha:=HT.out.cell;have haz:=HT.out.frozen;simp only [PThread.cells] at ha;go_wp2
     go_end0
     rw [hE.out];have R:=H3.out.wkCells HL.out Ht1.out (t':={ t with work:={ t.work with locks:=0,next:=13 } }) ((Fr.refl _ _).set1 7 (.int .i64 13)) (HT.out.set 7 _) rfl rfl rfl rfl rfl rfl;have hfin : (((P.setM (P.mem.unlock i)).setT i { t with work:={ t.work with locks:=0 } }).setM ((P.mem.unlock i).retire t.work.ahead P.clock)).setT i { t with work:={ t.work with locks:=0,next:=13 } } = (P.setM ((P.mem.unlock i).retire t.work.ahead P.clock)).setT i { t with work:={ t.work with locks:=0,next:=13 } }:=by
      simp [PSt.setM,PSt.setT,List.set_set]
     rw [hfin] at R;exact ⟨rfl,R.1,FrZ.trans HF3.out (Ext.refl _ _) R.2⟩
theorem kill_tree (h : ZAt own z w L P) (hk : P.kind = 1) {i : Nat} {l : WLay} {t : PThread} (hl : L.wks[i]? = some l) (ht : P.ts[i]? = some t) :
  Calls Tryz.prog 101 #[.pointer (some ⟨L.s,0,none⟩),.pointer (some ⟨l.b,0,none⟩)] w fun e w'=>e = .returned (.tuple #[]) /\
   ZAt own z w' L ((P.setM (P.mem.kills (P.takenOut t.work))).setT i { t with work:={ t.work with next:=10 } })/\FrZ own z w w':=by
 have hE : Hid (P.mem.kills (P.takenOut t.work) = (P.mem.kill t.work.ahead).kill t.work.stand):=by show _ = _; simp [PSt.takenOut,hk,PMem.kills]
 have H:=(mkH (ZAt own z w L P) <|h);have HL:=(mkH (L.wks[i]? = some l) <|hl);have Ht:=(mkH (P.ts[i]? = some t) <|ht);clear h hl ht
 go_enter Tryz.func101,Tryz.ntmps101
 go_wp2_with fail;refine (nodesTakenOut_tree H.out hk HL.out Ht.out).mono ?_;rintro e w1 ⟨b,rfl,hA,hF⟩;have H1:=(mkH (ZAt own z w1 L P) <|H.out.calm hF);have HF1:=(mkH (FrZ own z w w1) <|Fr.mono hF (fun _ _ h=>h.elim));have HA:=(mkH (At w1 b _ _) <|hA);clear hF H hA;go_wp2_with fail
 go_loopw [5,11] (fun _ j wr=>(j = .int .i64 0/\Hid (ZAt own z wr L P)/\Hid (FrZ own z w wr)/\Hid (At wr b [.int .i64 t.work.ahead,.int .i64 t.work.stand] 3))\/(j = .int .i64 1/\Hid (ZAt own z wr L (P.setM (P.mem.kill t.work.ahead)))/\Hid (FrZ own z w wr)/\Hid (At wr b [.int .i64 t.work.ahead,.int .i64 t.work.stand] 3))\/(j = .int .i64 2/\Hid (ZAt own z wr L (P.setM ((P.mem.kill t.work.ahead).kill t.work.stand)))/\Hid (FrZ own z w wr))) (fun _ j _=>2 - (intOf j).toNat)
 case atStart=>exact .inl ⟨rfl,H1,HF1,HA⟩
 case round =>
  clear H1 HF1 HA;rcases hrel with ⟨rfl,H2,HF2,HA2⟩ | ⟨rfl,H2,HF2,HA2⟩ | ⟨rfl,H2,HF2⟩
  ·clear HL Ht;go_wp2_with fail;refine wp_region_one 8 L.ml (fun w'=>MAt w' L.ml (P.mem.kill t.work.ahead)/\MFr L.ml wr w') (fun _ h=>h.2) (by kernel_rfl) (by kernel_rfl) (by kernel_rfl) (by kernel_rfl) (by decide) ?_;intro U W hU hW;have hau : ∀ u o,(W u).cell? ⟨L.s,o,none⟩ = _:=fun u=>(H2.out.memCells (hW u)).1
   have hnb : ¬ (b = L.ml.nb\/b = L.ml.eb):=by
    have h1:=HA2.out.ne_row H2.out.mem.nodes (by decide);have h2:=HA2.out.ne_row H2.out.mem.ents (by decide);simp [Value.ownBlock] at h1 h2;rintro (e | e)
    ·exact h1 e.symm
    ·exact h2 e.symm
   have hbu : ∀ u o,(W u).cell? ⟨b,o,none⟩ = ([.int .i64 t.work.ahead,.int .i64 t.work.stand] : List Value)[o]?:=fun u=>(Fr.at (hW u) HA2.out hnb).cell
   simp only [PSt.head,PSt.setT,PSt.setM] at hau;clear hW
   repeat (refine mix_read rfl rfl ?_; go_big_quiet_step (fail); refine wpQuiet_nil ?_)
   refine mix_effC (.tuple #[]) rfl rfl rfl ?_ ?_
   ·intro w' hw';have hw0:=hw'.1 rfl;go_simp;refine (Kill_calls (H2.out.calm hw0).mem t.work.ahead).mono ?_;rintro e w'' ⟨rfl,hM,hF⟩;exact ⟨rfl,hM,(MFr.of0 hw0).trans hF⟩
   go_simp;refine mix_nil ?_;intro w3 hM3 hF3;clear hau hbu;have HA3:=(mkH (At w3 b [.int .i64 t.work.ahead,.int .i64 t.work.stand] 3) <|Fr.at hF3 HA2.out hnb);obtain ⟨hZ3,hZF3⟩:=H2.out.memSet hM3 hF3;have H3:=(mkH (ZAt own z w3 L (P.setM (P.mem.kill t.work.ahead))) <|hZ3);have HF3:=(mkH (FrZ own z w w3) <|FrZ.trans HF2.out (Ext.refl _ _) hZF3);clear hM3 hF3 hZ3 hZF3 hnb;go_wp2
   go_roundw
   case rel=>exact .inr (.inl ⟨by go_num,H3,HF3,HA3⟩)
   case measure=>simp [intOf]
  ·clear HL Ht;go_wp2_with fail;refine wp_region_one 8 L.ml (fun w'=>MAt w' L.ml ((P.mem.kill t.work.ahead).kill t.work.stand)/\MFr L.ml wr w') (fun _ h=>h.2) (by kernel_rfl) (by kernel_rfl) (by kernel_rfl) (by kernel_rfl) (by decide) ?_;intro U W hU hW;have hau : ∀ u o,(W u).cell? ⟨L.s,o,none⟩ = _:=fun u=>(H2.out.memCells (hW u)).1
   have hnb : ¬ (b = L.ml.nb\/b = L.ml.eb):=by
    have h1:=HA2.out.ne_row H2.out.mem.nodes (by decide);have h2:=HA2.out.ne_row H2.out.mem.ents (by decide);simp [Value.ownBlock] at h1 h2;rintro (e | e)
    ·exact h1 e.symm
    ·exact h2 e.symm
   have hbu : ∀ u o,(W u).cell? ⟨b,o,none⟩ = ([.int .i64 t.work.ahead,.int .i64 t.work.stand] : List Value)[o]?:=fun u=>(Fr.at (hW u) HA2.out hnb).cell
   simp only [PSt.head,PSt.setT,PSt.setM] at hau;clear hW
   repeat (refine mix_read rfl rfl ?_; go_big_quiet_step (fail); refine wpQuiet_nil ?_)
   refine mix_effC (.tuple #[]) rfl rfl rfl ?_ ?_
   ·intro w' hw';have hw0:=hw'.1 rfl;go_simp;refine (Kill_calls (H2.out.calm hw0).mem t.work.stand).mono ?_;rintro e w'' ⟨rfl,hM,hF⟩;exact ⟨rfl,hM,(MFr.of0 hw0).trans hF⟩
   go_simp;refine mix_nil ?_;intro w3 hM3 hF3;clear hau hbu;have HA3:=(mkH (At w3 b [.int .i64 t.work.ahead,.int .i64 t.work.stand] 3) <|Fr.at hF3 HA2.out hnb);obtain ⟨hZ3,hZF3⟩:=H2.out.memSet hM3 hF3;have H3:=(mkH (ZAt own z w3 L (P.setM ((P.mem.kill t.work.ahead).kill t.work.stand))) <|hZ3);have HF3:=(mkH (FrZ own z w w3) <|FrZ.trans HF2.out (Ext.refl _ _) hZF3);clear hM3 hF3 hZ3 hZF3 hnb;go_wp2
   go_roundw
   case rel=>exact .inr (.inr ⟨by go_num,H3,HF3⟩)
   case measure=>simp [intOf]
  ·have HT:=(mkH (At wr l.b _ _) <|(H2.out.wk i l t HL.out Ht.out).at_);have ha:=HT.out.cell;have haz:=HT.out.frozen;simp only [PThread.cells] at ha;go_wp2
   go_end0
   rw [hE.out];have R:=H2.out.wkCells HL.out Ht.out (t':={ t with work:={ t.work with next:=10 } }) ((Fr.refl _ _).set1 7 (.int .i64 10)) (HT.out.set 7 _) rfl rfl rfl rfl rfl rfl;exact ⟨rfl,R.1,FrZ.trans HF2.out (Ext.refl _ _) R.2⟩
theorem unlock_tree (h : ZAt own z w L P) (hk : P.kind = 1) {i : Nat} {l : WLay} {t : PThread} (hl : L.wks[i]? = some l) (ht : P.ts[i]? = some t) :
  Calls Tryz.prog 103 #[.pointer (some ⟨L.s,0,none⟩),.pointer (some ⟨l.b,0,none⟩)] w fun e w'=>e = .returned (.tuple #[])/\ZAt own z w' L (P.unlock i t.work)/\FrZ own z w w':=by
 have H:=(mkH (ZAt own z w L P) <|h);have HL:=(mkH (L.wks[i]? = some l) <|hl);have Ht:=(mkH (P.ts[i]? = some t) <|ht);clear h hl ht
 go_enter Tryz.func103,Tryz.ntmps103
 go_wp2_with fail;refine (giveBackLocks_calls H.out HL.out Ht.out).mono ?_;rintro e w1 ⟨rfl,hZ,hF⟩;have H1:=(mkH (ZAt own z w1 L _) <|hZ);have HF1:=(mkH (FrZ own z w w1) <|hF);have Ht1:=(mkH (_ = some _) <|setT_get (P.setM (P.mem.unlock i)) Ht.out { t with work:={ t.work with locks:=0 } });clear hZ hF H;have HT1:=(mkH (At w1 l.b _ _) <|(H1.out.wk i l _ HL.out Ht1.out).at_);have ha:=HT1.out.cell;have haz:=HT1.out.frozen;simp only [PThread.cells] at ha;have fin0 : Hid (¬ (t.work.kind = 2/\t.work.ans.did = true)->((P.setM (P.mem.unlock i)).setT i { t with work:={ t.work with locks:=0 } }).setT i { t with work:={ t.work with locks:=0,next:=13 } } = P.unlock i t.work):=by
  intro hn;rw [setT_setT];simp only [PSt.unlock,if_neg hn];rw [setT_work (P:=P.setM (P.mem.unlock i)) Ht.out]
 cases hkd : (t.work.kind == 2)
 ·go_wp2
  go_end0
  have R:=H1.out.wkCells HL.out Ht1.out (t':={ t with work:={ t.work with locks:=0,next:=13 } }) ((Fr.refl _ _).set1 7 (.int .i64 13)) (HT1.out.set 7 _) rfl rfl rfl rfl rfl rfl;rw [fin0.out (by intro h; simp [h.1] at hkd)] at R;exact ⟨rfl,R.1,FrZ.trans HF1.out (Ext.refl _ _) R.2⟩
 ·cases hdid : t.work.ans.did
  ·rw [hdid] at ha;go_wp2
   go_end0
   have R:=H1.out.wkCells HL.out Ht1.out (t':={ t with work:={ t.work with locks:=0,next:=13 } }) ((Fr.refl _ _).set1 7 (.int .i64 13)) (HT1.out.set 7 _) rfl rfl rfl rfl rfl rfl;rw [fin0.out (by intro h; rw [hdid] at h; cases h.2)] at R;exact ⟨rfl,R.1,FrZ.trans HF1.out (Ext.refl _ _) R.2⟩
  ·rw [hdid] at ha;have hy : t.work.kind = 2/\t.work.ans.did = true:=⟨by simpa using hkd,hdid⟩;have hE : Hid (P.unlock i t.work = (P.setM (((P.mem.unlock i).retire t.work.ahead P.clock).retire t.work.stand P.clock)).setT i { t with work:={ t.work with locks:=0,next:=13 } }):=by
    show _ = _;simp only [PSt.unlock,if_pos hy];have e2 : P.takenOut t.work = [t.work.ahead,t.work.stand]:=by simp [PSt.takenOut,hk]
    rw [e2,setT_work (P:=P.setM ((P.mem.unlock i).retires P.clock [t.work.ahead,t.work.stand])) Ht.out]
    rfl
   clear hy;go_wp2_with fail;refine (nodesTakenOut_tree H1.out hk HL.out Ht1.out).mono ?_;rintro e w2 ⟨b,rfl,hA,hF⟩;have H2:=(mkH (ZAt own z w2 L _) <|H1.out.calm hF);have HF2:=(mkH (FrZ own z w w2) <|FrZ.trans HF1.out (Ext.refl _ _) (Fr.mono hF (fun _ _ h=>h.elim)));have HA:=(mkH (At w2 b _ _) <|hA);clear hF H1 hA HF1 ha haz HT1;go_wp2_with fail
   go_loopw [5,28] (fun _ j wr=>(j = .int .i64 0/\Hid (ZAt own z wr L ((P.setM (P.mem.unlock i)).setT i { t with work:={ t.work with locks:=0 } }))/\Hid (FrZ own z w wr)/\Hid (At wr b [.int .i64 t.work.ahead,.int .i64 t.work.stand] 3))\/(j = .int .i64 1/\Hid (ZAt own z wr L (((P.setM (P.mem.unlock i)).setT i { t with work:={ t.work with locks:=0 } }).setM ((P.mem.unlock i).retire t.work.ahead P.clock)))/\Hid (FrZ own z w wr)/\Hid (At wr b [.int .i64 t.work.ahead,.int .i64 t.work.stand] 3))\/(j = .int .i64 2/\Hid (ZAt own z wr L (((P.setM (P.mem.unlock i)).setT i { t with work:={ t.work with locks:=0 } }).setM (((P.mem.unlock i).retire t.work.ahead P.clock).retire t.work.stand P.clock)))/\Hid (FrZ own z w wr))) (fun _ j _=>2 - (intOf j).toNat)
   case atStart=>exact .inl ⟨rfl,H2,HF2,HA⟩
   case round =>
    clear H2 HF2 HA;rcases hrel with ⟨rfl,H2,HF2,HA2⟩ | ⟨rfl,H2,HF2,HA2⟩ | ⟨rfl,H2,HF2⟩
    ·clear HL Ht Ht1;go_wp2_with fail;refine wp_region_one 12 L.ml (fun w'=>MAt w' L.ml ((P.mem.unlock i).retire t.work.ahead P.clock)/\MFr L.ml wr w') (fun _ h=>h.2) (by kernel_rfl) (by kernel_rfl) (by kernel_rfl) (by kernel_rfl) (by decide) ?_;intro U W hU hW;have hau : ∀ u o,(W u).cell? ⟨L.s,o,none⟩ = _:=fun u=>(H2.out.memCells (hW u)).1
     have hnb : ¬ (b = L.ml.nb\/b = L.ml.eb):=by
      have h1:=HA2.out.ne_row H2.out.mem.nodes (by decide);have h2:=HA2.out.ne_row H2.out.mem.ents (by decide);simp [Value.ownBlock] at h1 h2;rintro (e | e)
      ·exact h1 e.symm
      ·exact h2 e.symm
     have hbu : ∀ u o,(W u).cell? ⟨b,o,none⟩ = ([.int .i64 t.work.ahead,.int .i64 t.work.stand] : List Value)[o]?:=fun u=>(Fr.at (hW u) HA2.out hnb).cell
     simp only [PSt.head,PSt.setT,PSt.setM] at hau;clear hW
     repeat (refine mix_read rfl rfl ?_; go_big_quiet_step (fail); refine wpQuiet_nil ?_)
     refine mix_effC (.tuple #[]) rfl rfl rfl ?_ ?_
     ·intro w' hw';have hw0:=hw'.1 rfl;go_simp;refine (Retire_calls (H2.out.calm hw0).mem t.work.ahead P.clock).mono ?_;rintro e w'' ⟨rfl,hM,hF⟩;exact ⟨rfl,hM,(MFr.of0 hw0).trans hF⟩
     go_simp;refine mix_nil ?_;intro w3 hM3 hF3;clear hau hbu;have HA3:=(mkH (At w3 b [.int .i64 t.work.ahead,.int .i64 t.work.stand] 3) <|Fr.at hF3 HA2.out hnb);obtain ⟨hZ3,hZF3⟩:=H2.out.memSet hM3 hF3;have H3:=(mkH (ZAt own z w3 L (((P.setM (P.mem.unlock i)).setT i { t with work:={ t.work with locks:=0 } }).setM ((P.mem.unlock i).retire t.work.ahead P.clock))) <|hZ3);have HF3:=(mkH (FrZ own z w w3) <|FrZ.trans HF2.out (Ext.refl _ _) hZF3);clear hM3 hF3 hZ3 hZF3 hnb;go_wp2
     go_roundw
     case rel=>exact .inr (.inl ⟨by go_num,H3,HF3,HA3⟩)
     case measure=>simp [intOf]
    ·clear HL Ht Ht1;go_wp2_with fail;refine wp_region_one 12 L.ml (fun w'=>MAt w' L.ml (((P.mem.unlock i).retire t.work.ahead P.clock).retire t.work.stand P.clock)/\MFr L.ml wr w') (fun _ h=>h.2) (by kernel_rfl) (by kernel_rfl) (by kernel_rfl) (by kernel_rfl) (by decide) ?_;intro U W hU hW;have hau : ∀ u o,(W u).cell? ⟨L.s,o,none⟩ = _:=fun u=>(H2.out.memCells (hW u)).1
     have hnb : ¬ (b = L.ml.nb\/b = L.ml.eb):=by
      have h1:=HA2.out.ne_row H2.out.mem.nodes (by decide);have h2:=HA2.out.ne_row H2.out.mem.ents (by decide);simp [Value.ownBlock] at h1 h2;rintro (e | e)
      ·exact h1 e.symm
      ·exact h2 e.symm
     have hbu : ∀ u o,(W u).cell? ⟨b,o,none⟩ = ([.int .i64 t.work.ahead,.int .i64 t.work.stand] : List Value)[o]?:=fun u=>(Fr.at (hW u) HA2.out hnb).cell
     simp only [PSt.head,PSt.setT,PSt.setM] at hau;clear hW
     repeat (refine mix_read rfl rfl ?_; go_big_quiet_step (fail); refine wpQuiet_nil ?_)
     refine mix_effC (.tuple #[]) rfl rfl rfl ?_ ?_
     ·intro w' hw';have hw0:=hw'.1 rfl;go_simp;refine (Retire_calls (H2.out.calm hw0).mem t.work.stand P.clock).mono ?_;rintro e w'' ⟨rfl,hM,hF⟩;exact ⟨rfl,hM,(MFr.of0 hw0).trans hF⟩
     go_simp;refine mix_nil ?_;intro w3 hM3 hF3;clear hau hbu;have HA3:=(mkH (At w3 b [.int .i64 t.work.ahead,.int .i64 t.work.stand] 3) <|Fr.at hF3 HA2.out hnb);obtain ⟨hZ3,hZF3⟩:=H2.out.memSet hM3 hF3;have H3:=(mkH (ZAt own z w3 L (((P.setM (P.mem.unlock i)).setT i { t with work:={ t.work with locks:=0 } }).setM (((P.mem.unlock i).retire t.work.ahead P.clock).retire t.work.stand P.clock))) <|hZ3);have HF3:=(mkH (FrZ own z w w3) <|FrZ.trans HF2.out (Ext.refl _ _) hZF3);clear hM3 hF3 hZ3 hZF3 hnb;go_wp2
     go_roundw
     case rel=>exact .inr (.inr ⟨by go_num,H3,HF3⟩)
     case measure=>simp [intOf]
    ·have HT:=(mkH (At wr l.b _ _) <|(H2.out.wk i l _ HL.out Ht1.out).at_);have ha:=HT.out.cell;have haz:=HT.out.frozen;simp only [PThread.cells] at ha;go_wp2
     go_end0
     rw [hE.out];have R:=H2.out.wkCells HL.out Ht1.out (t':={ t with work:={ t.work with locks:=0,next:=13 } }) ((Fr.refl _ _).set1 7 (.int .i64 13)) (HT.out.set 7 _) rfl rfl rfl rfl rfl rfl;have hfin : (((P.setM (P.mem.unlock i)).setT i { t with work:={ t.work with locks:=0 } }).setM (((P.mem.unlock i).retire t.work.ahead P.clock).retire t.work.stand P.clock)).setT i { t with work:={ t.work with locks:=0,next:=13 } } = (P.setM (((P.mem.unlock i).retire t.work.ahead P.clock).retire t.work.stand P.clock)).setT i { t with work:={ t.work with locks:=0,next:=13 } }:=by
      simp [PSt.setM,PSt.setT,List.set_set]
     rw [hfin] at R;exact ⟨rfl,R.1,FrZ.trans HF2.out (Ext.refl _ _) R.2⟩
theorem kill_calls (h : ZAt own z w L P) (hk : P.kind = 0\/P.kind = 1) {i : Nat} {l : WLay} {t : PThread} (hl : L.wks[i]? = some l) (ht : P.ts[i]? = some t) :
  Calls Tryz.prog 101 #[.pointer (some ⟨L.s,0,none⟩),.pointer (some ⟨l.b,0,none⟩)] w fun e w'=>e = .returned (.tuple #[]) /\
   ZAt own z w' L ((P.setM (P.mem.kills (P.takenOut t.work))).setT i { t with work:={ t.work with next:=10 } })/\FrZ own z w w':=by
 rcases hk with e | e
 ·exact kill_list h e hl ht
 ·exact kill_tree h e hl ht
theorem unlock_calls (h : ZAt own z w L P) (hk : P.kind = 0\/P.kind = 1) {i : Nat} {l : WLay} {t : PThread} (hl : L.wks[i]? = some l) (ht : P.ts[i]? = some t) :
  Calls Tryz.prog 103 #[.pointer (some ⟨L.s,0,none⟩),.pointer (some ⟨l.b,0,none⟩)] w fun e w'=>e = .returned (.tuple #[])/\ZAt own z w' L (P.unlock i t.work)/\FrZ own z w w':=by
 rcases hk with e | e
 ·exact unlock_list h e hl ht
 ·exact unlock_tree h e hl ht
end
end
section
open Go.RowKit
structure PUpd (P : PSt) (k : PWork) : Prop where
 kind : P.kind = 0\/P.kind = 1
 made : k.made.length<=2
 locks : k.locks<=2
 c0 : 0<=P.clock
 lim : P.limit<=1099511627776
section
variable {own : Own} {z : Nat} {w : World} {L : ZLay} {P : PSt}
theorem update_low (h : ZAt own z w L P) {i : Nat} {l : WLay} {t : PThread} (hl : L.wks[i]? = some l) (ht : P.ts[i]? = some t) (hU : PUpd P t.work) (hn : t.work.next = 4\/t.work.next = 5\/t.work.next = 6\/t.work.next = 7\/t.work.next = 8\/t.work.next = 9\/t.work.next = 12) :
  Calls Tryz.prog 82 #[.pointer (some ⟨L.s,0,none⟩),.pointer (some ⟨l.b,0,none⟩)] w fun e w'=>e = .returned (.int .i64 (P.update i t.work).2)/\ZGoes own z w L (P.update i t.work).1 w':=by
 have ha:=(h.wk i l t hl ht).at_.cell;simp only [PThread.cells] at ha;have H:=(mkH (ZAt own z w L P) <|h);have HL:=(mkH (L.wks[i]? = some l) <|hl);have Ht:=(mkH (P.ts[i]? = some t) <|ht);have HU:=(mkH (PUpd P t.work) <|hU);clear h hl ht hU;rcases hn with hn | hn | hn | hn | hn | hn | hn
 ·have hE : Hid (P.update i t.work = (P.setW i (P.walk t.work),1)):=by show _ = _; simp only [PSt.update,hn]
  rw [hn] at ha;clear hn
  go_enter Tryz.func82,Tryz.ntmps82
  go_wp2_with fail;refine (walk_calls H.out HL.out Ht.out).mono ?_;rintro e w1 ⟨rfl,hZ,hF⟩;have HG:=(mkH (ZGoes own z w L _ w1) <|ZGoes.here ⟨hZ,hF⟩);clear hZ hF ha;go_wp2;go_ret;rw [hE.out,setT_work Ht.out];exact ⟨rfl,HG.out⟩
 ·have hE : Hid (P.update i t.work = P.lock i t.work):=by show _ = _; simp only [PSt.update,hn]
  rw [hn] at ha;clear hn
  go_enter Tryz.func82,Tryz.ntmps82
  go_wp2_with fail;refine (lock_calls H.out HU.out.kind HL.out Ht.out HU.out.locks).mono ?_;rintro e w1 ⟨rfl,hZ,hF⟩;have HG:=(mkH (ZGoes own z w L _ w1) <|ZGoes.here ⟨hZ,hF⟩);clear hZ hF ha;go_wp2;go_ret;rw [hE.out];exact ⟨rfl,HG.out⟩
 ·have hE : Hid (P.update i t.work = (P.check i t.work,1)):=by show _ = _; simp only [PSt.update,hn]
  rw [hn] at ha;clear hn
  go_enter Tryz.func82,Tryz.ntmps82
  go_wp2_with fail;refine (check_calls H.out HU.out.kind HL.out Ht.out).mono ?_;rintro e w1 ⟨rfl,hG⟩;have HG:=(mkH (ZGoes own z w L _ w1) <|hG);clear hG ha;go_wp2;go_ret;rw [hE.out];exact ⟨rfl,HG.out⟩
 ·have hE : Hid (P.update i t.work = (P.prepare i t.work,1)):=by show _ = _; simp only [PSt.update,hn]
  rw [hn] at ha;clear hn
  go_enter Tryz.func82,Tryz.ntmps82
  go_wp2_with fail;refine (prepare_calls H.out HU.out.kind HL.out Ht.out HU.out.made).mono ?_;rintro e w1 ⟨rfl,hG⟩;have HG:=(mkH (ZGoes own z w L _ w1) <|hG);clear hG ha;go_wp2;go_ret;rw [hE.out];exact ⟨rfl,HG.out⟩
 ·have hE : Hid (P.update i t.work = (P.take i t.work,1)):=by show _ = _; simp only [PSt.update,hn]
  rw [hn] at ha;clear hn;have HC : Hid (Calls Tryz.prog 100 #[.pointer (some ⟨L.s,0,none⟩),.pointer (some ⟨l.b,0,none⟩)] w fun e w'=>e = .returned (.tuple #[])/\ZGoes own z w L (P.take i t.work) w'):=by
   by_cases hlim : P.limit<=P.clock
   ·exact take_limit H.out HL.out Ht.out HU.out.made hlim
   ·by_cases hkd : t.work.kind = 2
    ·exact take_remove H.out HL.out Ht.out hlim HU.out.c0 HU.out.lim hkd
    ·exact take_insert H.out HL.out Ht.out hlim HU.out.c0 HU.out.lim hkd HU.out.made
  go_enter Tryz.func82,Tryz.ntmps82
  go_wp2_with fail;refine Calls.mono HC.out ?_;rintro e w1 ⟨rfl,hG⟩;have HG:=(mkH (ZGoes own z w L _ w1) <|hG);clear hG ha;go_wp2;go_ret;rw [hE.out];exact ⟨rfl,HG.out⟩
 ·have hE : Hid (P.update i t.work = ((P.setM (P.mem.kills (P.takenOut t.work))).setW i { t.work with next:=10 },1)):=by show _ = _; simp only [PSt.update,hn]
  rw [hn] at ha;clear hn
  go_enter Tryz.func82,Tryz.ntmps82
  go_wp2_with fail;refine (kill_calls H.out HU.out.kind HL.out Ht.out).mono ?_;rintro e w1 ⟨rfl,hZ,hF⟩;have HG:=(mkH (ZGoes own z w L _ w1) <|ZGoes.here ⟨hZ,hF⟩);clear hZ hF ha;go_wp2;go_ret;rw [hE.out,setT_work (P:=P.setM (P.mem.kills (P.takenOut t.work))) Ht.out];exact ⟨rfl,HG.out⟩
 ·have hE : Hid (P.update i t.work = (P.unlock i t.work,1)):=by show _ = _; simp only [PSt.update,hn]
  rw [hn] at ha;clear hn
  go_enter Tryz.func82,Tryz.ntmps82
  go_wp2_with fail;refine (unlock_calls H.out HU.out.kind HL.out Ht.out).mono ?_;rintro e w1 ⟨rfl,hZ,hF⟩;have HG:=(mkH (ZGoes own z w L _ w1) <|ZGoes.here ⟨hZ,hF⟩);clear hZ hF ha;go_wp2;go_ret;rw [hE.out];exact ⟨rfl,HG.out⟩
theorem update_10 (h : ZAt own z w L P) {i : Nat} {l : WLay} {t : PThread} (hl : L.wks[i]? = some l) (ht : P.ts[i]? = some t) (hn : t.work.next = 10) :
  Calls Tryz.prog 82 #[.pointer (some ⟨L.s,0,none⟩),.pointer (some ⟨l.b,0,none⟩)] w fun e w'=>e = .returned (.int .i64 (P.update i t.work).2)/\ZGoes own z w L (P.update i t.work).1 w':=by
 have hE : Hid (P.update i t.work = ((P.setM (P.mem.lead t.work.tsrc t.work.tside)).setW i { t.work with next:=11 },1)):=by show _ = _; simp only [PSt.update,hn]
 have ha:=(h.wk i l t hl ht).at_.cell;simp only [PThread.cells,hn] at ha;have H:=(mkH (ZAt own z w L P) <|h);have HL:=(mkH (L.wks[i]? = some l) <|hl);have Ht:=(mkH (P.ts[i]? = some t) <|ht);clear h hl ht hn
 go_enter Tryz.func82,Tryz.ntmps82
 go_wp2_with fail;refine wp_region_one 9 L.ml (fun w'=>MAt w' L.ml (P.mem.lead t.work.tsrc t.work.tside)/\MFr L.ml w w') (fun _ h=>h.2) (by kernel_rfl) (by kernel_rfl) (by kernel_rfl) (by kernel_rfl) (by decide) ?_;intro U W hU hW;have hau : ∀ u o,(W u).cell? ⟨L.s,o,none⟩ = (P.head L)[o]?:=fun u=>(H.out.memCells (hW u)).1
 have hlu : ∀ u o,(W u).cell? ⟨l.b,o,none⟩ = (t.cells i l)[o]?:=fun u=>(H.out.memCells (hW u)).2 i l t HL.out Ht.out
 simp only [PSt.head] at hau;simp only [PThread.cells] at hlu;clear hW ha
 repeat (refine mix_read rfl rfl ?_; go_big_quiet_step (fail); refine wpQuiet_nil ?_)
 refine mix_effC (.tuple #[]) rfl rfl rfl ?_ ?_
 ·intro w' hw';have hw0:=hw'.1 rfl;go_simp;refine (Lead_calls (H.out.calm hw0).mem t.work.tsrc t.work.tside).mono ?_;rintro e w'' ⟨rfl,hM,hF⟩;exact ⟨rfl,hM,(MFr.of0 hw0).trans hF⟩
 go_simp;refine mix_nil ?_;intro w2 hM2 hF2;clear hau hlu;obtain ⟨hZ2,hZF⟩:=H.out.memSet hM2 hF2;have H2:=(mkH (ZAt own z w2 L _) <|hZ2);have HZF:=(mkH (FrZ own z w w2) <|hZF);have HT:=(mkH (At w2 l.b _ _) <|(H2.out.wk i l t HL.out Ht.out).at_);have ha:=HT.out.cell;have haz:=HT.out.frozen;simp only [PThread.cells] at ha;clear hM2 hF2 hZ2 hZF;go_wp2;go_ret;rw [hE.out,setT_work (P:=P.setM (P.mem.lead t.work.tsrc t.work.tside)) Ht.out];have R:=H2.out.wkCells HL.out Ht.out (t':={ t with work:={ t.work with next:=11 } }) ((Fr.refl _ _).set1 7 (.int .i64 11)) (HT.out.set 7 _) rfl rfl rfl rfl rfl rfl;exact ⟨rfl,ZGoes.here ⟨R.1,FrZ.trans HZF.out (Ext.refl _ _) R.2⟩⟩
theorem update_11 (h : ZAt own z w L P) {i : Nat} {l : WLay} {t : PThread} (hl : L.wks[i]? = some l) (ht : P.ts[i]? = some t) (hn : t.work.next = 11) :
  Calls Tryz.prog 82 #[.pointer (some ⟨L.s,0,none⟩),.pointer (some ⟨l.b,0,none⟩)] w fun e w'=>e = .returned (.int .i64 (P.update i t.work).2)/\ZGoes own z w L (P.update i t.work).1 w':=by
 have hE : Hid (P.update i t.work = ((P.setM (P.mem.stamp t.work.tsrc t.work.tside t.work.ans.stamp)).setW i { t.work with next:=12 },1)):=by show _ = _; simp only [PSt.update,hn]
 have ha:=(h.wk i l t hl ht).at_.cell;simp only [PThread.cells,hn] at ha;have H:=(mkH (ZAt own z w L P) <|h);have HL:=(mkH (L.wks[i]? = some l) <|hl);have Ht:=(mkH (P.ts[i]? = some t) <|ht);clear h hl ht hn
 go_enter Tryz.func82,Tryz.ntmps82
 go_wp2_with fail;refine wp_region_one 15 L.ml (fun w'=>MAt w' L.ml (P.mem.stamp t.work.tsrc t.work.tside t.work.ans.stamp)/\MFr L.ml w w') (fun _ h=>h.2) (by kernel_rfl) (by kernel_rfl) (by kernel_rfl) (by kernel_rfl) (by decide) ?_;intro U W hU hW;have hau : ∀ u o,(W u).cell? ⟨L.s,o,none⟩ = (P.head L)[o]?:=fun u=>(H.out.memCells (hW u)).1
 have hlu : ∀ u o,(W u).cell? ⟨l.b,o,none⟩ = (t.cells i l)[o]?:=fun u=>(H.out.memCells (hW u)).2 i l t HL.out Ht.out
 simp only [PSt.head] at hau;simp only [PThread.cells] at hlu;clear hW ha
 repeat (refine mix_read rfl rfl ?_; go_big_quiet_step (fail); refine wpQuiet_nil ?_)
 refine mix_effC (.tuple #[]) rfl rfl rfl ?_ ?_
 ·intro w' hw';have hw0:=hw'.1 rfl;go_simp;refine (Stamp_calls (H.out.calm hw0).mem t.work.tsrc t.work.tside t.work.ans.stamp).mono ?_;rintro e w'' ⟨rfl,hM,hF⟩;exact ⟨rfl,hM,(MFr.of0 hw0).trans hF⟩
 go_simp;refine mix_nil ?_;intro w2 hM2 hF2;clear hau hlu;obtain ⟨hZ2,hZF⟩:=H.out.memSet hM2 hF2;have H2:=(mkH (ZAt own z w2 L _) <|hZ2);have HZF:=(mkH (FrZ own z w w2) <|hZF);have HT:=(mkH (At w2 l.b _ _) <|(H2.out.wk i l t HL.out Ht.out).at_);have ha:=HT.out.cell;have haz:=HT.out.frozen;simp only [PThread.cells] at ha;clear hM2 hF2 hZ2 hZF;go_wp2;go_ret;rw [hE.out,setT_work (P:=P.setM (P.mem.stamp t.work.tsrc t.work.tside t.work.ans.stamp)) Ht.out];have R:=H2.out.wkCells HL.out Ht.out (t':={ t with work:={ t.work with next:=12 } }) ((Fr.refl _ _).set1 7 (.int .i64 12)) (HT.out.set 7 _) rfl rfl rfl rfl rfl rfl;exact ⟨rfl,ZGoes.here ⟨R.1,FrZ.trans HZF.out (Ext.refl _ _) R.2⟩⟩
end
end
section
open Go.RowKit
def setAll (c : List Value) (o : Nat) : List Value->List Value
 | []=>c
 | v :: r=>setAll (c.set o v) (o + 1) r
theorem At.setCells {b : Nat} {e : TypeId} : ∀ (vs : List Value) (o : Nat) (w : World) (c : List Value),At w b c e->At (w.setCells b o vs) b (setAll c o vs) e
 | [],_,_,_,h=>h
 | v :: r,o,_,_,h=>At.setCells r (o + 1) _ _ (h.set o v)
theorem Fr.setCells {S : Nat->Prop} {b : Nat} {a : World} (hb : S b) : ∀ (vs : List Value) (o : Nat) (w : World),Fr S a w->Fr S a (w.setCells b o vs)
 | [],_,_,h=>h
 | v :: r,o,_,h=>Fr.setCells hb r (o + 1) _ (Fr.setIn hb h o v)
theorem wpList_storeAgg {P : Program} (w : World) {ops : Array Oper} {rest : List Oper} {o : Oper} {a : Act} {Q : Exit->Act->World->Prop} (hgd : o.guard = none) (p x : Operand) (t : TypeId) (ho : o.op = .store t p x) (b off : Nat) (vs : List Value)
  (hp : a.eval p = .pointer (some ⟨b,off,none⟩)) (hx : a.eval x = .agg vs.toArray) (hs : ∀ w : World,(sizeOf t).run P w = .ok vs.length w) (c : List Value) (e : TypeId) (hA : At w b c e) (hfit : off + vs.length<=c.length) (h1 : ∀ v ∈ vs,v.oneCell' = true)
  (h : wpList P ops Q rest (a.put o.dst undef) (w.setCells b off vs)) : wpList P ops Q (o :: rest) a w:=by
 have hst:=run_storeCells_cells (P:=P) b off vs 0 w (by
  intro j hj;rw [Nat.add_zero,hA.cell,List.getElem?_eq_getElem (by omega)]; rfl) (by intro j hj; exact hA.frozen _) h1
 rw [Nat.add_zero] at hst;refine wpList_plain hgd fun K hK=>?_
 unfold Oper.wp;have hrun : (execOp a.eval o).run P w = .ok .skip (w.setCells b off vs):=by
  simp only [execOp,ho,hp,hx];simp [go_sem,storeVar,hs,hst,Value.cells]
 rw [hrun];exact hK _ _ h
theorem run_loadAll {P : Program} (w : World) (b off : Nat) (vs : List Value) (hc : ∀ j v,vs[j]? = some v->w.cell? ⟨b,off + j,none⟩ = some v) : (loadCellsFrom ⟨b,off,none⟩ 0 vs.length #[]).run P w = .ok vs.toArray w :=
 run_loadCells_list (P:=P) (w:=w) ⟨b,off,none⟩ vs (by intro j v hv; rw [Addr.add_lit]; exact hc j v hv)
theorem wpList_loadAgg {P : Program} (w : World) {ops : Array Oper} {rest : List Oper} {o : Oper} {a : Act} {Q : Exit->Act->World->Prop} (hgd : o.guard = none) (p : Operand) (t : TypeId) (ho : o.op = .load t p) (b off : Nat) (vs : List Value)
  (hp : a.eval p = .pointer (some ⟨b,off,none⟩)) (hag : ∀ w : World,(isAgg t).run P w = .ok true w) (hs : ∀ w : World,(sizeOf t).run P w = .ok vs.length w) (hc : ∀ j v,vs[j]? = some v->w.cell? ⟨b,off + j,none⟩ = some v)
  (h : wpList P ops Q rest (a.put o.dst (.agg vs.toArray)) w) : wpList P ops Q (o :: rest) a w:=by
 have hl:=run_loadAll (P:=P) w b off vs hc;refine wpList_plain hgd fun K hK=>?_
 unfold Oper.wp;have hrun : (execOp a.eval o).run P w = .ok (.value (.agg vs.toArray)) w:=by
  simp only [execOp,ho,hp];simp [go_sem,Instr.loadAt,hag,hs,hl]
 rw [hrun];exact hK _ _ h
theorem results_cellAgg {P : Program} {fn : Func} {k : Tmp} {t : TypeId} (hr : fn.results = #[.cell k t]) (tmps : Array Value) (w : World) (b off : Nat) (vs : List Value) (hp : tmps.getD k undef = .pointer (some ⟨b,off,none⟩))
  (hag : ∀ w : World,(isAgg t).run P w = .ok true w) (hs : ∀ w : World,(sizeOf t).run P w = .ok vs.length w) (hc : ∀ j v,vs[j]? = some v->w.cell? ⟨b,off + j,none⟩ = some v) : (results fn tmps).run P w = .ok (.agg vs.toArray) w:=by
 have hl:=run_loadAll (P:=P) w b off vs hc;have hp' : tmps[k]?.getD undef = .pointer (some ⟨b,off,none⟩):=by simpa using hp
 simp only [results,hr];simp [go_sem,hp',hag,hs,hl]
end
section
open Go.RowKit
theorem isRead_calls (k : Int) (w : World) :
  Calls Tryz.prog 80 #[.int .i64 k] w fun e w'=>e = .returned (.bool (k == 3 || k == 4))/\w' = w:=by
 cases h1 : (k == 3)
 ·cases h2 : (k == 4)
  all_goals
   go_enter Tryz.func80,Tryz.ntmps80
   go_wp2;go_ret;exact ⟨rfl,rfl⟩
 ·go_enter Tryz.func80,Tryz.ntmps80
  go_wp2;go_ret;exact ⟨rfl,rfl⟩
section
variable {own : Own} {z : Nat} {w : World} {L : ZLay} {P : PSt}
theorem ZAt.wkLeave (h : ZAt own z w L P) {w' : World} {i : Nat} {l : WLay} {t : PThread} (hl : L.wks[i]? = some l) (ht : P.ts[i]? = some t) (hf : Fr (fun k=>k = l.b) w w')
  (hA : At w' l.b (t.leave.cells i ⟨l.b,.slice none 0 0,.slice none 0 0,.slice none 0 0,.slice none 0 0,.slice none 0 0,l.aspans⟩) 118) : ZGoes own z w L (P.setT i t.leave) w':=by
 have hT:=h.wk i l t hl ht;have hF : FrT own z (fun t=>t = .thread i\/∃ k,t = .tr i k) w w':=FrT.one hf hT.tg (.inl rfl);have hn : ∀ tag,tag≠Tag.thread i->∀ k,own k = ⟨z,tag⟩->¬ k = l.b:=by
  rintro tag hne k hk rfl; rw [hT.tg] at hk; simp at hk; exact hne hk.symm
 have hE:=Ext.refl own w;refine ⟨own,{ L with wks:=L.wks.set i ⟨l.b,.slice none 0 0,.slice none 0 0,.slice none 0 0,.slice none 0 0,.slice none 0 0,l.aspans⟩ },h.wkSet hl rfl hF hE ⟨hA,hT.tg,Row.nil _ _ _ _ _ _,Row.nil _ _ _ _ _ _,Row.nil _ _ _ _ _ _,Row.nil _ _ _ _ _ _,ListsAt.none _ _ _,?_⟩,hE,hF.zone,rfl,rfl,?_⟩
 ·exact hT.alists.fr hf hE (hn _ (by simp))
 ·show (L.wks.set i _).map (·.b) = _;rw [List.map_set];exact setL_same (by simp [hl])
theorem leave_calls (h : ZAt own z w L P) {i : Nat} {l : WLay} {t : PThread} (hl : L.wks[i]? = some l) (ht : P.ts[i]? = some t) :
  Calls Tryz.prog 79 #[.pointer (some ⟨l.b,0,none⟩)] w fun e w'=>e = .returned (.tuple #[])/\ZGoes own z w L (P.setT i t.leave) w':=by
 have HT:=(mkH (At w l.b _ _) <|(h.wk i l t hl ht).at_);obtain ⟨ins,_,hrow,_⟩:=((h.wk i l t hl ht).alists).top;obtain ⟨aa,acap,hav,_⟩:=hrow.shape;clear hrow;have ha:=HT.out.cell;have haz:=HT.out.frozen;simp only [PThread.cells,hav] at ha;have H:=(mkH (ZAt own z w L P) <|h);have HL:=(mkH (L.wks[i]? = some l) <|hl);have Ht:=(mkH (P.ts[i]? = some t) <|ht);have HAV:=(mkH (l.aspans = _) <|hav);clear h hl ht hav
 go_enter Tryz.func79,Tryz.ntmps79
 go_upto_region 4 with fail
 have hA1:=(((((((HT.out.set 1 (.int .i64 0)).set 24 (.int .i64 t.work.ans.err)).set 25 (.bool t.work.ans.did)).set 26 (.int .i64 t.work.ans.value)).set 27 (.int .i64 t.work.ans.stamp)).set 28 (.slice aa t.work.ans.spans.length acap)).set 23 (.bool true)).set 2 (.bool false);have hF1 : Fr (fun k=>k = l.b) w ((((((((w.setCell ⟨l.b,1,none⟩ (.int .i64 0)).setCell ⟨l.b,24,none⟩ (.int .i64 t.work.ans.err)).setCell ⟨l.b,25,none⟩ (.bool t.work.ans.did)).setCell ⟨l.b,26,none⟩ (.int .i64 t.work.ans.value)).setCell ⟨l.b,27,none⟩ (.int .i64 t.work.ans.stamp)).setCell ⟨l.b,28,none⟩ (.slice aa t.work.ans.spans.length acap)).setCell ⟨l.b,23,none⟩ (.bool true)).setCell ⟨l.b,2,none⟩ (.bool false)):=by
  repeat (with_reducible first | refine Fr.set1 ?_ _ _ | exact Fr.refl _ _)
 have HA1:=(mkH (At _ l.b _ _) <|hA1);have HF1:=(mkH (Fr _ w _) <|hF1);clear hA1 hF1 ha haz;generalize (((((((w.setCell ⟨l.b,1,none⟩ (.int .i64 0)).setCell ⟨l.b,24,none⟩ (.int .i64 t.work.ans.err)).setCell ⟨l.b,25,none⟩ (.bool t.work.ans.did)).setCell ⟨l.b,26,none⟩ (.int .i64 t.work.ans.value)).setCell ⟨l.b,27,none⟩ (.int .i64 t.work.ans.stamp)).setCell ⟨l.b,28,none⟩ (.slice aa t.work.ans.spans.length acap)).setCell ⟨l.b,23,none⟩ (.bool true)).setCell ⟨l.b,2,none⟩ (.bool false) = w1 at *;have hwork : ∀ w : World,(sizeOf 116).run Tryz.prog w = .ok 20 w:=fun _=>by kernel_rfl
 go_wp2_with (refine wpList_storeAgg w1 rfl _ _ 116 rfl l.b 3 [.int .i64 0,.int .i64 0,.int .i64 0,.slice none 0 0,.int .i64 0,.int .i64 0,.int .i64 0,.int .i64 0,.int .i64 0,.int .i64 0,.slice none 0 0,.int .i64 0,.int .i64 0,.slice none 0 0,.slice none 0 0,.int .i64 0,.bool false,.int .i64 0,.int .i64 0,.slice none 0 0] rfl rfl hwork _ _ HA1.out (by simp [PThread.cells]) (by simp [Value.oneCell']) ?_)
 go_end0
 refine ⟨rfl,H.out.wkLeave HL.out Ht.out (Fr.setCells (S:=fun k=>k = l.b) rfl _ _ _ HF1.out) ?_⟩;rw [HAV.out];have hX:=At.setCells [.int .i64 0,.int .i64 0,.int .i64 0,.slice none 0 0,.int .i64 0,.int .i64 0,.int .i64 0,.int .i64 0,.int .i64 0,.int .i64 0,.slice none 0 0,.int .i64 0,.int .i64 0,.slice none 0 0,.slice none 0 0,.int .i64 0,.bool false,.int .i64 0,.int .i64 0,.slice none 0 0] 3 w1 _ HA1.out;simp only [setAll,PThread.cells,List.set_cons_zero,List.set_cons_succ] at hX;simp only [PThread.cells,PThread.leave,PWork.zero,b2i_false,Int.natCast_zero];exact hX
end
end
end Go.Proofs.YtfccelbmacjifabGreat
