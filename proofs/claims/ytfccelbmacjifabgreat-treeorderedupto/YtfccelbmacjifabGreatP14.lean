import Derived.Test.YtfccelbmacjifabGreatP0
import Derived.Test.YtfccelbmacjifabGreatP13
set_option linter.unusedSimpArgs false
set_option maxRecDepth 100000
set_option maxHeartbeats 4000000
namespace Go.Proofs.YtfccelbmacjifabGreat
section
open Go.RowKit
section
variable {own : Own} {z : Nat} {w : World} {L : ZLay} {P : PSt}
theorem isPassed_calls (h : ZAt own z w L P) (n key : Int) :
  Calls Tryz.prog 110 #[.pointer (some ⟨L.s,0,none⟩),.int .i64 n,.int .i64 key] w fun e w'=>e = .returned (.bool (P.isPassed n key))/\Fr (fun _=>False) w w':=by
 have hs:=h.hd.cell;simp only [PSt.head] at hs;have H:=(mkH (ZAt own z w L P) <|h);clear h
 go_enter Tryz.func110,Tryz.ntmps110
 go_wp2_with fail;refine (Node_calls H.out.mem n).mono ?_;rintro e w1 ⟨rfl,hF⟩;have H1:=(mkH (ZAt own z w1 L P) <|H.out.calm hF);have HF1:=(mkH (Fr _ w w1) <|hF);clear hF H hs;have hs:=H1.out.hd.cell;have hsl:=H1.out.hd.lt;simp only [PSt.head] at hs;have hE : Hid (P.isPassed n key = if P.kind = 1 then (P.mem.node n).links == 2 else decide ((P.mem.node n).key < key)):=rfl;generalize P.mem.node n = x at hE;unfold nodeVal;cases hk : (P.kind == 1)
 ·have hk' : ¬ P.kind = 1:=by simpa using hk
  rw [if_neg hk'] at hE;by_cases hlt : x.key < key
  ·rw [decide_eq_true hlt] at hE;go_wp2;go_ret;refine ⟨ret_bool hE.out.symm,HF1.out.trans ?_⟩
   repeat (with_reducible first | refine Fr.alloc ?_ _ | exact Fr.refl _ _)
  ·rw [decide_eq_false hlt] at hE;go_wp2;go_ret;refine ⟨ret_bool (by first | exact hE.out.symm | (rw [hE.out]; simp; omega)),HF1.out.trans ?_⟩
   repeat (with_reducible first | refine Fr.alloc ?_ _ | exact Fr.refl _ _)
 ·have hk' : P.kind = 1:=by simpa using hk
  rw [if_pos hk'] at hE;go_wp2_with fail;refine (IsInner_calls x _).mono ?_;rintro e w2 ⟨rfl,hF⟩;have HF2:=(mkH (Fr _ _ w2) <|hF);clear hF hs;go_wp2;go_ret;refine ⟨ret_bool hE.out.symm,HF1.out.trans (Fr.trans ?_ HF2.out)⟩
  repeat (with_reducible first | refine Fr.alloc ?_ _ | exact Fr.refl _ _)
theorem meetsKey_calls (h : ZAt own z w L P) {i : Nat} {l : WLay} {t : PThread} (hl : L.wks[i]? = some l) (ht : P.ts[i]? = some t) :
  Calls Tryz.prog 122 #[.pointer (some ⟨L.s,0,none⟩),.pointer (some ⟨l.b,0,none⟩)] w fun e w'=>e = .returned (.bool (P.meetsKey t.work))/\Fr (fun _=>False) w w':=by
 have H:=(mkH (ZAt own z w L P) <|h);have HL:=(mkH (L.wks[i]? = some l) <|hl);have Ht:=(mkH (P.ts[i]? = some t) <|ht);clear h hl ht
 go_enter Tryz.func122,Tryz.ntmps122
 go_wp2_with fail;refine wp_region_calm [9] 0 rfl (by kernel_rfl) (by kernel_rfl) (by kernel_rfl) (by decide) (by kernel_rfl) (by decide) ?_;intro U W hU hW;have hau : ∀ u o,(W u).cell? ⟨L.s,o,none⟩ = (P.head L)[o]?:=fun u=>((H.out).calm (hW u)).hd.cell
 have hlu : ∀ u o,(W u).cell? ⟨l.b,o,none⟩ = (t.cells i l)[o]?:=fun u=>(((H.out).calm (hW u)).wk i l t HL.out Ht.out).at_.cell
 simp only [PSt.head] at hau;simp only [PThread.cells] at hlu;clear hW
 repeat (refine mix_read rfl rfl ?_; go_big_quiet_step (fail); refine wpQuiet_nil ?_)
 refine mix_effC (nodeVal (P.mem.node t.work.ahead)) rfl rfl rfl ?_ ?_
 ·intro w' hw';go_simp;refine (Node_calls (H.out.calm hw').mem t.work.ahead).mono ?_;rintro e w'' ⟨rfl,hF⟩;exact ⟨rfl,hw'.trans hF⟩
 have hfd:=field_key (P.mem.node t.work.ahead);go_simp
 repeat (refine mix_read rfl rfl ?_; go_big_quiet_step (fail); refine wpQuiet_nil ?_)
 refine mix_nil ?_;intro w2 hw2;clear hau hlu;go_wp2;go_ret;exact ⟨ret_bool rfl,hw2⟩
theorem takesOut_calls (h : ZAt own z w L P) {i : Nat} {l : WLay} {t : PThread} (hl : L.wks[i]? = some l) (ht : P.ts[i]? = some t) :
  Calls Tryz.prog 133 #[.pointer (some ⟨L.s,0,none⟩),.pointer (some ⟨l.b,0,none⟩)] w fun e w'=>e = .returned (.bool (P.takesOut t.work))/\Fr (fun _=>False) w w':=by
 obtain ⟨ha,haz,hal,hs,hsz,hsl,n1,n2⟩:=h.view hl ht;simp only [PThread.cells,PSt.head] at ha hs;have H:=(mkH (ZAt own z w L P) <|h);have HL:=(mkH (L.wks[i]? = some l) <|hl);have Ht:=(mkH (P.ts[i]? = some t) <|ht);clear h hl ht;cases hk : (t.work.kind == 2)
 ·have hE : Hid (P.takesOut t.work = false):=by show _ = _; simp [PSt.takesOut,hk]
  go_enter Tryz.func133,Tryz.ntmps133
  go_wp2;go_ret;exact ⟨ret_bool hE.out.symm,Fr.refl _ _⟩
 ·have hE : Hid (P.takesOut t.work = P.meetsKey t.work):=by show _ = _; simp [PSt.takesOut,hk]
  go_enter Tryz.func133,Tryz.ntmps133
  go_wp2_with fail;refine (meetsKey_calls H.out HL.out Ht.out).mono ?_;rintro e w1 ⟨rfl,hF⟩;have HF:=(mkH (Fr _ w w1) <|hF);clear hF ha hs haz hsz;go_wp2;go_ret;exact ⟨ret_bool hE.out.symm,HF.out⟩
theorem isAsFound_calls (h : ZAt own z w L P) (n to key : Int) :
  Calls Tryz.prog 134 #[.pointer (some ⟨L.s,0,none⟩),.int .i64 n,.int .i64 to,.int .i64 key] w fun e w'=>e = .returned (.bool (P.asFound n to key))/\Fr (fun _=>False) w w':=by
 have hs:=h.hd.cell;simp only [PSt.head] at hs;have H:=(mkH (ZAt own z w L P) <|h);clear h
 go_enter Tryz.func134,Tryz.ntmps134
 go_wp2_with fail;refine (Node_calls H.out.mem n).mono ?_;rintro e w1 ⟨rfl,hF⟩;have H1:=(mkH (ZAt own z w1 L P) <|H.out.calm hF);have HF1:=(mkH (Fr _ w w1) <|hF);clear hF H hs;have hE : Hid (P.asFound n to key = (!(P.mem.node n).dead && P.leadsFrom n key == to)):=rfl;generalize P.mem.node n = x at hE;have hfd:=field_dead x;cases hd : x.dead
 ·rw [hd] at hfd;have hE' : Hid (P.asFound n to key = (P.leadsFrom n key == to)):=by show _ = _; rw [hE.out,hd]; simp
  go_wp2_with fail;refine (leadsFrom_calls H1.out n key).mono ?_;rintro e w2 ⟨rfl,hF⟩;have HF2:=(mkH (Fr _ w1 w2) <|hF);clear hF;go_wp2;go_ret;exact ⟨ret_bool hE'.out.symm,HF1.out.trans HF2.out⟩
 ·rw [hd] at hfd;have hE' : Hid (P.asFound n to key = false):=by show _ = _; rw [hE.out,hd]; simp
  go_wp2;go_ret;exact ⟨ret_bool hE'.out.symm,HF1.out⟩
theorem isOutdated_list (h : ZAt own z w L P) (hk : P.kind = 0) {i : Nat} {l : WLay} {t : PThread} (hl : L.wks[i]? = some l) (ht : P.ts[i]? = some t) :
  Calls Tryz.prog 120 #[.pointer (some ⟨L.s,0,none⟩),.pointer (some ⟨l.b,0,none⟩)] w fun e w'=>e = .returned (.bool (P.outdated t.work))/\Fr (fun _=>False) w w':=by
 have H:=(mkH (ZAt own z w L P) <|h);have HL:=(mkH (L.wks[i]? = some l) <|hl);have Ht:=(mkH (P.ts[i]? = some t) <|ht);clear h hl ht
 go_enter Tryz.func120,Tryz.ntmps120
 go_wp2_with fail;refine wp_region_calm [16] 0 rfl (by kernel_rfl) (by kernel_rfl) (by kernel_rfl) (by decide) (by kernel_rfl) (by decide) ?_;intro U W hU hW;have hau : ∀ u o,(W u).cell? ⟨L.s,o,none⟩ = (P.head L)[o]?:=fun u=>((H.out).calm (hW u)).hd.cell
 have hlu : ∀ u o,(W u).cell? ⟨l.b,o,none⟩ = (t.cells i l)[o]?:=fun u=>(((H.out).calm (hW u)).wk i l t HL.out Ht.out).at_.cell
 simp only [PSt.head] at hau;simp only [PThread.cells] at hlu;clear hW
 repeat (refine mix_read rfl rfl ?_; go_big_quiet_step (fail); refine wpQuiet_nil ?_)
 refine mix_effC (.bool (P.asFound t.work.stand t.work.ahead t.work.key)) rfl rfl rfl ?_ ?_
 ·intro w' hw';go_simp;refine (isAsFound_calls (H.out.calm hw') _ _ _).mono ?_;rintro e w'' ⟨rfl,hF⟩;exact ⟨rfl,hw'.trans hF⟩
 go_simp
 repeat (refine mix_read rfl rfl ?_; go_big_quiet_step (fail); refine wpQuiet_nil ?_)
 refine mix_nil ?_;intro w2 hw2;clear hau hlu;have HF2:=(mkH (Fr _ w w2) <|hw2);have H2:=(mkH (ZAt own z w2 L P) <|H.out.calm hw2);clear hw2 H;obtain ⟨ha,haz,hal,hs,hsz,hsl,n1,n2⟩:=H2.out.view HL.out Ht.out;simp only [PThread.cells,PSt.head,hk] at ha hs;clear haz hsz;cases hf : P.asFound t.work.stand t.work.ahead t.work.key
 ·have hE : Hid (P.outdated t.work = true):=by show _ = _; simp [PSt.outdated,hf]
  go_wp2;go_ret;exact ⟨ret_bool hE.out.symm,HF2.out⟩
 ·have hE : Hid (P.outdated t.work = (P.mem.node t.work.ahead).dead):=by show _ = _; simp [PSt.outdated,hf,hk]
  go_wp2_with fail;refine wp_region_calm [9] 0 rfl (by kernel_rfl) (by kernel_rfl) (by kernel_rfl) (by decide) (by kernel_rfl) (by decide) ?_;intro U W hU hW;have hau : ∀ u o,(W u).cell? ⟨L.s,o,none⟩ = (P.head L)[o]?:=fun u=>((H2.out).calm (hW u)).hd.cell
  have hlu : ∀ u o,(W u).cell? ⟨l.b,o,none⟩ = (t.cells i l)[o]?:=fun u=>(((H2.out).calm (hW u)).wk i l t HL.out Ht.out).at_.cell
  simp only [PSt.head] at hau;simp only [PThread.cells] at hlu;clear hW ha hs
  repeat (refine mix_read rfl rfl ?_; go_big_quiet_step (fail); refine wpQuiet_nil ?_)
  refine mix_effC (nodeVal (P.mem.node t.work.ahead)) rfl rfl rfl ?_ ?_
  ·intro w' hw';go_simp;refine (Node_calls (H2.out.calm hw').mem t.work.ahead).mono ?_;rintro e w'' ⟨rfl,hF⟩;exact ⟨rfl,hw'.trans hF⟩
  have hfd:=field_dead (P.mem.node t.work.ahead);go_simp
  repeat (refine mix_read rfl rfl ?_; go_big_quiet_step (fail); refine wpQuiet_nil ?_)
  refine mix_nil ?_;intro w3 hw3;clear hau hlu;go_wp2;go_ret;exact ⟨ret_bool hE.out.symm,HF2.out.trans hw3⟩
theorem isOutdated_tree (h : ZAt own z w L P) (hk : P.kind = 1) {i : Nat} {l : WLay} {t : PThread} (hl : L.wks[i]? = some l) (ht : P.ts[i]? = some t) :
  Calls Tryz.prog 120 #[.pointer (some ⟨L.s,0,none⟩),.pointer (some ⟨l.b,0,none⟩)] w fun e w'=>e = .returned (.bool (P.outdated t.work))/\Fr (fun _=>False) w w':=by
 have H:=(mkH (ZAt own z w L P) <|h);have HL:=(mkH (L.wks[i]? = some l) <|hl);have Ht:=(mkH (P.ts[i]? = some t) <|ht);clear h hl ht
 go_enter Tryz.func120,Tryz.ntmps120
 go_wp2_with fail;refine wp_region_calm [16] 0 rfl (by kernel_rfl) (by kernel_rfl) (by kernel_rfl) (by decide) (by kernel_rfl) (by decide) ?_;intro U W hU hW;have hau : ∀ u o,(W u).cell? ⟨L.s,o,none⟩ = (P.head L)[o]?:=fun u=>((H.out).calm (hW u)).hd.cell
 have hlu : ∀ u o,(W u).cell? ⟨l.b,o,none⟩ = (t.cells i l)[o]?:=fun u=>(((H.out).calm (hW u)).wk i l t HL.out Ht.out).at_.cell
 simp only [PSt.head] at hau;simp only [PThread.cells] at hlu;clear hW
 repeat (refine mix_read rfl rfl ?_; go_big_quiet_step (fail); refine wpQuiet_nil ?_)
 refine mix_effC (.bool (P.asFound t.work.stand t.work.ahead t.work.key)) rfl rfl rfl ?_ ?_
 ·intro w' hw';go_simp;refine (isAsFound_calls (H.out.calm hw') _ _ _).mono ?_;rintro e w'' ⟨rfl,hF⟩;exact ⟨rfl,hw'.trans hF⟩
 go_simp
 repeat (refine mix_read rfl rfl ?_; go_big_quiet_step (fail); refine wpQuiet_nil ?_)
 refine mix_nil ?_;intro w2 hw2;clear hau hlu;have HF2:=(mkH (Fr _ w w2) <|hw2);have H2:=(mkH (ZAt own z w2 L P) <|H.out.calm hw2);clear hw2 H;obtain ⟨ha,haz,hal,hs,hsz,hsl,n1,n2⟩:=H2.out.view HL.out Ht.out;simp only [PThread.cells,PSt.head,hk] at ha hs;clear haz hsz;cases hf : P.asFound t.work.stand t.work.ahead t.work.key
 ·have hE : Hid (P.outdated t.work = true):=by show _ = _; simp [PSt.outdated,hf]
  go_wp2;go_ret;exact ⟨ret_bool hE.out.symm,HF2.out⟩
 ·cases hto : P.takesOut t.work
  ·have hE : Hid (P.outdated t.work = false):=by show _ = _; simp [PSt.outdated,hf,hk,hto]
   go_wp2_with fail;refine wp_region_calm [2] 0 rfl (by kernel_rfl) (by kernel_rfl) (by kernel_rfl) (by decide) (by kernel_rfl) (by decide) ?_;intro U W hU hW;clear hW ha hs
   repeat (refine mix_read rfl rfl ?_; go_big_quiet_step (fail); refine wpQuiet_nil ?_)
   refine mix_effC (.bool false) rfl rfl rfl ?_ ?_
   ·intro w' hw';go_simp;refine (takesOut_calls (H2.out.calm hw') HL.out Ht.out).mono ?_;rintro e w'' ⟨rfl,hF⟩;exact ⟨by rw [hto],hw'.trans hF⟩
   go_simp;refine mix_read rfl rfl ?_
   go_big_quiet_step (fail)
   refine wpQuiet_nil ?_
   repeat (refine mix_skip rfl rfl ?_; go_simp)
   repeat (refine mix_read rfl rfl ?_; go_big_quiet_step (fail); refine wpQuiet_nil ?_)
   refine mix_nil ?_;intro w3 hw3;go_wp2;go_ret;exact ⟨ret_bool hE.out.symm,HF2.out.trans hw3⟩
  ·have hE : Hid (P.outdated t.work = !P.asFound t.work.above t.work.stand t.work.key):=by show _ = _; simp [PSt.outdated,hf,hk,hto]
   go_wp2_with fail;refine wp_region_calm [2,3,20] 2 rfl (by kernel_rfl) (by kernel_rfl) (by kernel_rfl) (by decide) (by kernel_rfl) (by decide) ?_;intro U W hU hW;have hlu : ∀ u o,(W u).cell? ⟨l.b,o,none⟩ = (t.cells i l)[o]?:=fun u=>(((H2.out).calm (hW u)).wk i l t HL.out Ht.out).at_.cell
   simp only [PThread.cells] at hlu;clear hW ha hs
   repeat (refine mix_read rfl rfl ?_; go_big_quiet_step (fail); refine wpQuiet_nil ?_)
   refine mix_effC (.bool true) rfl rfl rfl ?_ ?_
   ·intro w' hw';go_simp;refine (takesOut_calls (H2.out.calm hw') HL.out Ht.out).mono ?_;rintro e w'' ⟨rfl,hF⟩;exact ⟨by rw [hto],hw'.trans hF⟩
   go_simp;refine mix_effC (.bool true) rfl rfl rfl ?_ ?_
   ·intro w' hw';go_simp;exact ⟨rfl,hw'⟩
   go_simp
   repeat (refine mix_read rfl rfl ?_; go_big_quiet_step (fail); refine wpQuiet_nil ?_)
   refine mix_effG (.bool (P.asFound t.work.above t.work.stand t.work.key)) rfl rfl rfl ?_ ?_
   ·intro w' hw';go_simp;refine (isAsFound_calls (H2.out.calm hw') _ _ _).mono ?_;rintro e w'' ⟨rfl,hF⟩;exact ⟨rfl,hw'.trans hF⟩
   go_simp
   repeat (refine mix_read rfl rfl ?_; go_big_quiet_step (fail); refine wpQuiet_nil ?_)
   refine mix_nil ?_;intro w3 hw3;go_wp2;go_ret;exact ⟨ret_bool hE.out.symm,HF2.out.trans hw3⟩
theorem isOutdated_calls (h : ZAt own z w L P) (hk : P.kind = 0\/P.kind = 1) {i : Nat} {l : WLay} {t : PThread} (hl : L.wks[i]? = some l) (ht : P.ts[i]? = some t) :
  Calls Tryz.prog 120 #[.pointer (some ⟨L.s,0,none⟩),.pointer (some ⟨l.b,0,none⟩)] w fun e w'=>e = .returned (.bool (P.outdated t.work))/\Fr (fun _=>False) w w':=by
 rcases hk with e | e
 ·exact isOutdated_list h e hl ht
 ·exact isOutdated_tree h e hl ht
end
end
section
open Go.RowKit
theorem wp_region_one {Pg : Program} {id : Nat} {Q : Exit->Go.Act->World->Prop} {a : Go.Act} {w : World} {l : List Oper} (eff : Nat) (ml : MLay) (C : World->Prop) (hC : ∀ w',C w'->MFr ml w w')
  (hm : Pg.follows .mixedOrders = true) (hB : Region.lexB .any l.toArray = true) (hch : chainB .any l.toArray [eff] = true) (hlow : lowB .any l.toArray = true) (hin : eff < l.length)
  (h : ∀ (U : Type) (W : U->World),Nonempty U->(∀ u,MFr ml w (W u))->wpMix Pg l.toArray (fun w'=>∃ u,w' = W u) (fun k w'=>(k = 0->Fr (fun _=>False) w w')/\(k = 1->C w')) [eff] (fun a'=>∀ w',C w'->Q .normal a' w') l 0 0 a) :
  (Code.region id l.toArray true).wp Pg Q a w:=by
 refine wp_region_mixC [eff] (fun k w'=>(k = 0->Fr (fun _=>False) w w')/\(k = 1->C w')) 0 rfl hm hB hch (by simp) hlow (by simpa using hin) ⟨fun _=>(Fr.refl _ _).drew,by simp⟩ ?_;intro U W hU hW
 have:=h U W hU (fun u=>by
  obtain ⟨k,hk,h0,h1⟩:=hW u;rcases (show k = 0\/k = 1 by omega) with rfl | rfl
  ·exact MFr.of0 (h0 rfl)
  ·exact hC _ (h1 rfl))
 simpa using this
section
variable {own : Own} {z : Nat} {w : World} {L : ZLay} {P : PSt}
theorem ZAt.memCells (h : ZAt own z w L P) {w' : World} (hf : MFr L.ml w w') : (∀ o,w'.cell? ⟨L.s,o,none⟩ = (P.head L)[o]?)/\∀ (i : Nat) (l : WLay) (t : PThread),L.wks[i]? = some l->P.ts[i]? = some t->∀ o,w'.cell? ⟨l.b,o,none⟩ = (t.cells i l)[o]?:=by
 have hn : ∀ b tag,own b = ⟨z,tag⟩->tag≠Tag.oth 1->tag≠Tag.oth 2->¬ (b = L.ml.nb\/b = L.ml.eb):=by
  rintro b tag hb h1 h2 (rfl | rfl)
  ·rw [h.no] at hb; simp at hb; exact h1 hb.symm
  ·rw [h.eo] at hb; simp at hb; exact h2 hb.symm
 exact ⟨(Fr.at hf h.hd (hn _ _ h.hown (by simp) (by simp))).cell,fun i l t hl ht=>(Fr.at hf (h.wk i l t hl ht).at_ (hn _ _ (h.wk i l t hl ht).tg (by simp) (by simp))).cell⟩
theorem setT_work {i : Nat} {t : PThread} (ht : P.ts[i]? = some t) (k : PWork) : P.setW i k = P.setT i { t with work:=k }:=by
 unfold PSt.setW PSt.setT
 congr 1
 apply List.ext_getElem?;intro j;rw [List.getElem?_modify,List.getElem?_set];by_cases h : i = j
 ·subst h;obtain ⟨h1,h2⟩:=List.getElem?_eq_some_iff.1 ht;simp [h1,h2]
 ·simp [h]
theorem giveBackLocks_calls (h : ZAt own z w L P) {i : Nat} {l : WLay} {t : PThread} (hl : L.wks[i]? = some l) (ht : P.ts[i]? = some t) :
  Calls Tryz.prog 121 #[.pointer (some ⟨L.s,0,none⟩),.pointer (some ⟨l.b,0,none⟩)] w fun e w'=>e = .returned (.tuple #[])/\ZAt own z w' L ((P.setM (P.mem.unlock i)).setT i { t with work:={ t.work with locks:=0 } })/\FrZ own z w w':=by
 have H:=(mkH (ZAt own z w L P) <|h);have HL:=(mkH (L.wks[i]? = some l) <|hl);have Ht:=(mkH (P.ts[i]? = some t) <|ht);clear h hl ht
 go_enter Tryz.func121,Tryz.ntmps121
 go_wp2_with fail;refine wp_region_one 8 L.ml (fun w'=>MAt w' L.ml (P.mem.unlock i)/\MFr L.ml w w') (fun _ h=>h.2) (by kernel_rfl) (by kernel_rfl) (by kernel_rfl) (by kernel_rfl) (by decide) ?_;intro U W hU hW;have hau : ∀ u o,(W u).cell? ⟨L.s,o,none⟩ = (P.head L)[o]?:=fun u=>(H.out.memCells (hW u)).1
 have hlu : ∀ u o,(W u).cell? ⟨l.b,o,none⟩ = (t.cells i l)[o]?:=fun u=>(H.out.memCells (hW u)).2 i l t HL.out Ht.out
 simp only [PSt.head] at hau;simp only [PThread.cells] at hlu;clear hW
 repeat (refine mix_read rfl rfl ?_; go_big_quiet_step (fail); refine wpQuiet_nil ?_)
 refine mix_effC (.tuple #[]) rfl rfl rfl ?_ ?_
 ·intro w' hw';have hw0:=hw'.1 rfl;go_simp;refine (Unlock_calls (H.out.calm hw0).mem i).mono ?_;rintro e w'' ⟨rfl,hM,hF⟩;exact ⟨rfl,hM,(MFr.of0 hw0).trans hF⟩
 go_simp;refine mix_nil ?_;intro w2 hM2 hF2;clear hau hlu;obtain ⟨hZ2,hZF⟩:=H.out.memSet hM2 hF2;have H2:=(mkH (ZAt own z w2 L (P.setM (P.mem.unlock i))) <|hZ2);have HZF:=(mkH (FrZ own z w w2) <|hZF);clear hM2 hF2 hZ2 hZF H;obtain ⟨ha,haz,hal,hs,hsz,hsl,n1,n2⟩:=H2.out.view HL.out Ht.out;have HT:=(mkH (At w2 l.b _ _) <|(H2.out.wk i l t HL.out Ht.out).at_);simp only [PThread.cells] at ha;clear hs hsz;go_wp2
 go_end0
 have R:=H2.out.wkCells HL.out Ht.out (t':={ t with work:={ t.work with locks:=0 } }) (w':=w2.setCell ⟨l.b,12,none⟩ (.int .i64 0)) ((Fr.refl _ _).set1 _ _) (HT.out.set 12 _) rfl rfl rfl rfl rfl rfl;exact ⟨rfl,R.1,FrZ.trans HZF.out (Ext.refl _ _) R.2⟩
theorem beginWalk_calls (h : ZAt own z w L P) {i : Nat} {l : WLay} {t : PThread} (hl : L.wks[i]? = some l) (ht : P.ts[i]? = some t) :
  Calls Tryz.prog 78 #[.pointer (some ⟨l.b,0,none⟩)] w fun e w'=>e = .returned (.tuple #[])/\ZAt own z w' L (P.setT i { t with work:=t.work.home })/\FrZ own z w w':=by
 obtain ⟨ha,haz,hal,hs,hsz,hsl,n1,n2⟩:=h.view hl ht;have HT:=(mkH (At w l.b _ _) <|(h.wk i l t hl ht).at_);simp only [PThread.cells] at ha;have H:=(mkH (ZAt own z w L P) <|h);have HL:=(mkH (L.wks[i]? = some l) <|hl);have Ht:=(mkH (P.ts[i]? = some t) <|ht);clear h hl ht hs hsz
 go_enter Tryz.func78,Tryz.ntmps78
 go_wp2
 go_end0
 exact ⟨rfl,H.out.wkCells HL.out Ht.out (t':={ t with work:=t.work.home }) (((Fr.refl _ _).set1 _ _).set1 _ _) ((HT.out.set 9 _).set 7 _) rfl rfl rfl rfl rfl rfl⟩
def ansVal (a : BAns) : Value:=.agg #[.int .i64 a.err,.bool a.did,.int .i64 a.value,.int .i64 a.stamp,.slice none 0 0]
theorem ZAt.wkAns (h : ZAt own z w L P) {w' : World} {i : Nat} {l : WLay} {t t' : PThread} (hl : L.wks[i]? = some l) (ht : P.ts[i]? = some t) (hf : Fr (fun k=>k = l.b) w w') (hA : At w' l.b (t'.cells i { l with aspans:=.slice none 0 0 }) 118)
  (e1 : t'.work.spans = t.work.spans) (e2 : t'.work.made = t.work.made) (e3 : t'.work.links = t.work.links) (e4 : t'.work.noted = t.work.noted) (e6 : t'.work.ans.spans = []) (e7 : t'.last.spans = t.last.spans) :
  ZGoes own z w L (P.setT i t') w':=by
 have hT:=h.wk i l t hl ht;have hF : FrT own z (fun t=>t = .thread i\/∃ k,t = .tr i k) w w':=FrT.one hf hT.tg (.inl rfl);have hn : ∀ tag,tag≠Tag.thread i->∀ k,own k = ⟨z,tag⟩->¬ k = l.b:=by
  rintro tag hne k hk rfl; rw [hT.tg] at hk; simp at hk; exact hne hk.symm
 have hE:=Ext.refl own w;refine ⟨own,{ L with wks:=L.wks.set i { l with aspans:=.slice none 0 0 } },h.wkSet hl rfl hF hE ⟨hA,hT.tg,?_,?_,?_,?_,?_,?_⟩,hE,hF.zone,rfl,rfl,?_⟩
 ·rw [e1]; exact hT.spans.fr hf hE (hn _ (by simp))
 ·rw [e2]; exact hT.made.fr hf hE (hn _ (by simp))
 ·rw [e3]; exact hT.links.fr hf hE (hn _ (by simp))
 ·rw [e4]; exact hT.noted.fr hf hE (hn _ (by simp))
 ·rw [e6]; exact ListsAt.none _ _ _
 ·rw [e7]; exact hT.llists.fr hf hE (hn _ (by simp))
 ·show (L.wks.set i { l with aspans:=.slice none 0 0 }).map (·.b) = _;rw [List.map_set];exact setL_same (by simp [hl])
theorem settle_calls (h : ZAt own z w L P) {i : Nat} {l : WLay} {t : PThread} (hl : L.wks[i]? = some l) (ht : P.ts[i]? = some t) (a : BAns) (ha0 : a.spans = []) :
  Calls Tryz.prog 123 #[.pointer (some ⟨l.b,0,none⟩),ansVal a] w fun e w'=>e = .returned (.tuple #[])/\ZGoes own z w L (P.setT i { t with work:=t.work.settle a }) w':=by
 have hF0 : Fr (fun _=>False) w (w.alloc (.cells #[.int .i64 a.err,.bool a.did,.int .i64 a.value,.int .i64 a.stamp,.slice none 0 0] 69)):=(Fr.refl _ _).alloc _;have HA:=(mkH (At _ w.heap.size _ _) <|At.new w [.int .i64 a.err,.bool a.did,.int .i64 a.value,.int .i64 a.stamp,.slice none 0 0] 69);have H:=(mkH (ZAt own z _ L P) <|h.calm hF0);have HF0:=(mkH (Fr _ _ _) <|hF0);have HL:=(mkH (L.wks[i]? = some l) <|hl);have Ht:=(mkH (P.ts[i]? = some t) <|ht);clear h hl ht hF0;obtain ⟨ha,haz,hal,hs,hsz,hsl,n1,n2⟩:=H.out.view HL.out Ht.out;have HT:=(mkH (At _ l.b _ _) <|(H.out.wk i l t HL.out Ht.out).at_);have hac:=HA.out.cell;have hne : w.heap.size≠l.b:=(HA.out).ne (HT.out) (by decide);have hne':=hne.symm;simp only [PThread.cells] at ha;clear hs hsz;unfold ansVal
 go_enter Tryz.func123,Tryz.ntmps123
 go_wp2
 go_end0
 refine ⟨rfl,ZGoes.calm HF0.out (H.out.wkAns HL.out Ht.out (t':={ t with work:=t.work.settle a }) ?_ ((((((HT.out.set 18 _).set 19 _).set 20 _).set 21 _).set 22 _).set 7 _) rfl rfl rfl rfl ha0 rfl)⟩
 repeat (with_reducible first | refine Fr.set1 ?_ _ _ | exact Fr.refl _ _)
end
end
section
open Go.RowKit
section
variable {own : Own} {z : Nat} {w : World} {L : ZLay} {P : PSt}
theorem walk_calls (h : ZAt own z w L P) {i : Nat} {l : WLay} {t : PThread} (hl : L.wks[i]? = some l) (ht : P.ts[i]? = some t) :
  Calls Tryz.prog 96 #[.pointer (some ⟨L.s,0,none⟩),.pointer (some ⟨l.b,0,none⟩)] w fun e w'=>e = .returned (.tuple #[])/\ZAt own z w' L (P.setT i { t with work:=P.walk t.work })/\FrZ own z w w':=by
 have H:=(mkH (ZAt own z w L P) <|h);have HL:=(mkH (L.wks[i]? = some l) <|hl);have Ht:=(mkH (P.ts[i]? = some t) <|ht);clear h hl ht
 go_enter Tryz.func96,Tryz.ntmps96
 go_wp2_with fail;refine wp_region_calm [11] 0 rfl (by kernel_rfl) (by kernel_rfl) (by kernel_rfl) (by decide) (by kernel_rfl) (by decide) ?_;intro U W hU hW;have hlu : ∀ u o,(W u).cell? ⟨l.b,o,none⟩ = (t.cells i l)[o]?:=fun u=>(((H.out).calm (hW u)).wk i l t HL.out Ht.out).at_.cell
 simp only [PThread.cells] at hlu;clear hW
 repeat (refine mix_read rfl rfl ?_; go_big_quiet_step (fail); refine wpQuiet_nil ?_)
 refine mix_effC (.int .i64 (P.leadsFrom t.work.stand t.work.key)) rfl rfl rfl ?_ ?_
 ·intro w' hw';go_simp;refine (leadsFrom_calls (H.out.calm hw') _ _).mono ?_;rintro e w'' ⟨rfl,hF⟩;exact ⟨rfl,hw'.trans hF⟩
 go_simp
 repeat (refine mix_read rfl rfl ?_; go_big_quiet_step (fail); refine wpQuiet_nil ?_)
 refine mix_nil ?_;intro w2 hw2;clear hlu;have HF2:=(mkH (Fr _ w w2) <|hw2);have H2:=(mkH (ZAt own z w2 L P) <|H.out.calm hw2);clear hw2 H;have ha:=(H2.out.wk i l t HL.out Ht.out).at_.cell;simp only [PThread.cells] at ha;go_wp2_with fail;refine (isPassed_calls H2.out _ _).mono ?_;rintro e w3 ⟨rfl,hF3⟩;have H3:=(mkH (ZAt own z w3 L P) <|H2.out.calm hF3);have HF3:=(mkH (Fr _ w w3) <|HF2.out.trans hF3);clear ha hF3 H2 HF2;have HT:=(mkH (At w3 l.b _ _) <|(H3.out.wk i l t HL.out Ht.out).at_);have ha:=HT.out.cell;have haz:=HT.out.frozen;simp only [PThread.cells] at ha;have hE : Hid (P.walk t.work = if P.isPassed (P.leadsFrom t.work.stand t.work.key) t.work.key then { t.work with above:=t.work.stand,stand:=P.leadsFrom t.work.stand t.work.key } else { t.work with ahead:=P.leadsFrom t.work.stand t.work.key,next:=5 }):=rfl;cases hp : P.isPassed (P.leadsFrom t.work.stand t.work.key) t.work.key
 ·rw [hp] at hE;go_wp2
  go_end0
  rw [hE.out];have R:=H3.out.wkCells HL.out Ht.out (t':={ t with work:={ t.work with ahead:=P.leadsFrom t.work.stand t.work.key,next:=5 } }) (((Fr.refl _ _).set1 _ _).set1 _ _) ((HT.out.set 10 _).set 7 _) rfl rfl rfl rfl rfl rfl;exact ⟨rfl,R.1,FrZ.trans (Fr.mono HF3.out (fun _ _ h=>h.elim)) (Ext.refl _ _) R.2⟩
 ·rw [hp] at hE;go_wp2;refine bodyPost_ret (results_none rfl _ _ _) rfl ?_;rw [hE.out];have R:=H3.out.wkCells HL.out Ht.out (t':={ t with work:={ t.work with above:=t.work.stand,stand:=P.leadsFrom t.work.stand t.work.key } }) (((Fr.refl _ _).set1 _ _).set1 _ _) ((HT.out.set 11 _).set 9 _) rfl rfl rfl rfl rfl rfl;exact ⟨rfl,R.1,FrZ.trans (Fr.mono HF3.out (fun _ _ h=>h.elim)) (Ext.refl _ _) R.2⟩
theorem locksWanted_list (h : ZAt own z w L P) (hk : P.kind = 0) {i : Nat} {l : WLay} {t : PThread} (hl : L.wks[i]? = some l) (ht : P.ts[i]? = some t) :
  Calls Tryz.prog 118 #[.pointer (some ⟨L.s,0,none⟩),.pointer (some ⟨l.b,0,none⟩)] w fun e w'=>∃ b,e = .returned (.slice (some ⟨b,0,none⟩) (P.wanted t.work).length (P.wanted t.work).length)/\At w' b (intCells (P.wanted t.work)) 3/\Fr (fun _=>False) w w':=by
 have H:=(mkH (ZAt own z w L P) <|h);have HL:=(mkH (L.wks[i]? = some l) <|hl);have Ht:=(mkH (P.ts[i]? = some t) <|ht);clear h hl ht
 go_enter Tryz.func118,Tryz.ntmps118
 go_wp2_with fail;refine (takesOut_calls H.out HL.out Ht.out).mono ?_;rintro e w1 ⟨rfl,hF⟩;have H1:=(mkH (ZAt own z w1 L P) <|H.out.calm hF);have HF1:=(mkH (Fr _ w w1) <|hF);clear hF H;obtain ⟨ha,haz,hal,hs,hsz,hsl,n1,n2⟩:=H1.out.view HL.out Ht.out;simp only [PThread.cells,PSt.head,hk] at ha hs;clear haz hsz;cases hp : P.takesOut t.work
 ·have hE : Hid (P.wanted t.work = [t.work.stand]):=by show _ = _; simp [PSt.wanted,hp]
  go_wp2;go_ret;rw [hE.out];exact ⟨w1.heap.size,rfl,At.new w1 [.int .i64 t.work.stand] _,HF1.out.alloc _⟩
 ·have hE : Hid (P.wanted t.work = [t.work.stand,t.work.ahead]):=by show _ = _; simp [PSt.wanted,hp,hk]
  go_wp2_with fail;go_region;go_wp2;go_ret;rw [hE.out];refine ⟨_,rfl,?_,HF1.out.trans ?_⟩
  ·exact At.drewN (At.new _ [.int .i64 t.work.stand,.int .i64 t.work.ahead] _) 1
  ·repeat (with_reducible first | refine Fr.alloc ?_ _ | refine Fr.drewN ?_ _ | refine Fr.drew ?_ | exact Fr.refl _ _)
theorem locksWanted_tree (h : ZAt own z w L P) (hk : P.kind = 1) {i : Nat} {l : WLay} {t : PThread} (hl : L.wks[i]? = some l) (ht : P.ts[i]? = some t) :
  Calls Tryz.prog 118 #[.pointer (some ⟨L.s,0,none⟩),.pointer (some ⟨l.b,0,none⟩)] w fun e w'=>∃ b,e = .returned (.slice (some ⟨b,0,none⟩) (P.wanted t.work).length (P.wanted t.work).length)/\At w' b (intCells (P.wanted t.work)) 3/\Fr (fun _=>False) w w':=by
 have H:=(mkH (ZAt own z w L P) <|h);have HL:=(mkH (L.wks[i]? = some l) <|hl);have Ht:=(mkH (P.ts[i]? = some t) <|ht);clear h hl ht
 go_enter Tryz.func118,Tryz.ntmps118
 go_wp2_with fail;refine (takesOut_calls H.out HL.out Ht.out).mono ?_;rintro e w1 ⟨rfl,hF⟩;have H1:=(mkH (ZAt own z w1 L P) <|H.out.calm hF);have HF1:=(mkH (Fr _ w w1) <|hF);clear hF H;obtain ⟨ha,haz,hal,hs,hsz,hsl,n1,n2⟩:=H1.out.view HL.out Ht.out;simp only [PThread.cells,PSt.head,hk] at ha hs;clear haz hsz;cases hp : P.takesOut t.work
 ·have hE : Hid (P.wanted t.work = [t.work.stand]):=by show _ = _; simp [PSt.wanted,hp]
  go_wp2;go_ret;rw [hE.out];exact ⟨w1.heap.size,rfl,At.new w1 [.int .i64 t.work.stand] _,HF1.out.alloc _⟩
 ·have hE : Hid (P.wanted t.work = [t.work.above,t.work.stand]):=by show _ = _; simp [PSt.wanted,hp,hk]
  go_wp2_with fail;go_region;go_wp2;go_ret;rw [hE.out];refine ⟨_,rfl,?_,HF1.out.trans ?_⟩
  ·exact At.drewN (At.new _ [.int .i64 t.work.above,.int .i64 t.work.stand] _) 1
  ·repeat (with_reducible first | refine Fr.alloc ?_ _ | refine Fr.drewN ?_ _ | refine Fr.drew ?_ | exact Fr.refl _ _)
theorem locksWanted_calls (h : ZAt own z w L P) (hk : P.kind = 0\/P.kind = 1) {i : Nat} {l : WLay} {t : PThread} (hl : L.wks[i]? = some l) (ht : P.ts[i]? = some t) :
  Calls Tryz.prog 118 #[.pointer (some ⟨L.s,0,none⟩),.pointer (some ⟨l.b,0,none⟩)] w fun e w'=>∃ b,e = .returned (.slice (some ⟨b,0,none⟩) (P.wanted t.work).length (P.wanted t.work).length)/\At w' b (intCells (P.wanted t.work)) 3/\Fr (fun _=>False) w w':=by
 rcases hk with e | e
 ·exact locksWanted_list h e hl ht
 ·exact locksWanted_tree h e hl ht
theorem lock_calls (h : ZAt own z w L P) (hk : P.kind = 0\/P.kind = 1) {i : Nat} {l : WLay} {t : PThread} (hl : L.wks[i]? = some l) (ht : P.ts[i]? = some t) (hlk : t.work.locks<=2) :
  Calls Tryz.prog 97 #[.pointer (some ⟨L.s,0,none⟩),.pointer (some ⟨l.b,0,none⟩)] w fun e w'=>e = .returned (.int .i64 (P.lock i t.work).2)/\ZAt own z w' L (P.lock i t.work).1/\FrZ own z w w':=by
 have H:=(mkH (ZAt own z w L P) <|h);have HL:=(mkH (L.wks[i]? = some l) <|hl);have Ht:=(mkH (P.ts[i]? = some t) <|ht);have hwl : (P.wanted t.work).length<=2:=by unfold PSt.wanted; split <;> (try split) <;> simp
 clear h hl ht
 go_enter Tryz.func97,Tryz.ntmps97
 go_wp2_with fail;refine (locksWanted_calls H.out hk HL.out Ht.out).mono ?_;rintro e w1 ⟨b,rfl,hA,hF⟩;have H1:=(mkH (ZAt own z w1 L P) <|H.out.calm hF);have HF1:=(mkH (Fr _ w w1) <|hF);have HA:=(mkH (At w1 b _ _) <|hA);clear hF H hA;have ha:=(H1.out.wk i l t HL.out Ht.out).at_.cell;simp only [PThread.cells] at ha;by_cases hlt : t.work.locks < (P.wanted t.work).length
 ·have hp : (P.wanted t.work)[t.work.locks]? = some (P.wanted t.work)[t.work.locks]:=List.getElem?_eq_getElem hlt;generalize (P.wanted t.work)[t.work.locks] = p at hp;have hE : Hid (P.lock i t.work = if (P.mem.lock p i).2 then ((P.setM (P.mem.lock p i).1).setW i { t.work with locks:=t.work.locks + 1,next:=if (P.wanted t.work).length<=t.work.locks + 1 then 6 else t.work.next },1) else (P,2)):=by
   show _ = _; simp only [PSt.lock,if_pos hlt,hp,Option.getD_some]
  have HP:=(mkH ((P.wanted t.work)[t.work.locks]? = some p) <|hp);generalize (P.wanted t.work).length = nw at *;clear hp;go_wp2_with fail;refine wp_region_one 16 L.ml (fun w'=>MAt w' L.ml (P.mem.lock p i).1/\MFr L.ml w1 w') (fun _ h=>h.2) (by kernel_rfl) (by kernel_rfl) (by kernel_rfl) (by kernel_rfl) (by decide) ?_;intro U W hU hW;have hau : ∀ u o,(W u).cell? ⟨L.s,o,none⟩ = (P.head L)[o]?:=fun u=>(H1.out.memCells (hW u)).1
  have hlu : ∀ u o,(W u).cell? ⟨l.b,o,none⟩ = (t.cells i l)[o]?:=fun u=>(H1.out.memCells (hW u)).2 i l t HL.out Ht.out
  have hbu : ∀ u,(W u).cell? ⟨b,t.work.locks,none⟩ = some (.int .i64 p):=by
   intro u;have hnb : ¬ (b = L.ml.nb\/b = L.ml.eb):=by
    have h1:=HA.out.ne_row H1.out.mem.nodes (by decide);have h2:=HA.out.ne_row H1.out.mem.ents (by decide);simp [Value.ownBlock] at h1 h2;rintro (rfl | rfl)
    ·exact h1 rfl
    ·exact h2 rfl
   rw [(Fr.at (hW u) HA.out hnb).cell];simp [intCells,HP.out]
  simp only [PSt.head] at hau;simp only [PThread.cells] at hlu;clear hW ha
  repeat (refine mix_read rfl rfl ?_; go_big_quiet_step (fail); refine wpQuiet_nil ?_)
  refine mix_effC (.bool (P.mem.lock p i).2) rfl rfl rfl ?_ ?_
  ·intro w' hw';have hw0:=hw'.1 rfl;go_simp;refine (Lock_calls (H1.out.calm hw0).mem p i).mono ?_;rintro e w'' ⟨rfl,hM,hF⟩;exact ⟨rfl,hM,(MFr.of0 hw0).trans hF⟩
  go_simp
  repeat (refine mix_read rfl rfl ?_; go_big_quiet_step (fail); refine wpQuiet_nil ?_)
  refine mix_nil ?_;intro w2 hM2 hF2;clear hau hlu hbu;have hHF : FrZ own z w w1:=Fr.mono HF1.out (fun _ _ h=>h.elim);obtain ⟨hZ2,hZF⟩:=H1.out.memSet hM2 hF2;have H2:=(mkH (ZAt own z w2 L (P.setM (P.mem.lock p i).1)) <|hZ2);have HZF:=(mkH (FrZ own z w w2) <|FrZ.trans hHF (Ext.refl _ _) hZF);clear hM2 hF2 hZ2 hZF hHF;have HT:=(mkH (At w2 l.b _ _) <|(H2.out.wk i l t HL.out Ht.out).at_);have ha:=HT.out.cell;have haz:=HT.out.frozen;simp only [PThread.cells] at ha;cases hq : (P.mem.lock p i).2
  ·rw [hq] at hE;have hM : Hid ((P.mem.lock p i).1 = P.mem):=by
    show _ = _;unfold PMem.lock at hq ⊢;split at hq
    ·split at hq
     ·next h1 h2=>rw [if_pos h1,if_pos h2]
     ·cases hq
    ·next h1=>rw [if_neg h1]
   go_wp2;go_ret;rw [hE.out];have H2':=H2.out;rw [hM.out] at H2';exact ⟨rfl,H2',HZF.out⟩
  ·rw [hq] at hE;by_cases hend : nw<=t.work.locks + 1
   ·rw [if_pos hend] at hE;go_wp2;go_ret;rw [hE.out];rw [if_pos trivial,setT_work (P:=P.setM (P.mem.lock p i).1) Ht.out];have R:=H2.out.wkCells HL.out Ht.out (t':={ t with work:={ t.work with locks:=t.work.locks + 1,next:=6 } }) (((Fr.refl _ _).set1 _ _).set1 _ _) ((HT.out.set 12 _).set 7 _) rfl rfl rfl rfl rfl rfl;exact ⟨rfl,R.1,FrZ.trans HZF.out (Ext.refl _ _) R.2⟩
   ·rw [if_neg hend] at hE;go_wp2;go_ret;rw [hE.out];rw [if_pos trivial,setT_work (P:=P.setM (P.mem.lock p i).1) Ht.out];have R:=H2.out.wkCells HL.out Ht.out (t':={ t with work:={ t.work with locks:=t.work.locks + 1 } }) ((Fr.refl _ _).set1 _ _) (HT.out.set 12 _) rfl rfl rfl rfl rfl rfl;exact ⟨rfl,R.1,FrZ.trans HZF.out (Ext.refl _ _) R.2⟩
 ·have hE : Hid (P.lock i t.work = (P.setW i { t.work with next:=6 },1)):=by show _ = _; simp only [PSt.lock,if_neg hlt]
  have HT:=(mkH (At w1 l.b _ _) <|(H1.out.wk i l t HL.out Ht.out).at_);have haz:=HT.out.frozen;generalize (P.wanted t.work).length = nw at *;go_wp2;go_ret;rw [hE.out,setT_work Ht.out];have R:=H1.out.wkCells HL.out Ht.out (t':={ t with work:={ t.work with next:=6 } }) ((Fr.refl _ _).set1 _ _) (HT.out.set 7 _) rfl rfl rfl rfl rfl rfl;exact ⟨rfl,R.1,FrZ.trans (Fr.mono HF1.out (fun _ _ h=>h.elim)) (Ext.refl _ _) R.2⟩
end
end
section
open Go.RowKit
theorem setT_setT (P : PSt) (i : Nat) (a b : PThread) : (P.setT i a).setT i b = P.setT i b:=by simp [PSt.setT,List.set_set]
theorem setT_get (P : PSt) {i : Nat} {t : PThread} (h : P.ts[i]? = some t) (a : PThread) : (P.setT i a).ts[i]? = some a:=by
 obtain ⟨h1,_⟩:=List.getElem?_eq_some_iff.1 h;simp [PSt.setT,h1]
section
variable {own : Own} {z : Nat} {w : World} {L : ZLay} {P : PSt}
theorem check_calls (h : ZAt own z w L P) (hk : P.kind = 0\/P.kind = 1) {i : Nat} {l : WLay} {t : PThread} (hl : L.wks[i]? = some l) (ht : P.ts[i]? = some t) :
  Calls Tryz.prog 98 #[.pointer (some ⟨L.s,0,none⟩),.pointer (some ⟨l.b,0,none⟩)] w fun e w'=>e = .returned (.tuple #[])/\ZGoes own z w L (P.check i t.work) w':=by
 have H:=(mkH (ZAt own z w L P) <|h);have HL:=(mkH (L.wks[i]? = some l) <|hl);have Ht:=(mkH (P.ts[i]? = some t) <|ht);clear h hl ht
 go_enter Tryz.func98,Tryz.ntmps98
 go_wp2_with fail;refine (isOutdated_calls H.out hk HL.out Ht.out).mono ?_;rintro e w1 ⟨rfl,hF⟩;have H1:=(mkH (ZAt own z w1 L P) <|H.out.calm hF);have HF1:=(mkH (Fr (fun _=>False) w w1) <|hF);clear hF H;cases ho : P.outdated t.work
 ·go_wp2_with fail;refine wp_region_calm [2] 0 rfl (by kernel_rfl) (by kernel_rfl) (by kernel_rfl) (by decide) (by kernel_rfl) (by decide) ?_;intro U W hU hW;have hlu : ∀ u o,(W u).cell? ⟨l.b,o,none⟩ = (t.cells i l)[o]?:=fun u=>(((H1.out).calm (hW u)).wk i l t HL.out Ht.out).at_.cell
  simp only [PThread.cells] at hlu;clear hW
  repeat (refine mix_read rfl rfl ?_; go_big_quiet_step (fail); refine wpQuiet_nil ?_)
  refine mix_effC (.bool (P.meetsKey t.work)) rfl rfl rfl ?_ ?_
  ·intro w' hw';go_simp;refine (meetsKey_calls (H1.out.calm hw') HL.out Ht.out).mono ?_;rintro e w'' ⟨rfl,hF⟩;exact ⟨rfl,hw'.trans hF⟩
  go_simp
  repeat (refine mix_read rfl rfl ?_; go_big_quiet_step (fail); refine wpQuiet_nil ?_)
  refine mix_nil ?_;intro w2 hw2;clear hlu;have HF2:=(mkH (Fr (fun _=>False) w w2) <|HF1.out.trans hw2);have H2:=(mkH (ZAt own z w2 L P) <|H1.out.calm hw2);clear hw2 H1 HF1;obtain ⟨ha,haz,hal,hs,hsz,hsl,n1,n2⟩:=H2.out.view HL.out Ht.out;have HT:=(mkH (At w2 l.b _ _) <|(H2.out.wk i l t HL.out Ht.out).at_);simp only [PThread.cells,PSt.head] at ha hs;clear hsz;cases hm : (P.meetsKey t.work == (t.work.kind == 1))
  ·have hE : Hid (P.check i t.work = P.setW i { t.work with next:=7 }):=by show _ = _; simp only [PSt.check,ho,hm]; rfl
   clear hs;go_wp2
   go_end0
   rw [hE.out,setT_work Ht.out];have R:=H2.out.wkCells HL.out Ht.out (t':={ t with work:={ t.work with next:=7 } }) ((Fr.refl _ _).set1 _ _) (HT.out.set 7 _) rfl rfl rfl rfl rfl rfl;exact ⟨rfl,ZGoes.calm HF2.out (ZGoes.here R)⟩
  ·have hE : Hid (P.check i t.work = P.setW i (t.work.settle { stamp:=P.clock })):=by show _ = _; simp only [PSt.check,ho,hm]; rfl
   clear haz;go_wp2_with fail;refine (settle_calls H2.out HL.out Ht.out { stamp:=P.clock } rfl).mono ?_;rintro e w3 ⟨rfl,hG⟩;have HG:=(mkH (ZGoes _ _ _ _ _ _) <|hG);clear hG ha hs;go_wp2;refine bodyPost_ret (results_none rfl _ _ _) rfl ?_;rw [hE.out,setT_work Ht.out];exact ⟨rfl,ZGoes.calm HF2.out HG.out⟩
 ·have hE : Hid (P.check i t.work = (P.setM (P.mem.unlock i)).setW i ({ t.work with locks:=0 } : PWork).home):=by show _ = _; simp only [PSt.check,ho]; rfl
  go_wp2_with fail;refine (giveBackLocks_calls H1.out HL.out Ht.out).mono ?_;rintro e w2 ⟨rfl,hZ,hF⟩;have H2:=(mkH (ZAt own z w2 L _) <|hZ);have HF2:=(mkH (FrZ own z w w2) <|FrZ.trans (Fr.mono HF1.out (fun _ _ h=>h.elim)) (Ext.refl _ _) hF);have Ht2:=(mkH (_ = some _) <|setT_get (P.setM (P.mem.unlock i)) Ht.out { t with work:={ t.work with locks:=0 } });clear hZ hF H1 HF1;go_wp2_with fail;refine (beginWalk_calls H2.out HL.out Ht2.out).mono ?_;rintro e w3 ⟨rfl,hZ,hF⟩;have H3:=(mkH (ZAt own z w3 L _) <|hZ);have HF3:=(mkH (FrZ own z w w3) <|FrZ.trans HF2.out (Ext.refl _ _) hF);clear hZ hF;go_wp2;refine bodyPost_ret (results_none rfl _ _ _) rfl ?_;rw [hE.out,setT_work (P:=P.setM (P.mem.unlock i)) Ht.out];have H3':=H3.out;rw [setT_setT] at H3';exact ⟨rfl,ZGoes.here ⟨H3',HF3.out⟩⟩
theorem needs_calls (h : ZAt own z w L P) (kind : Int) :
  Calls Tryz.prog 124 #[.pointer (some ⟨L.s,0,none⟩),.int .i64 kind] w fun e w'=>e = .returned (.tuple #[.int .i64 (P.needs kind).1,.int .i64 (P.needs kind).2])/\w' = w:=by
 have hs:=h.hd.cell;simp only [PSt.head] at hs;clear h;unfold PSt.needs;cases h1 : (kind == 2)
 ·have h1' : ¬ kind = 2:=by simpa using h1
  rw [if_neg h1'];cases h2 : (P.kind == 1)
  ·have h2' : ¬ P.kind = 1:=by simpa using h2
   rw [if_neg h2']
   go_enter Tryz.func124,Tryz.ntmps124
   go_wp2;go_ret2;exact ⟨rfl,rfl⟩
  ·have h2' : P.kind = 1:=by simpa using h2
   rw [if_pos h2']
   go_enter Tryz.func124,Tryz.ntmps124
   go_wp2;go_ret2;exact ⟨rfl,rfl⟩
 ·have h1' : kind = 2:=by simpa using h1
  subst h1';rw [if_pos rfl];clear h1
  go_enter Tryz.func124,Tryz.ntmps124
  go_wp2;go_ret2;exact ⟨rfl,rfl⟩
theorem pend_calls (h : ZAt own z w L P) {i : Nat} {l : WLay} {t : PThread} (hl : L.wks[i]? = some l) (ht : P.ts[i]? = some t) (n : Int) (s : Bool) (to : Int) :
  Calls Tryz.prog 137 #[.pointer (some ⟨L.s,0,none⟩),.pointer (some ⟨l.b,0,none⟩),lnk n s,.int .i64 to] w fun e w'=>e = .returned (.tuple #[]) /\
   ZAt own z w' L ((P.setM (P.mem.pend n s to)).setT i { t with work:={ t.work with tsrc:=n,tside:=s } })/\FrZ own z w w':=by
 have hF0 : Fr (fun _=>False) w (w.alloc (.cells #[.int .i64 n,.int .i64 (b2i s)] 113)):=(Fr.refl _ _).alloc _;have HA:=(mkH (At _ w.heap.size _ _) <|At.new w [.int .i64 n,.int .i64 (b2i s)] 113);have H:=(mkH (ZAt own z _ L P) <|h.calm hF0);have HF0:=(mkH (Fr (fun _=>False) w _) <|hF0);have HL:=(mkH (L.wks[i]? = some l) <|hl);have Ht:=(mkH (P.ts[i]? = some t) <|ht);clear h hl ht hF0;have HT:=(mkH (At _ l.b _ _) <|(H.out.wk i l t HL.out Ht.out).at_);have ha:=HT.out.cell;have haz:=HT.out.frozen;have hac:=HA.out.cell;have hne : w.heap.size≠l.b:=(HA.out).ne (HT.out) (by decide);have hne':=hne.symm;simp only [PThread.cells] at ha;unfold lnk
 go_enter Tryz.func137,Tryz.ntmps137
 go_wp2_with fail;have R:=H.out.wkCells HL.out Ht.out (t':={ t with work:={ t.work with tsrc:=n,tside:=s } }) (((Fr.refl _ _).set1 _ _).set1 _ _) ((HT.out.set 14 (.int .i64 n)).set 15 (.int .i64 (b2i s))) rfl rfl rfl rfl rfl rfl;have HA1:=(mkH (At _ w.heap.size _ _) <|(HA.out.setOther ⟨l.b,14,none⟩ hne (.int .i64 n)).setOther ⟨l.b,15,none⟩ hne (.int .i64 (b2i s)));have H1:=(mkH (ZAt own z _ L _) <|R.1);have HF1:=(mkH (FrZ own z w _) <|FrZ.trans (Fr.mono HF0.out (fun _ _ h=>h.elim)) (Ext.refl _ _) R.2);clear R H HT ha haz hac HA HF0;generalize ((w.alloc (.cells #[.int .i64 n,.int .i64 (b2i s)] 113)).setCell ⟨l.b,14,none⟩ (.int .i64 n)).setCell ⟨l.b,15,none⟩ (.int .i64 (b2i s)) = w1 at *;refine wp_region_one 6 L.ml (fun w'=>MAt w' L.ml (P.mem.pend n s to)/\MFr L.ml w1 w') (fun _ h=>h.2) (by kernel_rfl) (by kernel_rfl) (by kernel_rfl) (by kernel_rfl) (by decide) ?_;intro U W hU hW;have hau : ∀ u o,(W u).cell? ⟨L.s,o,none⟩ = (P.head L)[o]?:=fun u=>(H1.out.memCells (hW u)).1
 have hbu : ∀ u o,(W u).cell? ⟨w.heap.size,o,none⟩ = ([.int .i64 n,.int .i64 (b2i s)] : List Value)[o]?:=by
  intro u;have hnb : ¬ (w.heap.size = L.ml.nb\/w.heap.size = L.ml.eb):=by
   have h1:=HA1.out.ne_row H1.out.mem.nodes (by decide);have h2:=HA1.out.ne_row H1.out.mem.ents (by decide);simp [Value.ownBlock] at h1 h2;rintro (e | e)
   ·exact h1 e.symm
   ·exact h2 e.symm
  exact (Fr.at (hW u) HA1.out hnb).cell
 simp only [PSt.head] at hau;clear hW
 repeat (refine mix_read rfl rfl ?_; go_big_quiet_step (fail); refine wpQuiet_nil ?_)
 refine mix_effC (.tuple #[]) rfl rfl rfl ?_ ?_
 ·intro w' hw';have hw0:=hw'.1 rfl;go_simp;refine (Pend_calls (H1.out.calm hw0).mem n s to).mono ?_;rintro e w'' ⟨rfl,hM,hF⟩;exact ⟨rfl,hM,(MFr.of0 hw0).trans hF⟩
 go_simp;refine mix_nil ?_;intro w2 hM2 hF2;clear hau hbu;obtain ⟨hZ2,hZF⟩:=H1.out.memSet hM2 hF2;have H2:=(mkH (ZAt own z w2 L _) <|hZ2);have HZF:=(mkH (FrZ own z w w2) <|FrZ.trans HF1.out (Ext.refl _ _) hZF);clear hM2 hF2 hZ2 hZF;go_wp2
 go_end0
 exact ⟨rfl,H2.out,HZF.out⟩
end
end
end Go.Proofs.YtfccelbmacjifabGreat
