import Derived.Test.YtfccelbmacjifabGreatP0
import Derived.Test.YtfccelbmacjifabGreatP10
import Derived.Test.YtfccelbmacjifabGreatP20
import Derived.Test.YtfccelbmacjifabGreatP22
import Derived.Test.YtfccelbmacjifabGreatP23
import Derived.Test.YtfccelbmacjifabGreatP21
set_option linter.unusedSimpArgs false
set_option maxRecDepth 100000
set_option maxHeartbeats 4000000
namespace Go.Proofs.YtfccelbmacjifabGreat
section
open Go.RowKit
def pv (b : Nat) : Value:=.pointer (some ⟨b,0,none⟩)
section
variable {own : Own} {z : Nat} {w : World} {L : ZLay} {P : PSt} {N : Nat}
theorem ZStep_fit (h : ZAt own z w L P) (hf : Fit N P) (hN : N<=2 ^ 39) {i : Nat} {t : PThread} (ht : P.ts[i]? = some t) (hb : t.busy = true) :
  Calls Tryz.prog 54 #[.pointer (some ⟨L.s,0,none⟩),.int .i64 i] w fun e w'=>e = .returned (.tuple #[.int .i64 (P.step i t).2,.int .i64 0])/\ZGoes own z w L (P.step i t).1 w':=by
 have hT:=(hf.th i t ht).1 hb;have hc:=hf.clk;by_cases hk : t.work.kind = 1\/t.work.kind = 2
 ·exact ZStep_busy h ht hb ⟨hf.kind,hT.made.1,hT.locks,hc.1,hf.lim⟩ hT.nx hk
 ·have hk' : t.work.kind = 3\/t.work.kind = 4:=by have:=hT.kd; omega
  refine ZStep_read h hf.kind ht hb hT.nx hk' (fun h4 _=>⟨Nat.le_trans (hT.links h4) (Nat.succ_le_succ hN),hT.spans h4,Nat.le_trans hT.noted hN⟩)
theorem Fit.answer (hf : Fit N P) (i : Int) : SmallAns (P.answer i).1:=by
 unfold PSt.answer;split
 ·next hI =>
  have hb:=isIn_iff.1 hI;split
  ·obtain ⟨j,rfl⟩:=Int.eq_ofNat_of_zero_le hb.1;have hj : j < P.ts.length:=by omega
   exact (hf.th j _ (show P.ts[j]? = some (P.th j) by simp [PSt.th,List.getElem?_eq_getElem hj])).2
  ·exact SmallAns.zero rfl
 ·exact SmallAns.zero rfl
theorem ZAnswer_fit (h : ZAt own z w L P) (hf : Fit N P) (i : Int) :
  Calls Tryz.prog 55 #[.pointer (some ⟨L.s,0,none⟩),.int .i64 i] w fun e w'=>∃ va vn vc,e = .returned (.tuple #[ansV (P.answer i).1 (.slice va vn vc),.int .i64 (P.answer i).2])/\OwnLists w w' (.slice va vn vc) (P.answer i).1.spans:=by
 have hs:=hf.answer i;exact ZAnswer_calls h i ⟨by have:=hs.1; omega,fun l hl=>by have:=hs.2 l hl; omega⟩
theorem ZSweep_fit (h : ZAt own z w L P) (hf : Fit N P) :
  Calls Tryz.prog 42 #[.pointer (some ⟨L.s,0,none⟩)] w fun e w'=>e = .returned (.int .i64 P.doSweep.2)/\ZGoes own z w L P.doSweep.1 w' :=
 ZSweep_calls h (by have:=hf.swp; have:=hf.thr; omega) (by have:=hf.swp; omega)
end
theorem samePairs_eq (w : World) (a b : Option Addr) (ca cb : Nat) (ps : List (Int × Int)) (ha : PairsAt w a ps) (hb : PairsAt w b ps) (hsm : ps.length<=2 ^ 40) :
  Calls Tryz.prog 57 #[.slice a ps.length ca,.slice b ps.length cb] w fun r w'=>r = .returned (.bool true)/\Fr (fun _=>False) w w':=by
 have HA:=(mkH (PairsAt w a ps) <|ha);have HB:=(mkH (PairsAt w b ps) <|hb);have hnn : ((ps.length : Int) != (ps.length : Int)) = false:=by simp
 clear ha hb
 go_enter Tryz.func57,Tryz.ntmps57
 go_wp2
 go_loopw [5] (fun v wr=>∃ j : Nat,j<=ps.length/\v = .int .i64 j/\Hid (Fr (fun _=>False) w wr)) (fun v _=>ps.length - (intOf v).toNat)
 case atStart=>exact ⟨0,by omega,rfl,Fr.refl _ _⟩
 case round =>
  obtain ⟨j,hj,rfl,HF⟩:=hrel;by_cases hlt : j < ps.length
  ·have hp : ps[j]? = some ps[j]:=List.getElem?_eq_getElem _;generalize ps[j] = p at hp;obtain ⟨ga,rfl,a1,a2⟩:=HA.out j p hp;obtain ⟨gb,rfl,b1,b2⟩:=HB.out j p hp;have a1:=HF.out.keepCell a1;have a2:=HF.out.keepCell a2;have b1:=HF.out.keepCell b1;have b2:=HF.out.keepCell b2;obtain ⟨p1,p2⟩:=p;simp only at a1 a2 b1 b2;clear hp;go_wp2_with fail;go_region;go_wp2
   go_roundw
   case rel=>exact ⟨j + 1,by omega,by go_num,by show Fr _ _ _; repeat (with_reducible first | refine Fr.drewN ?_ _ | refine Fr.drew ?_ | exact HF.out)⟩
   case measure=>simp [intOf]; omega
  ·go_wp2;go_ret;exact ⟨rfl,HF.out⟩
theorem run_nil_some {P : Program} (w : World) {t e : TypeId} (ht : P.underlying t = some (.slice e)) (a : Addr) (n c : Nat) : (binOp .eql t (.slice (some a) n c) (.slice none 0 0)).run P w = .ok (.bool false) w:=by
 simpa using Go.Lib.run_eql_slice_nil (P:=P) w t e (some a) n c 0 0 ht
theorem sameAnswers_lists (a : BAns) (w : World) (ga gb : Addr) (ca cb : Nat) (hl : a.spans.length<=2 ^ 39) (hn : ∀ l ∈ a.spans,l.length<=2 ^ 39) (ha : ReadLists w (some ga) a.spans) (hb : ReadLists w (some gb) a.spans) :
  Calls Tryz.prog 38 #[ansV a (.slice (some ga) a.spans.length ca),ansV a (.slice (some gb) a.spans.length cb)] w fun e w'=>e = .returned (.bool true)/\Fr (fun _=>False) w w':=by
 obtain ⟨er,di,va,st,sp⟩:=a;simp only [ansV] at hl hn ha hb ⊢;have h1 : (er != er) = false:=by simp
 have h2 : (di != di) = false:=by simp
 have h3 : (va != va) = false:=by simp
 have h4 : (st != st) = false:=by simp
 have h6 : ((sp.length : Int) != (sp.length : Int)) = false:=by simp
 have h5 : ∀ w',(binOp .eql 67 (.slice (some ga) sp.length ca) (.slice none 0 0)).run Tryz.prog w' = .ok (.bool false) w':=fun w'=>run_nil_some w' Tryz.underlying67 _ _ _
 have h7 : ∀ w',(binOp .eql 67 (.slice (some gb) sp.length cb) (.slice none 0 0)).run Tryz.prog w' = .ok (.bool false) w':=fun w'=>run_nil_some w' Tryz.underlying67 _ _ _
 have HA:=(mkH (ReadLists w (some ga) sp) <|ha);have HB:=(mkH (ReadLists w (some gb) sp) <|hb);have HN:=(mkH (∀ l ∈ sp,l.length<=2 ^ 39) <|hn);clear ha hb hn
 go_enter Tryz.func38,Tryz.ntmps38
 go_wp2_with fail;obtain ⟨wx,hwx⟩ : ∃ wx,wx = (w.alloc (.cells #[.int .i64 er,.bool di,.int .i64 va,.int .i64 st,.slice (some ga) sp.length ca] 69)).alloc (.cells #[.int .i64 er,.bool di,.int .i64 va,.int .i64 st,.slice (some gb) sp.length cb] 69):=⟨_,rfl⟩;have HFx:=(mkH (Fr (fun _=>False) w wx) <|by rw [hwx]; exact ((Fr.refl _ _).alloc _).alloc _);have HX:=(mkH (At wx w.heap.size [.int .i64 er,.bool di,.int .i64 va,.int .i64 st,.slice (some ga) sp.length ca] 69) <|by rw [hwx]; exact (At.new w _ _).alloc _);have HY:=(mkH (At wx (w.heap.size + 1) [.int .i64 er,.bool di,.int .i64 va,.int .i64 st,.slice (some gb) sp.length cb] 69) <|by rw [hwx]; exact At.newAt (by simp) _ _);rw [<- hwx];clear hwx
 go_loopw [5] (fun v wr=>∃ j : Nat,j<=sp.length/\v = .int .i64 j/\Hid (Fr (fun _=>False) wx wr)) (fun v _=>sp.length - (intOf v).toNat)
 case atStart=>exact ⟨0,by omega,rfl,Fr.refl _ _⟩
 case round =>
  obtain ⟨j,hj,rfl,HF⟩:=hrel;have HXr:=(mkH (At wr w.heap.size _ 69) <|HF.out.at HX.out (fun h=>h));have HYr:=(mkH (At wr (w.heap.size + 1) _ 69) <|HF.out.at HY.out (fun h=>h));have hxc:=HXr.out.cell;have hyc:=HYr.out.cell;by_cases hlt : j < sp.length
  ·have hp : sp[j]? = some sp[j]:=List.getElem?_eq_getElem _;have hpl:=HN.out _ (List.getElem_mem hlt);generalize sp[j] = p at hp hpl;obtain ⟨ha,b1,c1,e1,a1,P1⟩:=HA.out j p hp;obtain ⟨hb,b2,c2,e2,a2,P2⟩:=HB.out j p hp;obtain rfl:=Option.some.inj e1;obtain rfl:=Option.some.inj e2;have HFw:=(mkH (Fr (fun _=>False) w wr) <|HFx.out.trans HF.out);have a1:=HFw.out.keepCell a1;have a2:=HFw.out.keepCell a2;have HP1:=(mkH (PairsAt wr b1 p) <|P1.calm HFw.out);have HP2:=(mkH (PairsAt wr b2 p) <|P2.calm HFw.out);clear hp P1 P2 e1 e2;go_wp2_with fail;refine wp_region_calm [10] 0 rfl (by kernel_rfl) (by kernel_rfl) (by kernel_rfl) (by decide) (by kernel_rfl) (by decide) ?_;intro U W hU hW;have hau : ∀ u o,(W u).cell? ⟨w.heap.size,o,none⟩ = [Value.int .i64 er,.bool di,.int .i64 va,.int .i64 st,.slice (some ⟨ha,0,none⟩) sp.length ca][o]?:=fun u=>((hW u).at HXr.out (fun h=>h)).cell
   have hbu : ∀ u o,(W u).cell? ⟨w.heap.size + 1,o,none⟩ = [Value.int .i64 er,.bool di,.int .i64 va,.int .i64 st,.slice (some ⟨hb,0,none⟩) sp.length cb][o]?:=fun u=>((hW u).at HYr.out (fun h=>h)).cell
   have d1 : ∀ u,(W u).cell? ⟨ha,j,none⟩ = some (.slice b1 p.length c1):=fun u=>(hW u).keepCell a1
   have d2 : ∀ u,(W u).cell? ⟨hb,j,none⟩ = some (.slice b2 p.length c2):=fun u=>(hW u).keepCell a2
   clear hW hxc hyc a1 a2
   repeat (refine mix_read rfl rfl ?_; go_big_quiet_step (fail); refine wpQuiet_nil ?_)
   refine mix_effC (.bool true) rfl rfl rfl ?_ ?_
   ·intro w' hw';go_simp;refine (samePairs_eq w' b1 b2 c1 c2 p (HP1.out.calm hw') (HP2.out.calm hw') (by omega)).mono ?_;rintro e w'' ⟨rfl,hF⟩;exact ⟨rfl,hw'.trans hF⟩
   go_simp
   repeat (refine mix_read rfl rfl ?_; go_big_quiet_step (fail); refine wpQuiet_nil ?_)
   refine mix_nil ?_;intro w2 hw2;have HF2:=(mkH (Fr (fun _=>False) wx w2) <|HF.out.trans hw2);clear hau hbu d1 d2 hw2;go_wp2
   go_roundw
   case rel=>exact ⟨j + 1,by omega,by go_num,HF2⟩
   case measure=>simp [intOf]; omega
  ·go_wp2;go_ret;exact ⟨rfl,HFx.out.trans HF.out⟩
theorem run_nil_nil {P : Program} (w : World) {t e : TypeId} (ht : P.underlying t = some (.slice e)) : (binOp .eql t (.slice none 0 0) (.slice none 0 0)).run P w = .ok (.bool true) w:=by
 simpa using Go.Lib.run_eql_slice_nil (P:=P) w t e none 0 0 0 0 ht
theorem sameAnswers_nil (a : BAns) (w : World) :
  Calls Tryz.prog 38 #[ansV a (.slice none 0 0),ansV a (.slice none 0 0)] w fun e w'=>e = .returned (.bool true)/\Fr (fun _=>False) w w':=by
 obtain ⟨er,di,va,st,sp⟩:=a;simp only [ansV];have h1 : (er != er) = false:=by simp
 have h2 : (di != di) = false:=by simp
 have h3 : (va != va) = false:=by simp
 have h4 : (st != st) = false:=by simp
 have h5 : ∀ w',(binOp .eql 67 (.slice none 0 0) (.slice none 0 0)).run Tryz.prog w' = .ok (.bool true) w':=fun w'=>run_nil_nil w' Tryz.underlying67
 go_enter Tryz.func38,Tryz.ntmps38
 go_wp2_with fail;refine wp_loop_rounds 1 ?_;rw [rounds_succ];go_wp2;go_ret;exact ⟨rfl,((Fr.refl _ _).alloc _).alloc _⟩
theorem sameAnswers_eq (a : BAns) (w : World) (xa ya : Option Addr) (xn yn xc yc : Nat) (hs : SmallAns a) (hx : a.spans = []->Value.slice xa xn xc = .slice none 0 0) (hy : a.spans = []->Value.slice ya yn yc = .slice none 0 0) (h1 : xn = a.spans.length/\ReadLists w xa a.spans) (h2 : yn = a.spans.length/\ReadLists w ya a.spans) :
  Calls Tryz.prog 38 #[ansV a (.slice xa xn xc),ansV a (.slice ya yn yc)] w fun e w'=>e = .returned (.bool true)/\Fr (fun _=>False) w w':=by
 obtain ⟨rfl,h1⟩:=h1;obtain ⟨rfl,h2⟩:=h2;by_cases h0 : a.spans = []
 ·rw [hx h0,hy h0];exact sameAnswers_nil a w
 ·obtain ⟨l,r,hl⟩ : ∃ l r,a.spans = l :: r:=by
   cases h : a.spans with
   | nil=>exact absurd h h0
   | cons l r=>exact ⟨l,r,rfl⟩
  obtain ⟨g,b,c,rfl,_,_⟩:=h1 0 l (by rw [hl]; rfl);obtain ⟨g',b',c',rfl,_,_⟩:=h2 0 l (by rw [hl]; rfl);exact sameAnswers_lists a w _ _ _ _ (by have:=hs.1; omega) (fun l hl=>by have:=hs.2 l hl; omega) h1 h2
end
section
open Go.RowKit
structure OpV where
 kind : Int
 key : Int
 value : Int
 spans : List (Int × Int)
 sv : Value
def OpV.cells (o : OpV) : List Value:=[.int .i64 o.kind,.int .i64 o.key,.int .i64 o.value,o.sv]
structure DeedV where
 op : OpV
 a : BAns
 av : Value
 frm : Int
def DeedV.cells (d : DeedV) : List Value:=[.int .i64 d.op.kind,.int .i64 d.op.key,.int .i64 d.op.value,d.op.sv,.int .i64 d.a.err,.bool d.a.did,.int .i64 d.a.value,.int .i64 d.a.stamp,d.av,.int .i64 d.frm]
theorem opv_len (o : OpV) : o.cells.length = 4:=rfl
theorem deed_len (d : DeedV) : d.cells.length = 10:=rfl
def boolCells (l : List Bool) : List Value:=l.map .bool
def OpOk (own : Own) (z : Nat) (w : World) (o : OpV) : Prop:=Row own z w (.oth 5) 81 2 o.sv o.spans.length (o.spans.flatMap pairCells)
def DeedOk (own : Own) (z : Nat) (w : World) (d : DeedV) : Prop:=OpOk own z w d.op/\ListsAt own z w d.av d.a.spans/\SmallAns d.a
structure PlD where
 L : ZLay
 P : PSt
 N : Nat
 k : Int
 t : Int
 n : Int
 e : Int
 l : Int
 bv : Value
 ov : Value
 fv : Value
 dv : Value
 bs : List Bool
 ops : List OpV
 frm : List Int
 deeds : List DeedV
 puts : Int
 takes : Int
def PlD.ok (D : PlD) : Prop:=D.bs = D.P.ts.map (·.busy)
def PlD.cells (D : PlD) : List Value :=
 [pv D.L.s,.int .i64 D.k,.int .i64 D.t,.int .i64 D.n,.int .i64 D.e,.int .i64 D.l,D.bv,D.ov,D.fv,D.dv,.int .i64 D.puts,.int .i64 D.takes]
structure PlAt (own : Own) (z : Nat) (w : World) (pb : Nat) (D : PlD) : Prop where
 at_ : At w pb D.cells 42
 tg : own pb = ⟨z + 1,.store⟩
 st : ZAt own z w D.L D.P
 fit : Fit D.N D.P
 thr : D.t = D.P.ts.length
 busy : Row own (z + 1) w (.oth 1) 4 1 D.bv D.P.ts.length (boolCells D.bs)
 bl : D.bs.length = D.P.ts.length
 ops : Row own (z + 1) w (.oth 2) 53 4 D.ov D.P.ts.length (D.ops.flatMap OpV.cells)
 ol : D.ops.length = D.P.ts.length
 frm : Row own (z + 1) w (.oth 3) 3 1 D.fv D.P.ts.length (intCells D.frm)
 fl : D.frm.length = D.P.ts.length
 deeds : Row own (z + 1) w (.oth 4) 75 10 D.dv D.deeds.length (D.deeds.flatMap DeedV.cells)
 opk : ∀ o ∈ D.ops,OpOk own (z + 1) w o
 dok : ∀ d ∈ D.deeds,DeedOk own (z + 1) w d
section
variable {own own' : Own} {z : Nat} {w w' : World} {pb : Nat} {D : PlD} {S : Nat->Prop}
theorem OpOk.fr {o : OpV} (h : OpOk own z w o) (hf : Fr S w w') (he : Ext own own' w) (hS : ∀ k,own k = ⟨z,.oth 5⟩->¬ S k) : OpOk own' z w' o:=Row.fr h hf he hS
theorem DeedOk.fr {d : DeedV} (h : DeedOk own z w d) (hf : Fr S w w') (he : Ext own own' w) (h5 : ∀ k,own k = ⟨z,.oth 5⟩->¬ S k) (hl : ∀ k,own k = ⟨z,.lists⟩->¬ S k) : DeedOk own' z w' d:=⟨h.1.fr hf he h5,h.2.1.fr hf he hl,h.2.2⟩
theorem PlAt.fr (h : PlAt own z w pb D) (hf : Fr S w w') (he : Ext own own' w) (hS : ∀ k,(own k).z = z\/(own k).z = z + 1->¬ S k) : PlAt own' z w' pb D:=by
 have hT : ∀ tag k,own k = ⟨z + 1,tag⟩->¬ S k:=fun tag k hk=>hS k (.inr (by rw [hk]))
 exact ⟨(at_fr h.at_ h.tg hf he (hT _)).1,(at_fr h.at_ h.tg hf he (hT _)).2,h.st.fr hf he (fun k hk=>hS k (.inl hk)),h.fit,h.thr,h.busy.fr hf he (hT _),h.bl,h.ops.fr hf he (hT _),h.ol,h.frm.fr hf he (hT _),h.fl,h.deeds.fr hf he (hT _),fun o ho=>(h.opk o ho).fr hf he (hT _),fun d hd=>(h.dok d hd).fr hf he (hT _) (hT _)⟩
theorem PlAt.calm (h : PlAt own z w pb D) (hf : Fr (fun _=>False) w w') : PlAt own z w' pb D:=h.fr hf (Ext.refl _ _) (fun _ _ h=>h)
def FrP (own : Own) (z : Nat) (w w' : World) : Prop:=Fr (fun k=>(own k).z = z\/((own k).z = z + 1/\own k≠⟨z + 1,.oth 5⟩)) w w'
theorem FrP.trans {own1 : Own} {w1 w2 : World} (h : FrP own z w w1) (he : Ext own own1 w) (k : FrP own1 z w1 w2) : FrP own z w w2 :=
 Fr.transNew h k (fun i hi=>by
  by_cases hlt : i < w.heap.size
  ·left; rw [<- he i hlt]; exact hi
  ·right; omega)
def PlGoes (own : Own) (z : Nat) (w : World) (pb : Nat) (w' : World) (Q : PlD->Prop) : Prop:=∃ own' D',PlAt own' z w' pb D'/\Ext own own' w/\FrP own z w w'/\Q D'
theorem PlGoes.trans {own1 : Own} {w1 w2 : World} {Q : PlD->Prop} (he : Ext own own1 w) (hf : FrP own z w w1) (h : PlGoes own1 z w1 pb w2 Q) : PlGoes own z w pb w2 Q:=by
 obtain ⟨own2,D2,h1,h2,h3,h4⟩:=h;exact ⟨own2,D2,h1,Ext.trans he h2 hf.size,FrP.trans hf he h3,h4⟩
theorem PlAt.store (h : PlAt own z w pb D) {P' : PSt} (hg : ZGoes own z w D.L P' w') {N' : Nat} (hfit : Fit N' P') (hl : P'.ts.length = D.P.ts.length) :
  ∃ own' L',PlAt own' z w' pb { D with L:=L',P:=P',N:=N' }/\Ext own own' w/\FrP own z w w'/\L'.s = D.L.s:=by
 obtain ⟨own',L',hZ,hE,hF,e1,e2,e3⟩:=hg;have hT : ∀ tag k,own k = ⟨z + 1,tag⟩->¬ (own k).z = z:=fun tag k hk h=>by rw [hk] at h; simp at h
 have hA:=at_fr h.at_ h.tg hF hE (hT _);refine ⟨own',L',⟨?_,hA.2,hZ,hfit,by rw [hl]; exact h.thr,?_,by rw [hl]; exact h.bl,?_,by rw [hl]; exact h.ol,?_,by rw [hl]; exact h.fl,h.deeds.fr hF hE (hT _),fun o ho=>(h.opk o ho).fr hF hE (hT _),fun d hd=>(h.dok d hd).fr hF hE (hT _) (hT _)⟩,hE,Fr.mono hF (fun k _ h=>.inl h),e1⟩
 ·have:=hA.1
  simp only [PlD.cells,e1] at this ⊢;exact this
 ·rw [hl]; exact h.busy.fr hF hE (hT _)
 ·rw [hl]; exact h.ops.fr hF hE (hT _)
 ·rw [hl]; exact h.frm.fr hF hE (hT _)
theorem bool_get {l : List Bool} {i : Nat} {b : Bool} (h : l[i]? = some b) : (boolCells l)[i]? = some (.bool b):=by simp [boolCells,h]
theorem int_get {l : List Int} {i : Nat} {b : Int} (h : l[i]? = some b) : (intCells l)[i]? = some (.int .i64 b):=by simp [intCells,h]
theorem PlAt.busyRow (h : PlAt own z w pb D) {i : Nat} {b : Bool} (hb : D.bs[i]? = some b) : ∃ g c,D.bv = .slice (some ⟨g,0,none⟩) D.P.ts.length c/\w.cell? ⟨g,i,none⟩ = some (.bool b)/\(∀ o,w.frozen? ⟨g,o,none⟩ = false)/\own g = ⟨z + 1,.oth 1⟩/\g < w.heap.size:=by
 have hi:=(List.getElem?_eq_some_iff.1 hb).1;rw [h.bl] at hi;obtain ⟨g,c,hv,_⟩:=ownsRow_shape h.busy.row (by omega);have ho:=h.busy.row;rw [hv] at ho;exact ⟨g,c,hv,ownsRow_cell ho (bool_get hb),ownsRow_frozen ho,h.busy.tg g (by rw [hv]; rfl),ownsRow_lt0 ho⟩
theorem PlAt.setBusy (h : PlAt own z w pb D) {g c i : Nat} (hv : D.bv = .slice (some ⟨g,0,none⟩) D.P.ts.length c) (b : Bool) : PlAt own z (w.setCell ⟨g,i,none⟩ (.bool b)) pb { D with bs:=D.bs.set i b }/\FrP own z w (w.setCell ⟨g,i,none⟩ (.bool b)):=by
 have hg:=h.busy.tg g (by rw [hv]; rfl);have hf : Fr (fun k=>k = g) w (w.setCell ⟨g,i,none⟩ (.bool b)):=(Fr.refl _ _).set1 i (.bool b);have he:=Ext.refl own w;have hT : ∀ zz tag k,(zz,tag)≠(z + 1,Tag.oth 1)->own k = ⟨zz,tag⟩->¬ k = g:=by
  rintro zz tag k hne hk rfl;rw [hg] at hk;simp at hk;exact hne (by rw [hk.1,hk.2])
 have hZ : ∀ k,(own k).z = z->¬ k = g:=by rintro k hk rfl; rw [hg] at hk; simp at hk
 refine ⟨⟨(at_fr h.at_ h.tg hf he (fun k hk=>hT _ _ k (by simp) hk)).1,h.tg,h.st.fr hf he hZ,h.fit,h.thr,⟨?_,h.busy.tg⟩,by simpa using h.bl,h.ops.fr hf he (fun k hk=>hT _ _ k (by simp) hk),h.ol,h.frm.fr hf he (fun k hk=>hT _ _ k (by simp) hk),h.fl,h.deeds.fr hf he (fun k hk=>hT _ _ k (by simp) hk),
  fun o ho=>(h.opk o ho).fr hf he (fun k hk=>hT _ _ k (by simp) hk),fun d hd=>(h.dok d hd).fr hf he (fun k hk=>hT _ _ k (by simp) hk) (fun k hk=>hT _ _ k (by simp) hk)⟩,Fr.mono hf (by rintro k _ rfl; rw [hg]; exact .inr ⟨rfl,by simp⟩)⟩
 have ho:=h.busy.row;rw [hv] at ho
 have:=ownsRow_set ho i (.bool b)
 simp only [hv];rw [show boolCells (D.bs.set i b) = (boolCells D.bs).set i (.bool b) by simp [boolCells,List.map_set]];exact this
end
end
section
open Go.RowKit
theorem step_three {P : PSt} {i : Nat} {t : PThread} (h : (P.step i t).2 = 3) : P.step i t = (P.setT i t.leave,3):=by
 unfold PSt.step at h ⊢;split at h
 ·cases h
 ·cases h
 ·cases h
 ·rfl
 ·split at h
  ·unfold PSt.read at h;simp only at h;split at h <;> cases h
  ·unfold PSt.update at h;split at h
   ·cases h
   ·unfold PSt.lock at h;split at h
    ·split at h <;> cases h
    ·cases h
   all_goals cases h
theorem leave_answer {P : PSt} {i : Nat} {t : PThread} (ht : P.ts[i]? = some t) : (P.setT i t.leave).answer i = (t.work.ans,0):=by
 have hi:=(List.getElem?_eq_some_iff.1 ht).1;unfold PSt.answer;rw [isIn_true (by simp [PSt.setT]; omega)];simp [PSt.th,PSt.setT,hi,PThread.leave]
structure Stepped (D : PlD) (i : Nat) (t : PThread) (D' : PlD) : Prop where
 P : D'.P = (D.P.step i t).1
 N : D'.N = D.N + 1
 cfg : D'.k = D.k/\D'.t = D.t/\D'.n = D.n/\D'.e = D.e/\D'.l = D.l
 ops : D'.ops = D.ops
 frm : D'.frm = D.frm
 cnt : D'.puts = D.puts/\D'.takes = D.takes
 bs : D'.bs = if (D.P.step i t).2 = 3 then D.bs.set i false else D.bs
 deeds : ((D.P.step i t).2≠3->D'.deeds = D.deeds)/\((D.P.step i t).2 = 3->∃ av o f,D.ops[i]? = some o/\D.frm[i]? = some f/\D'.deeds = D.deeds ++ [⟨o,t.work.ans,av,f⟩])
section
variable {own own' : Own} {z : Nat} {w w' : World} {pb : Nat} {D : PlD} {S : Nat->Prop} {i : Nat} {t : PThread}
theorem Psteps_idle (h : PlAt own z w pb D) (hb : D.bs[i]? = some false) (ht : D.P.ts[i]? = some t) (htb : t.busy = false) :
  Calls Tryz.prog 35 #[pv pb,.int .i64 i] w fun r w'=>r = .returned (.tuple #[.int .i64 0,.bool true])/\w' = w:=by
 obtain ⟨g,c,hv,hc,hz,hg,hgl⟩:=h.busyRow hb;have ha:=h.at_.cell;have hi:=(List.getElem?_eq_some_iff.1 ht).1;have hfew:=h.fit.thr;simp only [PlD.cells,hv,pv] at ha;have H:=(mkH (PlAt own z w pb D) <|h);have HT:=(mkH (D.P.ts[i]? = some t/\t.busy = false) <|⟨ht,htb⟩);clear h ht htb hb hv;unfold pv
 go_enter Tryz.func35,Tryz.ntmps35
 go_wp2_with fail;refine (ZStep_idle H.out.st HT.out.1 HT.out.2).mono ?_;rintro e w' ⟨rfl,rfl⟩;go_wp2;go_ret2;exact ⟨rfl,rfl⟩
theorem Psteps_on (h : PlAt own z w pb D) (hb : D.bs[i]? = some true) (ht : D.P.ts[i]? = some t) (htb : t.busy = true) (hN : D.N < 2 ^ 39) (h3 : (D.P.step i t).2≠3) :
  Calls Tryz.prog 35 #[pv pb,.int .i64 i] w fun r w'=>r = .returned (.tuple #[.int .i64 (D.P.step i t).2,.bool true])/\PlGoes own z w pb w' (Stepped D i t):=by
 have ha:=h.at_.cell;have hi:=(List.getElem?_eq_some_iff.1 ht).1;have hfew:=h.fit.thr;simp only [PlD.cells,pv] at ha;have H:=(mkH (PlAt own z w pb D) <|h);have hT:=h.fit.turn ht htb;have HS:=(mkH (Calls _ _ _ _ _) <|ZStep_fit h.st h.fit (by omega) ht htb);have HF:=(mkH (Fit (D.N + 1) (D.P.step i t).1) <|h.fit.step ht htb);have HL:=(mkH ((D.P.step i t).1.ts.length = D.P.ts.length) <|by
  obtain ⟨M,c,t',e,_⟩:=hT.to;show _ = _;rw [e]; simp)
 have HQ:=(mkH (∀ L',Stepped D i t { D with L:=L',P:=(D.P.step i t).1,N:=D.N + 1 }) <|fun L'=>⟨rfl,rfl,⟨rfl,rfl,rfl,rfl,rfl⟩,rfl,rfl,⟨rfl,rfl⟩,by rw [if_neg h3],⟨fun _=>rfl,fun hh=>absurd hh h3⟩⟩);have hh1:=hT.how;have HB:=(mkH (D.bs[i]? = some true) <|hb);obtain ⟨hw,hhw⟩ : ∃ hw,hw = (D.P.step i t).2:=⟨_,rfl⟩;rw [<- hhw] at h3 hh1 HS ⊢;have HHW:=(mkH (hw = _) <|hhw);obtain ⟨q1,q2⟩:=hh1;clear h ht htb hT hb hhw;unfold pv
 go_enter Tryz.func35,Tryz.ntmps35
 go_wp2_with fail;refine Calls.mono HS.out ?_;rintro e w1 ⟨rfl,hG⟩;obtain ⟨own1,L1,hP1,hE1,hF1,e1⟩:=H.out.store hG HF.out HL.out;obtain ⟨g,c,hv,hc,hz,hg,hgl⟩:=hP1.busyRow HB.out;have hv' : D.bv = .slice (some ⟨g,0,none⟩) D.P.ts.length c:=by rw [<- HL.out]; exact hv
 have ha:=hP1.at_.cell;simp only [PlD.cells,hv',pv] at ha;have HG:=(mkH (PlGoes own z w pb w1 (Stepped D i t)) <|⟨own1,_,hP1,hE1,hF1,HQ.out L1⟩);clear hG hP1 hE1 hF1 hv hv' HS H;go_wp2;go_ret2;exact ⟨rfl,HG.out⟩
theorem PlAt.pushDeed (h : PlAt own z w pb D) {d : DeedV} (hd : DeedOk own (z + 1) w d) {w5 : World} {g cap : Nat} {ob : Obj} (hown : w5.ownsRow 0 75 10 (.slice (some ⟨g,0,none⟩) (D.deeds.length + 1) cap) (D.deeds.length + 1) (D.deeds.flatMap DeedV.cells ++ d.cells))
  (hgr : (w.drew.alloc ob).grownBy w5 D.dv.ownBlock) (hge : D.dv.ownBlock = some g\/w.heap.size<=g) :
  ∃ own',PlAt own' z (w5.setCell ⟨pb,9,none⟩ (.slice (some ⟨g,0,none⟩) (D.deeds.length + 1) cap)) pb { D with dv:=.slice (some ⟨g,0,none⟩) (D.deeds.length + 1) cap,deeds:=D.deeds ++ [d] }/\Ext own own' w/\FrP own z w (w5.setCell ⟨pb,9,none⟩ (.slice (some ⟨g,0,none⟩) (D.deeds.length + 1) cap)):=by
 have hfa : Fr (fun k=>D.dv.ownBlock = some k) w w5:=Fr.grown (((Fr.refl _ _).drew).alloc ob) hgr (fun k hk=>.inl hk);have hf : Fr (fun k=>D.dv.ownBlock = some k\/k = pb) w (w5.setCell ⟨pb,9,none⟩ (.slice (some ⟨g,0,none⟩) (D.deeds.length + 1) cap)):=Fr.setIn (.inr rfl) (hfa.mono (fun _ _ h=>.inl h)) 9 _;have hdt:=h.deeds.tg;have he : Ext own (own.put g (z + 1) (.oth 4)) w:=Ext.put' (Ext.refl _ _) (by
  rcases hge with h1 | h1
  ·exact .inl (hdt g h1)
  ·exact .inr h1)
 have hT : ∀ zz tag k,(zz,tag)≠(z + 1,Tag.oth 4)->(zz,tag)≠(z + 1,Tag.store)->own k = ⟨zz,tag⟩->¬ (D.dv.ownBlock = some k\/k = pb):=by
  rintro zz tag k n1 n2 hk (h1 | rfl)
  ·rw [hdt k h1] at hk; simp at hk; exact n1 (by rw [hk.1,hk.2])
  ·rw [h.tg] at hk; simp at hk; exact n2 (by rw [hk.1,hk.2])
 have hpne : D.dv.ownBlock≠some pb:=by
  intro hh; have:=hdt pb hh; rw [h.tg] at this; simp at this
 have hA5 : At w5 pb D.cells 42:=hfa.at h.at_ hpne;have hZ : ∀ k,(own k).z = z->¬ (D.dv.ownBlock = some k\/k = pb):=by
  rintro k hk (h1 | rfl)
  ·rw [hdt k h1] at hk; simp at hk
  ·rw [h.tg] at hk; simp at hk
 refine ⟨own.put g (z + 1) (.oth 4),⟨hA5.set 9 _,?_,h.st.fr hf he hZ,h.fit,h.thr,h.busy.fr hf he (fun k hk=>hT _ _ k (by simp) (by simp) hk),h.bl,h.ops.fr hf he (fun k hk=>hT _ _ k (by simp) (by simp) hk),h.ol,h.frm.fr hf he (fun k hk=>hT _ _ k (by simp) (by simp) hk),h.fl,?_,
  fun o ho=>(h.opk o ho).fr hf he (fun k hk=>hT _ _ k (by simp) (by simp) hk),?_⟩,he,Fr.mono hf ?_⟩
 ·rw [he pb h.at_.lt]; exact h.tg
 ·refine ⟨?_,?_⟩
  ·have:=ownsRow_setOther hown (a:=⟨pb,9,none⟩) (hA5.ne_row hown (by decide)) (.slice (some ⟨g,0,none⟩) (D.deeds.length + 1) cap)
   simp only [List.flatMap_append,List.length_append,List.flatMap_cons,List.flatMap_nil,List.append_nil,List.length_cons,List.length_nil,Nat.zero_add];exact this
  ·intro k hk;simp [Value.ownBlock] at hk;subst hk;exact Own.put_same _ _ _ _
 ·intro d' hd';rcases List.mem_append.1 hd' with h1 | h1
  ·exact (h.dok d' h1).fr hf he (fun k hk=>hT _ _ k (by simp) (by simp) hk) (fun k hk=>hT _ _ k (by simp) (by simp) hk)
  ·simp at h1;subst h1;exact hd.fr hf he (fun k hk=>hT _ _ k (by simp) (by simp) hk) (fun k hk=>hT _ _ k (by simp) (by simp) hk)
 ·rintro k _ (h1 | rfl)
  ·rw [hdt k h1]; exact .inr ⟨rfl,by simp⟩
  ·rw [h.tg]; exact .inr ⟨rfl,by simp⟩
theorem Tryz.infoDeed : (Tryz.prog.info? 75).map (fun i=>(i.zero,i.size,i.bytes)) = some (some (.agg #[.int .i64 0,.int .i64 0,.int .i64 0,.slice none 0 0,.int .i64 0,.bool false,.int .i64 0,.int .i64 0,.slice none 0 0,.int .i64 0]),10,112):=by kernel_rfl
end
end
section
open Go.RowKit
section
variable {own own' : Own} {z : Nat} {w w' : World} {pb : Nat} {D : PlD} {S : Nat->Prop} {i : Nat} {t : PThread}
theorem PlAt.opRow (h : PlAt own z w pb D) {o : OpV} (ho : D.ops[i]? = some o) : ∃ g c sa sc,D.ov = .slice (some ⟨g,0,none⟩) D.P.ts.length c/\o.sv = .slice sa o.spans.length sc/\w.cell? ⟨g,i * 4,none⟩ = some (.int .i64 o.kind)/\w.cell? ⟨g,i * 4 + 1,none⟩ = some (.int .i64 o.key)/\w.cell? ⟨g,i * 4 + 2,none⟩ = some (.int .i64 o.value)/\w.cell? ⟨g,i * 4 + 3,none⟩ = some (.slice sa o.spans.length sc)/\(∀ o,w.frozen? ⟨g,o,none⟩ = false)/\own g = ⟨z + 1,.oth 2⟩:=by
 have hi:=(List.getElem?_eq_some_iff.1 ho).1;rw [h.ol] at hi;obtain ⟨g,c,hv,_⟩:=ownsRow_shape h.ops.row (by omega);have hr:=h.ops.row;rw [hv] at hr;obtain ⟨sa,sc,hs⟩:=ownsShape (h.opk o (List.mem_of_getElem? ho)).row;have hc : ∀ j u,o.cells[j]? = some u->w.cell? ⟨g,i * 4 + j,none⟩ = some u:=fun j u hu=>ownsRow_cell hr ((tab_get OpV.cells 4 opv_len D.ops i j o ho (by have:=(List.getElem?_eq_some_iff.1 hu).1; simpa [opv_len] using this)).trans hu)
 exact ⟨g,c,sa,sc,hv,hs,by simpa using hc 0 _ rfl,hc 1 _ rfl,hc 2 _ rfl,by rw [<- hs]; exact hc 3 _ rfl,ownsRow_frozen hr,h.ops.tg g (by rw [hv]; rfl)⟩
theorem PlAt.frmRow (h : PlAt own z w pb D) {f : Int} (hf : D.frm[i]? = some f) : ∃ g c,D.fv = .slice (some ⟨g,0,none⟩) D.P.ts.length c/\w.cell? ⟨g,i,none⟩ = some (.int .i64 f)/\(∀ o,w.frozen? ⟨g,o,none⟩ = false)/\own g = ⟨z + 1,.oth 3⟩:=by
 have hi:=(List.getElem?_eq_some_iff.1 hf).1;rw [h.fl] at hi;obtain ⟨g,c,hv,_⟩:=ownsRow_shape h.frm.row (by omega);have hr:=h.frm.row;rw [hv] at hr;exact ⟨g,c,hv,ownsRow_cell hr (int_get hf),ownsRow_frozen hr,h.frm.tg g (by rw [hv]; rfl)⟩
theorem keepMix {w4 w5 : World} {row : Option Nat} {ob : Obj} (hgr : (w4.drew.alloc ob).grownBy w5 row) {b : Nat} (hne : row≠some b) {o : Nat} {v : Value} (h : w4.cell? ⟨b,o,none⟩ = some v) :
  w4.drew.cell? ⟨b,o,none⟩ = some v/\(w4.drew.alloc ob).cell? ⟨b,o,none⟩ = some v/\w5.cell? ⟨b,o,none⟩ = some v:=by
 have h1 : w4.drew.cell? ⟨b,o,none⟩ = some v:=h;have h2 : (w4.drew.alloc ob).cell? ⟨b,o,none⟩ = some v:=((Fr.refl (fun _=>False) w4.drew).alloc ob).keepCell h1;exact ⟨h1,h2,hgr.cell h2 (fun e=>hne e.symm)⟩
theorem Psteps_end (h : PlAt own z w pb D) (hb : D.bs[i]? = some true) (ht : D.P.ts[i]? = some t) (htb : t.busy = true) (hN : D.N < 2 ^ 39) (hdl : D.deeds.length<=2 ^ 38) (h3 : (D.P.step i t).2 = 3) :
  Calls Tryz.prog 35 #[pv pb,.int .i64 i] w fun r w'=>r = .returned (.tuple #[.int .i64 3,.bool true])/\PlGoes own z w pb w' (Stepped D i t):=by
 have ha:=h.at_.cell;have hi:=(List.getElem?_eq_some_iff.1 ht).1;have hfew:=h.fit.thr;simp only [PlD.cells,pv] at ha;have H:=(mkH (PlAt own z w pb D) <|h);have hT:=h.fit.turn ht htb;have hs3:=step_three h3;have HS:=(mkH (Calls _ _ _ _ _) <|ZStep_fit h.st h.fit (by omega) ht htb);rw [h3] at HS;have HF:=(mkH (Fit (D.N + 1) (D.P.step i t).1) <|h.fit.step ht htb);have HL:=(mkH ((D.P.step i t).1.ts.length = D.P.ts.length) <|by
  obtain ⟨M,c,t',e,_⟩:=hT.to;show _ = _;rw [e]; simp)
 have HAn:=(mkH ((D.P.step i t).1.answer i = (t.work.ans,0)) <|by show _ = _; rw [hs3]; exact leave_answer ht);have hio : i < D.ops.length:=by rw [h.ol]; exact hi
 have hif : i < D.frm.length:=by rw [h.fl]; exact hi
 obtain ⟨o,ho⟩ : ∃ o,D.ops[i]? = some o:=⟨_,List.getElem?_eq_getElem hio⟩;obtain ⟨f,hf⟩ : ∃ f,D.frm[i]? = some f:=⟨_,List.getElem?_eq_getElem hif⟩;have HO:=(mkH (D.ops[i]? = some o/\D.frm[i]? = some f) <|⟨ho,hf⟩);have HQ:=(show Hid (∀ (D' : PlD) av,D'.P = (D.P.step i t).1->D'.N = D.N + 1->(D'.k = D.k/\D'.t = D.t/\D'.n = D.n/\D'.e = D.e/\D'.l = D.l)->D'.ops = D.ops->D'.frm = D.frm->(D'.puts = D.puts/\D'.takes = D.takes)->D'.bs = D.bs.set i false->D'.deeds = D.deeds ++ [⟨o,t.work.ans,av,f⟩]->Stepped D i t D') from
  fun D' av q1 q2 q3 q4 q5 q6 q7 q8=>⟨q1,q2,q3,q4,q5,q6,by rw [if_pos h3]; exact q7,⟨fun hh=>absurd h3 hh,fun _=>⟨av,o,f,ho,hf,q8⟩⟩⟩)
 have HB:=(mkH (D.bs[i]? = some true) <|hb);have HSm:=(mkH (SmallAns t.work.ans) <|((h.fit.th i t ht).1 htb).ans);clear h ht htb hT hb hs3 h3 ho hf hio hif;unfold pv
 go_enter Tryz.func35,Tryz.ntmps35
 go_wp2_with fail;refine Calls.mono HS.out ?_;rintro e w1 ⟨rfl,hG⟩;obtain ⟨own1,L1,hP1,hE1,hF1,e1⟩:=H.out.store hG HF.out HL.out;obtain ⟨g,c,hv,hc,hz,hg,hgl⟩:=hP1.busyRow HB.out;have hv' : D.bv = .slice (some ⟨g,0,none⟩) D.P.ts.length c:=by rw [<- HL.out]; exact hv
 have ha:=hP1.at_.cell;simp only [PlD.cells,hv',pv] at ha;obtain ⟨hP2,hF2⟩:=hP1.setBusy (i:=i) hv false;obtain ⟨w2,hw2⟩ : ∃ w2,w2 = w1.setCell ⟨g,i,none⟩ (.bool false):=⟨_,rfl⟩;rw [<- hw2] at hP2 hF2;have HP2:=(mkH (PlAt own1 z w2 pb _) <|hP2);have HE:=(mkH (Ext own own1 w) <|hE1);have HFw:=(mkH (FrP own z w w2) <|FrP.trans hF1 hE1 hF2);have HV:=(mkH (D.bv = _) <|hv');have HZA:=(mkH (Calls Tryz.prog 55 #[.pointer (some ⟨D.L.s,0,none⟩),.int .i64 i] w2 fun e w'=>∃ va vn vc,e = .returned (.tuple #[ansV t.work.ans (.slice va vn vc),.int .i64 0])/\OwnLists w2 w' (.slice va vn vc) t.work.ans.spans) <|by
  have hz:=ZAnswer_fit hP2.st hP2.fit (i : Int);rw [HAn.out] at hz;rw [<- e1];exact hz)
 have hne1 : pb≠g:=by rintro rfl; rw [hP1.tg] at hg; simp at hg
 have hne2 : g≠pb:=fun e=>hne1 e.symm
 clear hG hP1 hE1 hF1 hv hv' HS H hP2 hF2 hg;go_wp2_with fail;rw [<- hw2];clear hw2 ha hc hz;refine Calls.mono HZA.out ?_;rintro e w3 ⟨va,vn,vc,rfl,hO⟩;have hP3:=HP2.out.calm hO.fr;have ha3:=hP3.at_.cell;simp only [PlD.cells,HV.out,pv] at ha3;have HOL:=(mkH (OwnLists w2 w3 (.slice va vn vc) t.work.ans.spans) <|hO);have hpl:=hP3.at_.lt;clear hO hP3 hne1 hne2;simp only [ansV];go_wp2_with fail;obtain ⟨iD,hiD,hzD,hsD,hbD⟩:=info_parts Tryz.infoDeed;generalize hw4 : w3.alloc _ = w4;have HX:=(mkH (At w4 w3.heap.size [.int .i64 t.work.ans.err,.bool t.work.ans.did,.int .i64 t.work.ans.value,.int .i64 t.work.ans.stamp,.slice va vn vc] 69) <|by subst hw4; exact At.new w3 _ _);have hf34 : Fr (fun _=>False) w3 w4:=by subst hw4; exact (Fr.refl _ _).alloc _
 have hf24:=HOL.out.fr.trans hf34;obtain ⟨own4,hE4,hLs⟩:=HOL.out.lists own1 (z + 1);have hP4:=HP2.out.fr hf24 hE4 (fun _ _ h=>h);have HP4:=(mkH (PlAt own4 z w4 pb _) <|hP4);obtain ⟨go,co,sa,sc,hov,hosv,o0,o1,o2,o3,hoz,hot⟩:=hP4.opRow HO.out.1;obtain ⟨gf,cf,hfv,f0,hfz,hft⟩:=hP4.frmRow HO.out.2;have hov' : D.ov = .slice (some ⟨go,0,none⟩) D.P.ts.length co:=by rw [<- HL.out]; exact hov
 have hfv' : D.fv = .slice (some ⟨gf,0,none⟩) D.P.ts.length cf:=by rw [<- HL.out]; exact hfv
 have HDk:=(mkH (DeedOk own4 (z + 1) w4 ⟨o,t.work.ans,.slice va vn vc,f⟩) <|⟨hP4.opk o (List.mem_of_getElem? HO.out.1),hLs.fr hf34 (Ext.refl _ _) (fun _ _ h=>h),HSm.out⟩);have hdt:=hP4.deeds.tg;have hdr:=hP4.deeds.row;simp only at hdt hdr;have ndp : D.dv.ownBlock≠some pb:=by intro hh; have:=hdt pb hh; rw [hP4.tg] at this; simp at this
 have ndo : D.dv.ownBlock≠some go:=by intro hh; have:=hdt go hh; rw [hot] at this; simp at this
 have ndf : D.dv.ownBlock≠some gf:=by intro hh; have:=hdt gf hh; rw [hft] at this; simp at this
 have ndx : D.dv.ownBlock≠some w3.heap.size:=by
  intro hh;have h1:=(HP2.out.calm HOL.out.fr).deeds.row
  have:=ownsRow_lt h1 hh
  omega
 obtain ⟨ok,okey,ov,osp,osv⟩:=o;simp only at hosv o0 o1 o2 o3;subst hosv;have hA4:=hP4.at_;have hrow1 : (w4.drew.alloc (.cells #[.int .i64 ok,.int .i64 okey,.int .i64 ov,.slice sa osp.length sc,.int .i64 t.work.ans.err,.bool t.work.ans.did,.int .i64 t.work.ans.value,.int .i64 t.work.ans.stamp,.slice va vn vc,.int .i64 f] 75)).ownsRow 0 75 10 D.dv D.deeds.length (D.deeds.flatMap DeedV.cells):=ownsRow_alloc (World.ownsRow.drew hdr) _;obtain ⟨g',gcap,w5,hown,hgr,hge,hrun⟩:=push_runs (P:=Tryz.prog) (w4.drew.alloc (.cells #[.int .i64 ok,.int .i64 okey,.int .i64 ov,.slice sa osp.length sc,.int .i64 t.work.ans.err,.bool t.work.ans.did,.int .i64 t.work.ans.value,.int .i64 t.work.ans.stamp,.slice va vn vc,.int .i64 f] 75)) 40 40 0 75 iD _ 10 112 Tryz.underlying40 hiD hzD hsD hbD rfl (by decide) _ _ _ hrow1
  w4.heap.size [.int .i64 ok,.int .i64 okey,.int .i64 ov,.slice sa osp.length sc,.int .i64 t.work.ans.err,.bool t.work.ans.did,.int .i64 t.work.ans.value,.int .i64 t.work.ans.stamp,.slice va vn vc,.int .i64 f] rfl 75 (At.newAt rfl _ _) (by simp [Value.oneCell']) (by unfold maxLen; omega) (by omega) (by simp)
 have HRun:=(mkH (∀ (o : Oper) (a : Act) (s x : Operand),_) <|hrun);have HEnd:=(show Hid _ from hP4.pushDeed HDk.out (g:=g') (cap:=gcap) hown hgr (by rcases hge with h | h; exact .inl h; exact .inr (by simp at h; omega)));have HC : Hid (∀ u,(u = w4.drew\/u = w4.drew.alloc (.cells #[.int .i64 ok,.int .i64 okey,.int .i64 ov,.slice sa osp.length sc,.int .i64 t.work.ans.err,.bool t.work.ans.did,.int .i64 t.work.ans.value,.int .i64 t.work.ans.stamp,.slice va vn vc,.int .i64 f] 75)\/u = w5) ->
   (∀ q,u.cell? ⟨pb,q,none⟩ = (PlD.cells { D with L:=L1,P:=(D.P.step i t).1,N:=D.N + 1,bs:=D.bs.set i false })[q]?)/\(∀ q,u.cell? ⟨w3.heap.size,q,none⟩ = [Value.int .i64 t.work.ans.err,.bool t.work.ans.did,.int .i64 t.work.ans.value,.int .i64 t.work.ans.stamp,.slice va vn vc][q]?) /\
   u.cell? ⟨go,i * 4,none⟩ = some (.int .i64 ok)/\u.cell? ⟨go,i * 4 + 1,none⟩ = some (.int .i64 okey)/\u.cell? ⟨go,i * 4 + 2,none⟩ = some (.int .i64 ov)/\u.cell? ⟨go,i * 4 + 3,none⟩ = some (.slice sa osp.length sc)/\u.cell? ⟨gf,i,none⟩ = some (.int .i64 f)):=by
  have k0:=keepMix hgr ndo o0;have k1:=keepMix hgr ndo o1;have k2:=keepMix hgr ndo o2;have k3:=keepMix hgr ndo o3;have k4:=keepMix hgr ndf f0;rintro u (rfl | rfl | rfl)
  ·exact ⟨hA4.drew.cell,HX.out.drew.cell,k0.1,k1.1,k2.1,k3.1,k4.1⟩
  ·exact ⟨(hA4.drew.alloc _).cell,(HX.out.drew.alloc _).cell,k0.2.1,k1.2.1,k2.2.1,k3.2.1,k4.2.1⟩
  ·exact ⟨((hA4.drew.alloc _).grown hgr ndp).cell,((HX.out.drew.alloc _).grown hgr ndx).cell,k0.2.2,k1.2.2,k2.2.2,k3.2.2,k4.2.2⟩
 have HA5:=(mkH (At w5 pb _ 42) <|(hA4.drew.alloc _).grown hgr ndp);have HWX:=(mkH (Ext own own4 w/\FrP own z w w4) <|⟨Ext.trans HE.out hE4 HFw.out.size,Fr.trans HFw.out (Fr.mono hf24 (fun _ _ h=>h.elim))⟩);clear hrun hgr hge hown hrow1 hdr hdt ndp ndo ndf ndx hA4 hP4 hLs o0 o1 o2 o3 f0 hoz hot hfz hft hov hfv hw4 hf34 hf24 hE4 ha3;refine wp_region_mix [21,22,25] (fun k=>match k with | 0=>w4.drew | 1=>w4.drew.alloc (.cells #[.int .i64 ok,.int .i64 okey,.int .i64 ov,.slice sa osp.length sc,.int .i64 t.work.ans.err,.bool t.work.ans.did,.int .i64 t.work.ans.value,.int .i64 t.work.ans.stamp,.slice va vn vc,.int .i64 f] 75) | 2=>w5 | _=>w5.setCell ⟨pb,9,none⟩ (.slice (some ⟨g',0,none⟩) (D.deeds.length + 1) gcap)) 2 rfl (by kernel_rfl) (by kernel_rfl) (by kernel_rfl) (by decide) (by kernel_rfl) (by kernel_rfl) (by decide) rfl ?_;intro W hW;have hWc : ∀ u,_:=fun u=>HC.out (W u) (by
  obtain ⟨k,hk,he⟩:=hW u;rw [he];rcases (show k = 0\/k = 1\/k = 2 by omega) with rfl | rfl | rfl
  ·exact .inl rfl
  ·exact .inr (.inl rfl)
  ·exact .inr (.inr rfl))
 have hpu : ∀ u q,(W u).cell? ⟨pb,q,none⟩ = _:=fun u=>(hWc u).1
 have hxu : ∀ u q,(W u).cell? ⟨w3.heap.size,q,none⟩ = _:=fun u=>(hWc u).2.1
 have ho0 : ∀ u,(W u).cell? ⟨go,i * 4,none⟩ = _:=fun u=>(hWc u).2.2.1
 have ho1 : ∀ u,(W u).cell? ⟨go,i * 4 + 1,none⟩ = _:=fun u=>(hWc u).2.2.2.1
 have ho2 : ∀ u,(W u).cell? ⟨go,i * 4 + 2,none⟩ = _:=fun u=>(hWc u).2.2.2.2.1
 have ho3 : ∀ u,(W u).cell? ⟨go,i * 4 + 3,none⟩ = _:=fun u=>(hWc u).2.2.2.2.2.1
 have hf0 : ∀ u,(W u).cell? ⟨gf,i,none⟩ = _:=fun u=>(hWc u).2.2.2.2.2.2
 simp only [PlD.cells,hov',hfv',pv] at hpu;have hc5:=HA5.out.cell;have hz5:=HA5.out.frozen;simp only [PlD.cells,hov',hfv',pv] at hc5;clear hWc hW
 repeat (refine mix_read rfl rfl ?_; go_big_quiet_step (fail); refine wpQuiet_nil ?_)
 refine mix_eff (v:=.slice (some ⟨w4.heap.size,0,none⟩) 1 1) rfl rfl rfl ?_ ?_
 ·go_simp;exact ⟨rfl,rfl⟩
 refine mix_eff rfl rfl rfl (HRun.out _ _ _ _ rfl rfl rfl rfl) ?_;go_simp
 repeat (refine mix_read rfl rfl ?_; go_big_quiet_step (fail); refine wpQuiet_nil ?_)
 refine mix_eff (v:=undef) rfl rfl rfl ?_ ?_
 ·go_simp;exact ⟨rfl,rfl⟩
 refine mix_nil ?_;go_simp;clear hpu hxu ho0 ho1 ho2 ho3 hf0 hc5 hz5;go_wp2;go_ret2;refine ⟨rfl,?_⟩;obtain ⟨own5,h1,h2,h3⟩:=HEnd.out;exact PlGoes.trans HWX.out.1 HWX.out.2 ⟨own5,_,h1,h2,h3,HQ.out _ _ rfl rfl ⟨rfl,rfl,rfl,rfl,rfl⟩ rfl rfl ⟨rfl,rfl⟩ rfl rfl⟩
end
end
end Go.Proofs.YtfccelbmacjifabGreat
