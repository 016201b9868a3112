import Derived.Test.YtfccelbmacjifaaGreatP0
import Derived.Test.YtfccelbmacjifaaGreatP31
import Derived.Test.YtfccelbmacjifaaGreatP29
set_option linter.unusedSimpArgs false
set_option maxRecDepth 100000
set_option maxHeartbeats 4000000
namespace Go.Proofs.YtfccelbmacjifaaGreat
section
open Go.RowKit
section
variable {own : Own} {z : Nat} {W w w1 : World} {pb : Nat} {D : PlD} {N E L T c c' puts takes : Int} {Rt : Int->List (Int × Int)} {ds : List DeedV} {A B l : List (DeedV × Nat)} {v : Value} {sb : Nat}
theorem FairEnd.pre_le (h : FairEnd Rt ds c N E L puts takes) (hl : OrdL ds ds.length (A ++ B)) (hp : Pre A c') : c'<=c:=by
 by_cases h1 : 1<=c'
 ·obtain ⟨x,x1,x2,x3⟩:=hp.2.2 c' h1 (Int.le_refl _);obtain ⟨_,y2,_⟩:=(hl.mem x.1 x.2).1 (List.mem_append.2 (.inl x1))
  have:=(h.took y2 x2).2.2.1
  omega
 ·have:=h.c0; omega
theorem LRow.keep (h : LRow W w v l) (hf : Fr (fun k=>k = sb) w w1) (hs : w.heap.size<=sb\/∀ k,v.ownBlock = some k->k≠sb) (hW : W.heap.size<=sb) : LRow W w1 v l:=by
 refine ⟨hf.owns h.row ?_,h.new,Fr.transNew h.fr hf (fun i hi=>.inr (by rw [hi]; exact hW))⟩;intro k hk e;rcases hs with q | q
 ·have:=ownsRow_lt h.row hk; omega
 ·exact q k hk e
def ShOn (w : World) (sb : Nat) (ps : List (Int × Int)) : Prop:=∃ a c,ShAt w sb a c ps/\∀ g,a = some ⟨g,0,none⟩->sb < g/\g < w.heap.size
theorem ShOn.calm {ps : List (Int × Int)} (h : ShOn w sb ps) (hf : Fr (fun _=>False) w w1) : ShOn w1 sb ps:=by
 obtain ⟨a,c,h1,h2⟩:=h;exact ⟨a,c,h1.calm hf,fun g hg=>⟨(h2 g hg).1,Nat.lt_of_lt_of_le (h2 g hg).2 hf.size⟩⟩
theorem DoesTo.read {ps spans : List (Int × Int)} {kind key value : Int} {va : Option Addr} {vn vc : Nat} (h : DoesTo w w1 sb ps kind key value spans (.slice va vn vc)) : ((shAns ps kind key spans).spans = []->Value.slice va vn vc = .slice none 0 0)/\vn = (shAns ps kind key spans).spans.length/\ReadLists w1 va (shAns ps kind key spans).spans:=by
 cases hu : shUpd ps kind key
 ·have hO:=h.no hu;obtain ⟨_,_,hL⟩:=hO.lists own00 0;exact ⟨hO.nil,hL.read⟩
 ·obtain ⟨hv,_⟩:=h.yes hu;have h12 : kind = 1\/kind = 2:=by
   have:=hu
   simp only [shUpd,Bool.or_eq_true,Bool.and_eq_true,beq_iff_eq] at this;omega
  have hsp : (shAns ps kind key spans).spans = []:=by
   unfold shAns;rw [if_neg (by omega),if_neg (by omega),if_pos hu]
  obtain ⟨rfl,rfl,rfl⟩ : va = none/\vn = 0/\vc = 0:=by simpa using hv
  rw [hsp];exact ⟨fun _=>rfl,rfl,fun i l hl=>by simp at hl⟩
theorem DoesTo.sheet {ps spans : List (Int × Int)} {kind key value : Int} {v : Value} {a : Option Addr} {c : Nat} (h : DoesTo w w1 sb ps kind key value spans v) (hs : ShAt w sb a c ps) (hg : ∀ g,a = some ⟨g,0,none⟩->sb < g/\g < w.heap.size) : ShOn w1 sb (shNew ps kind key value):=by
 cases hu : shUpd ps kind key
 ·have hO:=h.no hu;have e : shNew ps kind key value = ps:=by unfold shNew; rw [hu]; rfl
  rw [e];exact ⟨a,c,hs.calm hO.fr,fun g hq=>⟨(hg g hq).1,Nat.lt_of_lt_of_le (hg g hq).2 hO.fr.size⟩⟩
 ·obtain ⟨_,_,a',c',h1,h2⟩:=h.yes hu
  have:=hs.1.lt
  exact ⟨a',c',h1,fun g hq=>⟨by have:=(h2 g hq).1; omega,(h2 g hq).2⟩⟩
theorem fair_calls (hP : PlAt own z W pb D) (hc : D.k = 0/\D.t = T/\D.n = N/\D.e = E/\D.l = L) (hp : 0<=D.puts/\D.puts<=2 ^ 37) (ht : 0<=D.takes/\D.takes<=2 ^ 37) (hdl : D.deeds.length<=2 ^ 37) (hne : D.deeds≠[]) (hN : N<=64) (hcl : D.P.clock<=2 ^ 41) (hF : FairEnd Rt D.deeds D.P.clock N E L D.puts D.takes) :
  Calls Tryz.prog 52 #[pv pb] W fun r w'=>r = .returned (.bool true)/\Fr (fun _=>False) W w':=by
 have HOr:=(mkH (Calls _ _ _ _ _) <|order_calls hP hc hp ht hdl hne (fun n d hd he=>by
  rcases hF.fd n d hd with q | q | q
  ·exact absurd q.took.2 he
  ·exact absurd q.2.2.2.1 he
  ·exact q) hF.pd)
 have HP:=(mkH (PlAt own z W pb D) <|hP);have HF:=(mkH (FairEnd Rt D.deeds D.P.clock N E L D.puts D.takes) <|hF);have HDl:=(mkH (D.deeds.length<=2 ^ 37) <|hdl);clear hP hc hp ht hdl hne hF;unfold pv at HOr ⊢
 go_enter Tryz.func52,Tryz.ntmps52
 go_wp2_with fail;refine Calls.mono HOr.out ?_;rintro r w1 ⟨v,l,rfl,hL,hO⟩;obtain ⟨va,vc,rfl⟩:=ownsShape hL.row;have hll : l.length<=2 ^ 37:=Nat.le_trans hO.len HDl.out;have HL:=(mkH (LRow W w1 _ l) <|hL);have HO:=(mkH (OrdL D.deeds D.deeds.length l) <|hO);clear hL hO HOr;obtain ⟨sb,hsb⟩ : ∃ sb,sb = w1.heap.size:=⟨_,rfl⟩;have hS2 : ShOn (w1.alloc (.cells #[.slice none 0 0] 72)) sb (Rt 0):=by
  refine ⟨none,0,⟨?_,?_⟩,fun g hg=>by cases hg⟩
  ·rw [HF.out.r0,hsb]; exact At.new w1 _ _
  ·rw [HF.out.r0]; intro i p hp; simp at hp
 have HSB:=(mkH (sb = w1.heap.size) <|hsb);have HS2:=(show Hid _ from hS2);clear hS2;have hA0:=(mkH (Pre [] 0) <|Pre.none);go_wp2;generalize hw2 : World.alloc _ _ = w2 at *;have HF2:=(mkH (Fr (fun _=>False) w1 w2) <|by rw [<- hw2]; exact (Fr.refl _ _).alloc _);clear hw2;simp only [<- hsb];clear hsb
 go_loopw [6,7] (fun n i wr=>∃ (A B : List (DeedV × Nat)) (c' : Int),n = .int .i64 c'/\i = .int .i64 A.length/\Hid (l = A ++ B)/\Hid (Pre A c')/\Hid (ShOn wr sb (Rt c'))/\Hid (Fr (fun k=>k = sb) w2 wr)) (fun _ i _=>l.length - (intOf i).toNat)
 case atStart=>exact ⟨[],l,0,rfl,rfl,rfl,hA0,HS2,Fr.refl _ _⟩
 case round =>
  obtain ⟨A,B,c',rfl,rfl,HAB,HPre,HSh,HFr⟩:=hrel;have hW1 : W.heap.size<=sb:=by rw [HSB.out]; exact HL.out.fr.size
  have HLr:=(mkH (LRow W wr _ l) <|(HL.out.calm HF2.out).keep HFr.out (.inr (fun k hk=>by have:=ownsRow_lt HL.out.row hk; rw [HSB.out]; omega)) hW1);have hOAB:=HO.out;rw [HAB.out] at hOAB;have hcc:=HF.out.pre_le hOAB HPre.out;have hc0:=HPre.out.1;cases B with
  | nil =>
   have hAl : l = A:=by rw [HAB.out,List.append_nil]
   have hlast : c' = D.P.clock:=HF.out.last (by rw [<- hAl]; exact HO.out) HPre.out;have hPr:=HP.out.calm HLr.out.fr;have ha:=hPr.at_.cell;simp only [PlD.cells,pv] at ha;have HCk:=(mkH (Calls _ _ _ _ _) <|ZClock_calls hPr.st);have HFin:=(mkH (Fr (fun _=>False) W wr) <|HLr.out.fr);have HLa:=(mkH (c' = D.P.clock) <|hlast);rw [<- hAl];clear hAl hPr hlast;go_wp2_with fail;refine Calls.mono HCk.out ?_;rintro r w3 ⟨rfl,rfl⟩;rw [<- HLa.out];go_wp2;go_ret;exact ⟨by simp,HFin.out⟩
  | cons x B' =>
   obtain ⟨d,n⟩:=x;obtain ⟨m,hm⟩ : ∃ m,m = A.length:=⟨_,rfl⟩;have hlm : m + 1 + B'.length = l.length:=by rw [HAB.out,hm]; simp; omega
   obtain ⟨_,n2,n3⟩:=(hOAB.mem d n).1 (by simp);have hdm:=List.mem_of_getElem? n2;have hPr:=HP.out.calm HLr.out.fr;have hdk:=hPr.dok d hdm;obtain ⟨xa,xc,hsv⟩:=ownsShape hdk.1.row;obtain ⟨la,lc,hav⟩ : ∃ la lc,d.av = .slice la d.a.spans.length lc:=by
    obtain ⟨ins,_,h2,_⟩:=hdk.2.1.top;exact ownsShape h2.row
   obtain ⟨g2,c2,hv2,hg1,hg2,hfz,_,hcell⟩:=HLr.out.cells (by rw [HAB.out]; simp);obtain ⟨rfl,rfl⟩ : va = some ⟨g2,0,none⟩/\vc = c2:=by simpa using hv2
   have hca:=hcell m (d,n) (by rw [HAB.out,hm]; simp);have hpd : plc (d,n) = [.int .i64 d.op.kind,.int .i64 d.op.key,.int .i64 d.op.value,.slice xa d.op.spans.length xc,.int .i64 d.a.err,.bool d.a.did,.int .i64 d.a.value,.int .i64 d.a.stamp,.slice la d.a.spans.length lc,.int .i64 d.frm,.int .i64 n]:=by simp only [plc,DeedV.cells,hsv,hav,List.cons_append,List.nil_append]
   rw [hpd] at hca;have c0:=hca 0 _ rfl;have c1:=hca 1 _ rfl;have c2:=hca 2 _ rfl;have c3:=hca 3 _ rfl;have c4:=hca 4 _ rfl;have c5:=hca 5 _ rfl;have c6:=hca 6 _ rfl;have c7:=hca 7 _ rfl;have c8:=hca 8 _ rfl;have c9:=hca 9 _ rfl;simp only [Nat.add_zero] at c0;have HLt:=(mkH (∀ (q : Nat) e,l[q]? = some e->m + 1<=q->¬ (e.2 : Int) < d.frm) <|fun q e hq hmq=>by
    have : (e.1,e.2) ∈ B':=by
     rw [HAB.out,List.getElem?_append_right (by omega),<- hm] at hq;obtain ⟨p,hp⟩ : ∃ p,q - m = p + 1:=⟨q - m - 1,by omega⟩;rw [hp] at hq;exact List.mem_of_getElem? hq
    exact HF.out.later hOAB this)
   have HNx:=(show Hid _ from HF.out.next hOAB HPre.out);have HPp:=(mkH (properB d.op.kind d.op.key d.op.spans = true) <|HF.out.pd n d n2);have HDk:=(mkH (DeedOk own (z + 1) wr d) <|hdk);have HDW:=(mkH (DeedOk own (z + 1) W d) <|HP.out.dok d hdm);have HSm:=(mkH ((Rt c').length<=2 ^ 20) <|by
    have:=HF.out.sm c' hc0 hcc
    show _<=_;omega)
   have HEr:=(mkH (d.a.err = 0) <|n3);have HSv:=(mkH (d.op.sv = .slice xa d.op.spans.length xc) <|hsv);have HAv:=(mkH (d.av = .slice la d.a.spans.length lc) <|hav);have HM:=(mkH (m = A.length) <|hm);have HC:=(mkH (∀ (k : Nat) x,l[k]? = some x->_) <|hcell);have hmm : (Value.int .i64 (A.length : Nat) : Value) = .int .i64 (m : Int):=by rw [hm]
   have hml : m < l.length:=by omega
   have HLm:=(mkH (m + 1 + B'.length = l.length) <|hlm);rw [hmm];clear hm hmm hca hpd hcell hv2 hdk hPr n2 n3 hdm hOAB hlm hfz hsv hav;obtain ⟨db,hdb⟩ : ∃ db,db = wr.heap.size:=⟨_,rfl⟩;go_wp2;generalize hw3 : World.alloc _ _ = w3;have HB3:=(mkH (At w3 db [.int .i64 d.op.kind,.int .i64 d.op.key,.int .i64 d.op.value,.slice xa d.op.spans.length xc,.int .i64 d.a.err,.bool d.a.did,.int .i64 d.a.value,.int .i64 d.a.stamp,.slice la d.a.spans.length lc,.int .i64 d.frm] 97) <|by rw [<- hw3,hdb]; exact At.new wr _ _);have HF3:=(mkH (Fr (fun _=>False) wr w3) <|by rw [<- hw3]; exact (Fr.refl _ _).alloc _);have HDb:=(mkH (db = wr.heap.size) <|hdb);simp only [<- hdb];clear hw3 hdb c0 c1 c2 c3 c4 c5 c6 c7 c8 c9
   go_loopw [9] (fun j wr2=>∃ q : Nat,m + 1<=q/\q<=l.length/\j = .int .i64 q/\Hid (Fr (fun _=>False) w3 wr2)) (fun j _=>l.length - (intOf j).toNat)
   case atStart=>exact ⟨m + 1,Nat.le_refl _,by omega,by go_num,Fr.refl _ _⟩
   case round =>
    obtain ⟨q,hq1,hq2,rfl,HFq⟩:=hrel;by_cases hql : q < l.length
    ·obtain ⟨e,he⟩ : ∃ e,l[q]? = some e:=⟨_,List.getElem?_eq_getElem hql⟩;have hlate:=HLt.out q e he hq1;have hd' : decide ((e.2 : Int) < d.frm) = false:=by simpa using hlate
     have ce:=(HF3.out.trans HFq.out).keepCell (HC.out q e he 10 (.int .i64 e.2) rfl);have hbc:=(HFq.out.at HB3.out (fun h=>h)).cell;have HFe:=(mkH (Fr (fun _=>False) w3 wr.drew) <|HFq.out.drew);clear hlate he;go_wp2_with fail;go_region;go_wp2
     go_roundw
     case rel=>exact ⟨q + 1,by omega,by omega,by go_num,HFe⟩
     case measure=>simp [intOf]; omega
    ·have hqe : q = l.length:=by omega
     have HB4:=(mkH (At wr db _ 97) <|HFq.out.at HB3.out (fun h=>h));have HF4:=(mkH (Fr (fun _=>False) _ wr) <|HF3.out.trans HFq.out);obtain ⟨sa,sc,hsh,hsg⟩:=HSh.out;have hsd : sb < db:=by rw [HDb.out]; exact hsh.1.lt
     have hsh4:=hsh.calm HF4.out;have hop:=HDk.out.1;unfold OpOk at hop;rw [HSv.out] at hop;have HDo:=(mkH (Calls _ _ _ _ _) <|does_calls hsh4 d.op.kind d.op.key d.op.value xa xc d.op.spans ((PairsAt.ofRow hop).calm HF4.out) HSm.out HPp.out);have HSg:=(mkH (∀ g,sa = some ⟨g,0,none⟩->sb < g/\g < db) <|fun g hg=>by rw [HDb.out]; exact hsg g hg);have HS4:=(mkH (ShAt wr sb sa sc (Rt c')) <|hsh4);have hsc:=hsh4.1.cell;have hbc:=HB4.out.cell;have hb4:=HB4.out.lt;clear hop hsh hsh4 hsg;unfold pv opVal at HDo;go_wp2_with fail;refine Calls.mono HDo.out ?_;rintro r w5 ⟨va',vn,vc',rfl,hD⟩;have HF5 : Hid (Fr (fun k=>k = sb) wr w5):=by
      cases hu : shUpd (Rt c') d.op.kind d.op.key
      ·exact Fr.mono (hD.no hu).fr (fun _ _ h=>h.elim)
      ·exact (hD.yes hu).2.1
     have HD:=(mkH (DoesTo wr w5 sb (Rt c') d.op.kind d.op.key d.op.value d.op.spans (.slice va' vn vc')) <|hD);have HB5:=(mkH (At w5 db _ 97) <|HF5.out.at HB4.out (by omega));obtain ⟨SA,hSA⟩ : ∃ SA,Hid (SA = shAns (Rt c') d.op.kind d.op.key d.op.spans):=⟨_,rfl⟩;rw [<- hSA.out];have hbc:=HB5.out.cell;have hb5:=HB5.out.lt;have hdn : db≠w5.heap.size:=by omega
     clear hD HDo hsc;have HEq:=(mkH (d.a = { SA with stamp:=d.a.stamp }) <|by
      show _ = _;rw [hSA.out]; exact HNx.out.2.2.2.1)
     have HFW5:=(mkH (Fr (fun _=>False) W w5) <|Fr.transNew (HLr.out.fr.trans HF4.out) HF5.out (fun i hi=>.inr (by rw [hi]; exact hW1)));have HSame:=(mkH (∀ ob,Calls Tryz.prog 59 #[.agg #[.int .i64 d.a.err,.bool d.a.did,.int .i64 d.a.value,.int .i64 d.a.stamp,.slice la d.a.spans.length lc],.agg #[.int .i64 SA.err,.bool SA.did,.int .i64 SA.value,.int .i64 d.a.stamp,.slice va' vn vc']] (w5.alloc ob) _) <|fun ob=>by
      have f1 : d.a.err = SA.err:=by have h:=congrArg BAns.err HEq.out; exact h
      have f2 : d.a.did = SA.did:=by have h:=congrArg BAns.did HEq.out; exact h
      have f3 : d.a.value = SA.value:=by have h:=congrArg BAns.value HEq.out; exact h
      have f4 : d.a.spans = SA.spans:=by have h:=congrArg BAns.spans HEq.out; exact h
      obtain ⟨r1,r2,r3⟩:=HD.out.read;rw [<- hSA.out,<- f4] at r1 r2 r3;rw [<- f1,<- f2,<- f3];have hl:=HDW.out.2.1;have hn:=hl.nil;rw [HAv.out] at hl hn;exact sameAnswers_eq d.a (w5.alloc ob) la va' _ vn lc vc' HDW.out.2.2 hn r1 ((hl.fr (HFW5.out.alloc ob) (Ext.refl _ _) (fun _ _ h=>h)).read) ⟨r2,r3.calm ((Fr.refl _ _).alloc ob)⟩)
     have HTk:=(mkH (∀ w',Calls Tryz.prog 60 #[.agg #[.int .i64 d.op.kind,.int .i64 d.op.key,.int .i64 d.op.value,.slice xa d.op.spans.length xc,.int .i64 d.a.err,.bool d.a.did,.int .i64 d.a.value,.int .i64 d.a.stamp,.slice la d.a.spans.length lc,.int .i64 d.frm]] w' _) <|fun w'=>by
      have h:=tookD_calls d ⟨xa,_,xc,la,_,lc,HSv.out,HAv.out⟩ w';simp only [DeedV.cells,HSv.out,HAv.out] at h;exact h)
     have HSh5:=(mkH (ShOn w5 sb (shNew (Rt c') d.op.kind d.op.key d.op.value)) <|HD.out.sheet HS4.out (fun g hg=>⟨(HSg.out g hg).1,by have:=(HSg.out g hg).2; omega⟩));simp only [ansV];go_wp2_with fail;refine Calls.mono (HSame.out _) ?_;rintro r w7 ⟨rfl,hF7⟩;have HF7:=(mkH (Fr (fun _=>False) w5 w7) <|((Fr.refl _ _).alloc _).trans hF7);have hbc:=(HF7.out.at HB5.out (fun h=>h)).cell;clear hF7 HSame hb5 hdn;go_wp2_with fail;refine Calls.mono (HTk.out _) ?_;rintro r w8 ⟨rfl,hF8⟩;have HF8:=(mkH (Fr (fun _=>False) w5 w8) <|HF7.out.trans hF8);have HB8:=(mkH (At w8 db _ 97) <|HF8.out.at HB5.out (fun h=>h));have HSh8:=(mkH (ShOn w8 sb (shNew (Rt c') d.op.kind d.op.key d.op.value)) <|HSh5.out.calm HF8.out);have HFr8:=(mkH (Fr (fun k=>k = sb) w2 w8) <|((HFr.out.trans (Fr.mono HF4.out (fun _ _ h=>h.elim))).trans HF5.out).trans (Fr.mono HF8.out (fun _ _ h=>h.elim)));have HAB8 : Hid (l = (A ++ [(d,n)]) ++ B'):=by show _ = _; rw [HAB.out]; simp
     have hbc:=HB8.out.cell;clear hF8 HF7 HTk HB5 HF8;have HN2:=HNx.out;cases tk : tookD d
     ·rw [tk] at HN2;simp only [Bool.false_eq_true,if_false] at HN2;have HSh9:=(mkH (ShOn w8 sb (Rt c')) <|by rw [HN2.2.2.1]; exact HSh8.out);have HPre9:=(mkH (Pre (A ++ [(d,n)]) c') <|HN2.2.1);have hmm : ((A ++ [(d,n)]).length : Nat) = m + 1:=by rw [HM.out]; simp
      have HMm:=(mkH (((A ++ [(d,n)]).length : Nat) = m + 1) <|hmm);clear HN2 tk hmm;go_wp2
      go_roundw
      case rel=>exact ⟨A ++ [(d,n)],B',c',rfl,by rw [HMm.out]; go_num,HAB8,HPre9,HSh9,HFr8⟩
      case measure=>simp [intOf]; omega
     ·rw [tk] at HN2;simp only [if_true] at HN2;have HSh9:=(mkH (ShOn w8 sb (Rt (c' + 1))) <|by rw [HN2.2.2.1]; exact HSh8.out);have HPre9:=(mkH (Pre (A ++ [(d,n)]) (c' + 1)) <|HN2.2.1);have hst : (d.a.stamp != c' + 1) = false:=by simpa using HN2.1
      have hmm : ((A ++ [(d,n)]).length : Nat) = m + 1:=by rw [HM.out]; simp
      have HMm:=(mkH (((A ++ [(d,n)]).length : Nat) = m + 1) <|hmm);clear HN2 tk hmm;go_wp2
      go_roundw
      case rel=>exact ⟨A ++ [(d,n)],B',c' + 1,rfl,by rw [HMm.out]; go_num,HAB8,HPre9,HSh9,HFr8⟩
      case measure=>simp [intOf]; omega
end
end
section
open Go.RowKit
theorem lordered_calls (k t n e l : Int) (W : World) (sa : Option Addr) (c : Nat) (acts : List ActD) (rt : rawI t) (rn : rawI n) (re : rawI e) (rl : rawI l) (hlen : acts.length<=2 ^ 20) (hacts : ∀ i a,acts[i]? = some a->ActIn W sa i a/\a.sn<=2 ^ 20) :
  Calls Tryz.prog 22 #[cfg k t n e l,.slice sa acts.length c,.int .i64 0] W fun r W'=>r = .returned (.bool true)/\Fr (fun _=>False) W W':=by
 obtain ⟨hok,hT1⟩:=cfg_ok 0 1 t n e l (.inl rfl) (.inl rfl);have HCf:=(mkH (∀ w,Calls Tryz.prog 41 #[cfg k t n e l,.int .i64 0,.int .i64 1] w _) <|fun w=>config_calls k t n e l 0 1 w rt rn re rl (.inl rfl));generalize cT 1 t = T at *;generalize cN n = N at *;generalize cE e = E at *;generalize cL l = L at *;have hb : (1<=T/\T<=8)/\(0<=N/\N<=64)/\(1<=E/\E<=256)/\(0<=L/\L<=1099511627776):=by
  simp only [okCfg,Bool.and_eq_true,isIn_iff] at hok;omega
 have HB:=(mkH ((1<=T/\T<=8)/\(0<=N/\N<=64)/\(1<=E/\E<=256)/\(0<=L/\L<=1099511627776)) <|hb);obtain ⟨bb,hbb⟩ : ∃ bb : Nat,Hid (bb = 400 * acts.length/\bb + 70000<=2 ^ 36):=⟨_,rfl,by omega⟩;have HPd:=(mkH (∀ w,Fr (fun _=>False) W w->Calls Tryz.prog 47 #[cfg 0 T N E L,.slice sa acts.length c,.int .i64 ((0 : Nat) : Int)] w fun r W'=>∃ pb,r = .returned (pv pb)/\PlOn w W' pb (fun D=>OrdJ T N E L D/\Sz bb D)) <|by
  intro w hw;rw [hbb.out.1];exact played_calls ord_plays (fun D hD=>OrdJ.fresh hb.2.1.1 hb.2.2.1.1 hD) hok (by omega) w sa c acts hlen (fun i a ha=>⟨(hacts i a ha).1.keep hw,(hacts i a ha).2⟩))
 clear hok hacts hb rt rn re rl hT1 hlen;unfold cfg at HCf HPd ⊢;simp only [Int.ofNat_zero,Int.natCast_zero] at HPd
 go_enter Tryz.func22,Tryz.ntmps22
 go_wp2_with fail;refine Calls.mono (HCf.out _) ?_;rintro r w1 ⟨rfl,hF1⟩;have HF1:=(mkH (Fr (fun _=>False) W w1) <|((Fr.refl _ _).alloc _).trans hF1);clear hF1 HCf;go_wp2_with fail;refine Calls.mono (HPd.out w1 HF1.out) ?_;rintro r w2 ⟨pb,rfl,hOn⟩;obtain ⟨own,D,hP,hE,hF,hj,hS⟩:=hOn;have HC:=(mkH (Calls _ _ _ _ _) <|Pfinish_calls (f:=0) ord_plays hP hj hS (by have:=hbb.out.2; omega) (by have:=HB.out.1; omega) HB.out.2.1);have HX:=(mkH (Ext own00 own w1/\Fr (fun _=>False) w1 w2) <|⟨hE,hF⟩);clear hP hE hF hj hS HPd;unfold pv at HC ⊢;simp only [Int.ofNat_zero,Int.natCast_zero] at HC;go_wp2_with fail;refine Calls.mono HC.out ?_;rintro r w3 ⟨rfl,hg⟩;have HOn3:=(mkH (PlOn w1 w3 pb _) <|PlOn.goes HX.out.1 HX.out.2 hg);clear hg HC HX;go_wp2_with fail;refine Calls.mono (whole_calls w3) ?_;rintro r w6 ⟨va,vc,rfl,hO⟩;have HO:=(mkH (OwnSpans w3 w6 _ _) <|hO);clear hO;simp only [opVal];go_wp2_with fail;generalize hw7 : World.alloc _ _ = w7;have hf7 : Fr (fun _=>False) w6 w7:=by rw [<- hw7]; exact (Fr.refl _ _).alloc _
 clear hw7;obtain ⟨own5,D5,hP5,hE5,hF5,hj5,hS5,hst5⟩:=HOn3.out;obtain ⟨own7,hP7,hE7,hop7⟩:=hP5.boxes (HO.out.fr.trans hf7) (HO.out.keep hf7) (Nat.le_refl _) ⟨4,0,0,[(0,1099511627776)],.slice va 1 vc⟩ rfl rfl;have HC7:=(mkH (Calls _ _ _ _ _) <|ord_begin hP7 hj5 hst5 hS5 HB.out.1.1 (by have:=hbb.out.2; omega) va vc hop7);have HX7:=(mkH (Ext own00 own7 w1/\Fr (fun _=>False) w1 w7) <|⟨Ext.trans hE5 hE7 hF5.size,hF5.trans (HO.out.fr.trans hf7)⟩);clear hf7 hP5 hE5 hF5 hj5 hS5 hst5 hP7 hE7 hop7 HOn3 HO;unfold pv opVal at HC7;simp only [Int.ofNat_zero,Int.natCast_zero] at HC7;go_wp2_with fail;refine Calls.mono HC7.out ?_;rintro r w8 ⟨rfl,hg⟩;obtain ⟨own8,D8,hP8,hE8,hF8,hB8⟩:=PlOn.goes HX7.out.1 HX7.out.2 hg;have HC8:=(mkH (Calls _ _ _ _ _) <|ord_solo hP8 hB8 (by have:=hbb.out.2; omega) HB.out.2.1);have HX8:=(mkH (Ext own00 own8 w1/\Fr (fun _=>False) w1 w8) <|⟨hE8,hF8⟩);clear hP8 hE8 hF8 hB8 hg HC7 HX7;unfold pv at HC8;simp only [Int.ofNat_zero,Int.natCast_zero] at HC8;go_wp2_with fail;refine Calls.mono HC8.out ?_;rintro r w9 ⟨rfl,hg⟩;obtain ⟨own9,D9,hP9,hE9,hF9,hj9,hst9,hs9,hne9⟩:=PlOn.goes HX8.out.1 HX8.out.2 hg;clear hg HC8 HX8;obtain ⟨Rt,hFE⟩:=hj9.fair hst9;have hck:=hP9.fit.clk;have hlim:=hj9.lim;have HC9:=(mkH (Calls _ _ _ _ _) <|by
  unfold Sz at hs9;have hbz:=hbb.out.2;have hL:=HB.out.2.2.2;exact fair_calls hP9 hj9.cfg (by omega) (by omega) (by omega) hne9 HB.out.2.1.2 (by omega) hFE)
 have HF9:=(mkH (Fr (fun _=>False) W w9) <|HF1.out.trans hF9);clear hP9 hE9 hF9 hj9 hst9 hs9 hne9 hFE hck hlim;unfold pv at HC9;go_wp2_with fail;refine Calls.mono HC9.out ?_;rintro r w10 ⟨rfl,hF10⟩;have HF10:=(mkH (Fr (fun _=>False) W w10) <|HF9.out.trans hF10);clear hF10;go_wp2;go_ret;exact ⟨rfl,HF10.out⟩
theorem ordered_any : LawHolds 11:=by
 intro k t n e l W sa c acts rt rn re rl hlen hacts;have HA:=(mkH (Calls Tryz.prog 22 #[cfg k t n e l,.slice sa acts.length c,.int .i64 0] (W.alloc (.cells #[.int .i64 k,.int .i64 t,.int .i64 n,.int .i64 e,.int .i64 l] 23)) _) <|lordered_calls k t n e l _ sa c acts rt rn re rl hlen (fun i a ha=>⟨(hacts i a ha).1.keep ((Fr.refl _ _).alloc _),(hacts i a ha).2⟩));clear hacts;unfold cfg at HA ⊢
 go_enter Tryz.func11,Tryz.ntmps11
 go_wp2_with fail;refine Calls.mono HA.out ?_;rintro r w1 ⟨rfl,hF1⟩;have HF:=(mkH (Fr (fun _=>False) W w1) <|((Fr.refl _ _).alloc _).trans hF1);clear hF1 HA;go_wp2;go_ret;exact ⟨rfl,HF.out⟩
end
section
open Go.ChangeShapes Go.WideShapes Go.ChangeAt Go.RowKit Go.Joins Go.Deep
theorem ordered_contract (hany : LawHolds 11) (H : Type) (enc : TypeId × Value->H) (W : World) (base : Nat) (args : Array Value) (ds gs : List (DataW H)) (before : List MemPlace)
  (hval0 : ∀ (j : Nat) t v,Tryz.f11.params[j]? = some t->args[j]? = some v->Value.okWide Tryz.prog W .any base t v)
  (hW : DataW.Whole enc Tryz.prog Tryz.f11.params.toList Rows.orderedSpec.vars false W args.toList ds gs before) (hk : Rows.uptoSmall H (ds ++ gs) = true) :
  Calls Tryz.prog 11 args W fun e W'=>∃ v,e = .returned v/\Rows.orderedSpec.post enc Tryz.prog Tryz.f11 false true false false W args v W':=by
 have hval : ∀ (j : Nat) t v,Tryz.f11.params[j]? = some t->args[j]? = some v->Value.okWide Tryz.prog W .any base t v:=hval0;have hW':=hW;obtain ⟨p,q,hA0,hV,rfl,_,_⟩:=hW;have hA : DataW.TrodAll enc Tryz.prog W 0 (fun _=>true) true Tryz.f11.params.toList args.toList ds p:=hA0;rw [Tryz.params11] at hA hval;obtain ⟨v0,vs0,d0,ds0,p0,q0,hargs,rfl,rfl,h0,r0⟩:=trodAll_cons hA;obtain ⟨v1,vs1,d1,ds1,p1,q1,hargs1,rfl,rfl,h1,r1⟩:=trodAll_cons r0;obtain ⟨rfl,rfl,rfl⟩:=trodAll_nil r1;obtain rfl : args = #[v0,v1]:=by cases args; simp_all
 obtain ⟨rfl,rfl⟩:=trodVars_none hV;have k0:=h0;have k1:=h1;have lt0 : ∀ x ∈ p0,x.block < W.heap.size:=by obtain ⟨m,hm⟩:=k0; exact DataW.trod_lt m _ _ _ hm
 have lt1 : ∀ x ∈ p1,x.block < W.heap.size:=by obtain ⟨m,hm⟩:=k1; exact DataW.trod_lt m _ _ _ hm
 obtain ⟨k,t,n,e,l,rfl,rt,rn,re,rl⟩:=cfg_open (hval 0 23 v0 rfl rfl) h0;obtain ⟨sa,m,c,acts,rfl,hm,hl,hacts⟩:=acts_open (hval 1 24 v1 rfl rfl) h1;have hb : Rows.uptoBulk d1<=2 ^ 20:=by
  have h : Rows.uptoBulkAll ([d0,d1] ++ [])<=1048576:=of_decide_eq_true hk;simp only [List.cons_append,List.nil_append,Rows.uptoBulkAll] at h;omega
 clear hA0 hval0;subst hl;refine (hany k t n e l W sa c acts rt rn re rl (Nat.le_trans hm hb) (fun i a ha=>⟨(hacts i a ha).1,Nat.le_trans (hacts i a ha).2 hb⟩)).mono fun r W' ⟨he,hf⟩=>?_
 subst he;have bel : Below W.heap.size W W':=hf.below (fun _ _ h=>h);exact ⟨_,rfl,_,_,_,[],_,[],hW',trodAll_mk1 (shut_bool Tryz.underlying4 _),trodAll_cons_mk (Below.trod Tryz.laidOut (by kernel_rfl) (of_decide_eq_true (by kernel_rfl)) k0 bel lt0) (trodAll_cons_mk (Below.trod Tryz.laidOut (by kernel_rfl) (of_decide_eq_true (by kernel_rfl)) k1 bel lt1) trodAll_mk0),rfl,bel.frame _,fun h=>by cases h⟩
theorem ordered_lifted (hany : LawHolds 11) (os : Os) (started : os.Started) (H : Type) (enc : TypeId × Value->H) (F : Stop.Interp) :
  ReturnsInHanded {} Tryz.checked os 11 .any ((Rows.OpenSpec.upto Rows.orderedSpec).pre6 enc Tryz.prog Tryz.f11 Rows.orderedUptoRow.domain false) (((Rows.OpenSpec.upto Rows.orderedSpec).at F).post enc Tryz.prog Tryz.f11 false true false false):=by
 refine returnsInHanded_of_cond (C:=Tryz.checked) (s:=Rows.OpenSpec.upto Rows.orderedSpec) (k:=Rows.uptoSmall) rfl Tryz.own started (by kernel_rfl) Tryz.func11
  (OpenSpec.witness (enc:=enc) (C:=Tryz.checked) (s:=Rows.OpenSpec.upto Rows.orderedSpec) (k:=Rows.uptoSmall) rfl false ⟨#[],#[.agg #[.int .i64 0,.int .i64 0,.int .i64 0,.int .i64 0,.int .i64 0],.slice none 0 0],[]⟩ 8 (by kernel_rfl) (by kernel_rfl) (by kernel_rfl)
   (x:=([.agg [.lit (.int .i64 0),.lit (.int .i64 0),.lit (.int .i64 0),.lit (.int .i64 0),.lit (.int .i64 0)],.nil],[],[])) (by kernel_rfl) rfl (by kernel_rfl)) ?_
 intro W base args ds gs before hval hW _ hk _;exact ordered_contract hany H enc W base args ds gs before hval hW hk
theorem ordered_frame (hany : LawHolds 11) : Rows.OrderedUptoSaid :=
 OpenClaim.holds_of_cond 11 Tryz.f11 rfl rfl rfl rfl rfl rfl rfl ⟨rfl,rfl,rfl,rfl,rfl⟩ rfl rfl rfl rfl rfl (by kernel_rfl) Tryz.func11 (by kernel_rfl)
  (of_decide_eq_true (by kernel_rfl)) (by unfold Func.isWrapper; first | (rw [if_pos (by decide +kernel)]; kernel_rfl) | (rw [if_neg (by decide +kernel)]; exact ⟨rfl,rfl⟩))
  (fun os started H enc _ F=>ordered_lifted hany os started H enc F)
end
section
theorem ordered_holds : Rows.OrderedUptoSaid:=ordered_frame ordered_any
#print axioms ordered_holds
end
end Go.Proofs.YtfccelbmacjifaaGreat
