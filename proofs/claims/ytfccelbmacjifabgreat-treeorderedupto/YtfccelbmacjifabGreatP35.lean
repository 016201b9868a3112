import Derived.Test.YtfccelbmacjifabGreatP0
import Derived.Test.YtfccelbmacjifabGreatP34
import Derived.Test.YtfccelbmacjifabGreatP33
import Derived.Test.YtfccelbmacjifabGreatP18
set_option linter.unusedSimpArgs false
set_option maxRecDepth 100000
set_option maxHeartbeats 4000000
namespace Go.Proofs.YtfccelbmacjifabGreat
section
open Go.RowKit
section
variable {w w' : World} {sb : Nat} {a : Option Addr} {c : Nat} {ps : List (Int × Int)}
theorem OwnPairs.below {w0 w1 w : World} {v : Value} {ps : List (Int × Int)} (h : OwnPairs w1 w v ps) (hf : Fr (fun _=>False) w0 w1) : OwnPairs w0 w v ps:=⟨h.row,fun k hk=>Nat.le_trans hf.size (h.new k hk),hf.trans h.fr⟩
theorem OwnPairs.pairs {w0 w : World} {a : Option Addr} {n c : Nat} {ps : List (Int × Int)} (h : OwnPairs w0 w (.slice a n c) ps) : PairsAt w a ps:=PairsAt.ofRow (own:=fun _=>⟨0,.lists⟩) (z:=0) (tag:=.lists) ⟨h.row,fun _ _=>rfl⟩
theorem PairsAt.keepS {S : Nat->Prop} {w w' : World} {a : Option Addr} {ps : List (Int × Int)} (h : PairsAt w a ps) (hf : Fr S w w') (hS : ∀ g,a = some ⟨g,0,none⟩->¬ S g) : PairsAt w' a ps:=by
 intro i p hp;obtain ⟨g,e,c0,c1⟩:=h i p hp;have hr : ∀ (a : Addr) (v : Value),a.block = g->w.cell? a = some v->w'.cell? a = some v:=by
  intro a v hb hc;rw [cellHeap (hf.block a.block (cellLt hc) (by rw [hb]; exact hS g e))]; exact hc
 exact ⟨g,e,hr _ _ rfl c0,hr _ _ rfl c1⟩
theorem OwnPairs.push {w0 w1 w3 : World} {v : Value} {l : List (Int × Int)} {x : Int × Int} {g cap : Nat} {ob : Obj} (h : OwnPairs w0 w1 v l) (hown : w3.ownsRow 0 95 2 (.slice (some ⟨g,0,none⟩) (l.length + 1) cap) (l.length + 1) (l.flatMap pairCells ++ [.int .i64 x.1,.int .i64 x.2])) (hgr : (w1.alloc ob).grownBy w3 v.ownBlock) (hge : v.ownBlock = some g\/w1.heap.size + 1<=g) :
  OwnPairs w0 w3 (.slice (some ⟨g,0,none⟩) (l.length + 1) cap) (l ++ [x]):=by
 refine ⟨?_,?_,Fr.grown (h.fr.alloc _) hgr (fun k hk=>.inr (h.new k hk))⟩
 ·simpa [pairCells] using hown
 ·intro q hq;simp [Value.ownBlock] at hq;subst hq;rcases hge with h1 | h1
  ·exact h.new _ h1
  ·have:=h.fr.size; omega
theorem OwnPairs.setOther {w0 w : World} {v : Value} {ps : List (Int × Int)} (h : OwnPairs w0 w v ps) {b : Nat} {c : List Value} {T : TypeId} (hA : At w b c T) (h2 : T≠95) (hb : w0.heap.size<=b) (o : Nat) (x : Value) : OwnPairs w0 (w.setCell ⟨b,o,none⟩ x) v ps :=
 ⟨ownsRow_setOther h.row (a:=⟨b,o,none⟩) (hA.ne_row h.row h2) x,h.new,Fr.setNew hb h.fr o x⟩
theorem does_put (h : ShAt w sb a c ps) (key value : Int) (sv : Value) (hsm : ps.length<=2 ^ 20) (hd : (shVal ps key).2 = false) :
  Calls Tryz.prog 34 #[pv sb,opVal 1 key value sv] w fun r w'=>r = .returned (ansV { did:=true,value:=0 } (.slice none 0 0))/\Fr (fun k=>k = sb) w w'/\∃ a' c',ShAt w' sb a' c' (shPut ps key value)/\∀ g,a' = some ⟨g,0,none⟩->w.heap.size<=g/\g < w'.heap.size:=by
 obtain ⟨iP,hiP,hzP,hsP,hbP⟩:=info_parts Tryz.infoPr;have HS:=(mkH (ShAt w sb a c ps) <|h);have hsl : sb < w.heap.size:=h.1.lt;have HC:=(mkH (∀ w1,ShAt w1 sb a c ps->Calls Tryz.prog 51 #[pv sb,.int .i64 key] w1 _) <|fun w1 h=>shValue_calls h key hsm);have HW : Hid (∀ (w1 : World) (q : Bool),ShAt w1 sb a c ps->Calls Tryz.prog 52 #[pv sb,.int .i64 key,.bool q] w1 fun r w'=>∃ v,r = .returned v/\OwnPairs w1 w' v (ps.filter (shSide key q))):=fun w1 q h=>without_calls h key q hsm
 clear h;generalize shVal ps key = x at HC hd ⊢;obtain ⟨x1,x2⟩:=x;simp only at hd;subst hd;obtain ⟨lo,HLo⟩ : ∃ lo,Hid (shLo ps key = lo):=⟨_,rfl⟩;obtain ⟨hi,HHi⟩ : ∃ hi,Hid (shHi ps key = hi):=⟨_,rfl⟩;have hlo : lo.length<=2 ^ 20:=by rw [<- HLo.out]; exact Nat.le_trans (List.length_filter_le _ _) hsm
 have hhi : hi.length<=2 ^ 20:=by rw [<- HHi.out]; exact Nat.le_trans (List.length_filter_le _ _) hsm
 have HNew : Hid (shPut ps key value = lo ++ [(key,value)] ++ hi):=by show _ = _; unfold shPut; rw [HLo.out,HHi.out]
 obtain ⟨new,HNw⟩ : ∃ new,Hid (shPut ps key value = new):=⟨_,rfl⟩;rw [HNw.out];have HNew : Hid (new = lo ++ [(key,value)] ++ hi):=by show _ = _; rw [<- HNw.out]; exact HNew.out
 clear HNw;unfold pv at HC HW ⊢;unfold opVal;obtain ⟨w1,e1,hO,hR,hV,hF,hs⟩:=does_start w 1 key value sv;have ho:=hO.cell;have hv:=hV.cell;have hvz:=hV.frozen;have n1 : w.heap.size + 1≠w.heap.size + 1 + 1:=by omega
 have n2 : w.heap.size + 1 + 1≠w.heap.size + 1:=by omega
 have n3 : w.heap.size≠w.heap.size + 1 + 1:=by omega
 have n4 : w.heap.size + 1 + 1≠w.heap.size:=by omega
 have n5 : sb≠w.heap.size:=by omega
 have n6 : sb≠w.heap.size + 1:=by omega
 have n7 : sb≠w.heap.size + 1 + 1:=by omega
 have HF:=(mkH (Fr _ w w1) <|hF);have HOp:=(mkH (At w1 w.heap.size _ _) <|hO);have HR:=(mkH (At w1 (w.heap.size + 1) _ _) <|hR);have HV:=(mkH (At w1 (w.heap.size + 1 + 1) _ _) <|hV);unfold zeroAns at hv;have E1:=(mkH (_ = _) <|e1);clear hO hR hV hF e1
 go_enter Tryz.func34,Tryz.ntmps34
 go_wp2_with fail;rw [<- E1.out];refine (HC.out w1 (HS.out.calm HF.out)).mono ?_;rintro r w2 ⟨rfl,rfl⟩;clear E1 HC;go_wp2_with fail;have HV2:=(mkH (At (w2.setCell ⟨w.heap.size + 1 + 1,1,none⟩ (.bool true)) (w.heap.size + 1 + 1) [.int .i64 0,.bool true,.int .i64 0,.int .i64 0,.slice none 0 0] 69) <|HV.out.set 1 _);have HR2:=(mkH (At (w2.setCell ⟨w.heap.size + 1 + 1,1,none⟩ (.bool true)) (w.heap.size + 1) zeroAns 69) <|HR.out.setOther _ n1 _);have HO2:=(mkH (At (w2.setCell ⟨w.heap.size + 1 + 1,1,none⟩ (.bool true)) w.heap.size [.int .i64 1,.int .i64 key,.int .i64 value,sv] 53) <|HOp.out.setOther _ n3 _);have HF2:=(mkH (Fr (fun _=>False) w (w2.setCell ⟨w.heap.size + 1 + 1,1,none⟩ (.bool true))) <|Fr.setNew (by omega) HF.out _ _);clear HV HR HOp HF ho hv hvz hs;generalize w2.setCell ⟨w.heap.size + 1 + 1,1,none⟩ (.bool true) = w3 at *;refine (HW.out w3 true (HS.out.calm HF2.out)).mono ?_;rintro r w4 ⟨v,rfl,hL⟩;have HF4:=(mkH (Fr (fun _=>False) w w4) <|HF2.out.trans hL.fr);have HV4:=(mkH (At w4 (w.heap.size + 1 + 1) [.int .i64 0,.bool true,.int .i64 0,.int .i64 0,.slice none 0 0] 69) <|hL.fr.at HV2.out (fun h=>h));have HR4:=(mkH (At w4 (w.heap.size + 1) zeroAns 69) <|hL.fr.at HR2.out (fun h=>h));have HO4:=(mkH (At w4 w.heap.size _ 53) <|hL.fr.at HO2.out (fun h=>h));have HL:=(mkH (OwnPairs w w4 v lo) <|by rw [<- HLo.out]; exact hL.below HF2.out);clear hL HF2 HV2 HR2 HO2;have ho:=HO4.out.cell;have hv:=HV4.out.cell;have hvz:=HV4.out.frozen;obtain ⟨va,vc,rfl⟩:=ownsShape HL.out.row;go_wp2_with (at_builtin; refine wpList_push _ rfl _ _ 47 rfl 0 95 iP _ 2 16 Tryz.underlying47 hiP hzP hsP hbP rfl (by decide) _ _ _ rfl (ownsRow_alloc HL.out.row _) w4.heap.size [.int .i64 key,.int .i64 value] rfl rfl 95 (At.newAt (by simp) _ _) (by simp [Value.oneCell']) (by unfold maxLen; omega) (by omega) (by simp) ?_);intro g' cap w5 hown hgr hge;have HL5:=(mkH (OwnPairs w w5 (.slice (some ⟨g',0,none⟩) (lo.length + 1) cap) (lo ++ [(key,value)])) <|HL.out.push hown hgr hge);have hFg : Fr (fun j=>(Value.slice va lo.length vc).ownBlock = some j) w4 w5:=Fr.grown (Fr.alloc (Fr.refl _ _) _) hgr (fun j hj=>.inl hj);have HV5:=(mkH (At w5 (w.heap.size + 1 + 1) _ _) <|hFg.at HV4.out (HV4.out.ne_row HL.out.row (by decide)));have HR5:=(mkH (At w5 (w.heap.size + 1) _ _) <|hFg.at HR4.out (HR4.out.ne_row HL.out.row (by decide)));have ho5:=(hFg.at HO4.out (HO4.out.ne_row HL.out.row (by decide))).cell;clear hown hgr hge hFg ho hv hvz;go_wp2_with fail;have ho:=ho5;have hv:=ho5;have hvz:=ho5;clear ho5;clear ho hv hvz HO4 HF4 HV4 HR4 HL;refine (HW.out w5 false (HS.out.calm HL5.out.fr)).mono ?_;rintro r w6 ⟨y,rfl,hH⟩;obtain ⟨ya,yc,rfl⟩:=ownsShape hH.row;have HL6:=(mkH (OwnPairs w w6 _ (lo ++ [(key,value)])) <|HL5.out.calm hH.fr);have HV6:=(mkH (At w6 (w.heap.size + 1 + 1) [.int .i64 0,.bool true,.int .i64 0,.int .i64 0,.slice none 0 0] 69) <|hH.fr.at HV5.out (fun h=>h));have HR6:=(mkH (At w6 (w.heap.size + 1) zeroAns 69) <|hH.fr.at HR5.out (fun h=>h));have HY:=(mkH (PairsAt w6 ya hi) <|by rw [<- HHi.out]; exact hH.pairs);have hyl : (ps.filter (shSide key false)).length = hi.length:=by rw [<- HHi.out]; rfl
 rw [hyl];have HNY : Hid (∀ g,ya = some ⟨g,0,none⟩->w5.heap.size<=g):=by
  rintro g rfl;exact hH.new g rfl
 have HL5l : Hid (∀ k,(Value.slice (some ⟨g',0,none⟩) (lo.length + 1) cap).ownBlock = some k->k < w5.heap.size):=fun k hk=>ownsRow_lt HL5.out.row hk
 clear hH HL5 HV5 HR5 hyl;go_wp2
 go_loopw [8,10] (fun v i wr=>∃ k : Nat,k<=hi.length/\i = .int .i64 k/\Hid (OwnPairs w wr v (lo ++ [(key,value)] ++ hi.take k))/\Hid (PairsAt wr ya hi)/\Hid (∀ g,ya = some ⟨g,0,none⟩->v.ownBlock≠some g)/\Hid (At wr (w.heap.size + 1 + 1) [.int .i64 0,.bool true,.int .i64 0,.int .i64 0,.slice none 0 0] 69)/\Hid (At wr (w.heap.size + 1) zeroAns 69)) (fun _ i _=>hi.length - (intOf i).toNat)
 case atStart =>
  refine ⟨0,Nat.zero_le _,rfl,?_,HY,?_,HV6,HR6⟩
  ·show OwnPairs _ _ _ _; rw [List.take_zero,List.append_nil]; exact HL6.out
  ·intro g hg e;have h1:=HNY.out g hg;have h2:=HL5l.out g e;omega
 case round =>
  clear HL6 HV6 HR6 HY HNY HL5l;obtain ⟨k,hk,rfl,HO,HA,HN,HX,HR⟩:=hrel;by_cases hlt : k < hi.length
  ·have hx : Hid (hi[k]? = some hi[k]):=List.getElem?_eq_getElem hlt;generalize hi[k] = x at hx;obtain ⟨g,rfl,c0,c1⟩:=HA.out k x hx.out;have HT : Hid (lo ++ [(key,value)] ++ hi.take (k + 1) = (lo ++ [(key,value)] ++ hi.take k) ++ [x]):=by show _ = _; rw [List.take_add_one,hx.out]; simp
   have HFL : Hid ((lo ++ [(key,value)] ++ hi.take k).length<=2 ^ 22):=by show _<=_; simp; omega
   obtain ⟨cur,HCu⟩ : ∃ cur,Hid (lo ++ [(key,value)] ++ hi.take k = cur):=⟨_,rfl⟩;rw [HCu.out] at HO HT HFL;go_wp2_with (at_builtin; refine wpList_push _ rfl _ _ 47 rfl 0 95 iP _ 2 16 Tryz.underlying47 hiP hzP hsP hbP rfl (by decide) _ _ _ rfl (ownsRow_alloc HO.out.row _) wr.heap.size [.int .i64 x.1,.int .i64 x.2] rfl rfl 95 (At.newAt (by simp) _ _) (by simp [Value.oneCell']) (by have:=HFL.out; unfold maxLen; omega) (by have:=HFL.out; omega) (by simp) ?_);intro g' cap w7 hown hgr hge;have HO7:=(mkH (OwnPairs w w7 _ _) <|HO.out.push hown hgr hge);have hFg : Fr (fun j=>u8.ownBlock = some j) wr w7:=Fr.grown (Fr.alloc (Fr.refl _ _) _) hgr (fun j hj=>.inl hj);have HX7:=(mkH (At w7 (w.heap.size + 1 + 1) _ _) <|hFg.at HX.out (HX.out.ne_row HO.out.row (by decide)));have HR7:=(mkH (At w7 (w.heap.size + 1) _ _) <|hFg.at HR.out (HR.out.ne_row HO.out.row (by decide)));have HA7:=(mkH (PairsAt w7 _ hi) <|PairsAt.keepS HA.out hFg (fun q hq=>HN.out q hq));have HN7 : Hid (∀ q,some (⟨g,0,none⟩ : Addr) = some ⟨q,0,none⟩->(Value.slice (some ⟨g',0,none⟩) (cur.length + 1) cap).ownBlock≠some q):=by
    intro q hq e;simp at hq;subst hq;simp [Value.ownBlock] at e;subst e;rcases hge with h1 | h1
    ·exact HN.out _ rfl h1
    ·have:=cellLt c0
     simp only at this;omega
   clear hown hgr hge hFg HO HX HR HA HN c0 c1;go_wp2
   go_roundw
   case rel=>exact ⟨k + 1,by omega,by go_num,by show OwnPairs _ _ _ _; rw [HT.out]; exact HO7.out,HA7,HN7,HX7,HR7⟩
   case measure=>simp [intOf]; omega
  ·have hke : k = hi.length:=by omega
   have HO' : Hid (OwnPairs w wr u8 new):=by
    have:=HO.out
    rw [hke,List.take_length,<- HNew.out] at this;exact this
   obtain ⟨ua,uc,rfl⟩:=ownsShape HO'.out.row;clear HO hke;have hsr:=HS.out.calm HO'.out.fr;have hsc:=hsr.1.cell;have hsz:=hsr.1.frozen;have hxc:=HX.out.cell;have hrc:=HR.out.cell;have hrz:=HR.out.frozen;have hSA:=hsr.1.set 0 (.slice ua new.length uc);have hRA:=HR.out.setOther ⟨sb,0,none⟩ (show w.heap.size + 1≠sb by omega) (.slice ua new.length uc);have hf0:=(copy5 hRA (.int .i64 0) (.bool true) (.int .i64 0) (.int .i64 0) (.slice none 0 0)).cell;have hFe : Fr (fun k=>k = sb) w (wr.setCell ⟨sb,0,none⟩ (.slice ua new.length uc)):=(Fr.mono HO'.out.fr (fun _ _ h=>h.elim)).set1 _ _;have HEnd:=(mkH (_/\_) <|⟨frCopy5 (b:=w.heap.size + 1) (by omega) hFe (.int .i64 0) (.bool true) (.int .i64 0) (.int .i64 0) (.slice none 0 0),
    At.setOther (At.setOther (At.setOther (At.setOther (At.setOther hSA ⟨w.heap.size + 1,0,none⟩ n6 (.int .i64 0)) ⟨w.heap.size + 1,1,none⟩ n6 (.bool true)) ⟨w.heap.size + 1,2,none⟩ n6 (.int .i64 0)) ⟨w.heap.size + 1,3,none⟩ n6 (.int .i64 0)) ⟨w.heap.size + 1,4,none⟩ n6 (.slice none 0 0)⟩)
   have hN1:=hsr.1.ne_row HO'.out.row (by decide);have hN2:=HR.out.ne_row HO'.out.row (by decide);have hFw : Fr (fun k=>k = sb\/k = w.heap.size + 1) wr _:=((((((Fr.refl (fun k=>k = sb\/k = w.heap.size + 1) wr).setIn (.inl rfl) 0 (.slice ua new.length uc)).setIn (.inr rfl) 0 (.int .i64 0)).setIn (.inr rfl) 1 (.bool true)).setIn (.inr rfl) 2 (.int .i64 0)).setIn (.inr rfl) 3 (.int .i64 0)).setIn (.inr rfl) 4 (.slice none 0 0);have HPw:=(mkH (PairsAt _ ua new) <|PairsAt.keepS HO'.out.pairs hFw (by
    rintro g rfl (h1 | h1)
    ·exact hN1 (by rw [<- h1]; rfl)
    ·exact hN2 (by rw [<- h1]; rfl)))
   have HNg : Hid (∀ g,ua = some ⟨g,0,none⟩->w.heap.size<=g/\g < wr.heap.size):=by
    rintro g rfl;exact ⟨HO'.out.new g rfl,ownsRow_lt HO'.out.row rfl⟩
   clear hN1 hN2 hFw hSA hRA hFe hsr;unfold zeroAns at hrc;go_wp2;exact bodyPost_ret (v:=ansV { did:=true,value:=0 } (.slice none 0 0)) (by simp [results,Tryz.results34,go_sem,ansV,hf0]) rfl ⟨rfl,HEnd.out.1,ua,uc,⟨HEnd.out.2,HPw.out⟩,fun g hg=>⟨(HNg.out g hg).1,by simpa using (HNg.out g hg).2⟩⟩
theorem does_del (h : ShAt w sb a c ps) (key value : Int) (sv : Value) (hsm : ps.length<=2 ^ 20) (hd : (shVal ps key).2 = true) :
  Calls Tryz.prog 34 #[pv sb,opVal 2 key value sv] w fun r w'=>r = .returned (ansV { did:=true,value:=(shVal ps key).1 } (.slice none 0 0))/\Fr (fun k=>k = sb) w w'/\∃ a' c',ShAt w' sb a' c' (shDel ps key)/\∀ g,a' = some ⟨g,0,none⟩->w.heap.size<=g/\g < w'.heap.size:=by
 obtain ⟨iP,hiP,hzP,hsP,hbP⟩:=info_parts Tryz.infoPr;have HS:=(mkH (ShAt w sb a c ps) <|h);have hsl : sb < w.heap.size:=h.1.lt;have HC:=(mkH (∀ w1,ShAt w1 sb a c ps->Calls Tryz.prog 51 #[pv sb,.int .i64 key] w1 _) <|fun w1 h=>shValue_calls h key hsm);have HW : Hid (∀ (w1 : World) (q : Bool),ShAt w1 sb a c ps->Calls Tryz.prog 52 #[pv sb,.int .i64 key,.bool q] w1 fun r w'=>∃ v,r = .returned v/\OwnPairs w1 w' v (ps.filter (shSide key q))):=fun w1 q h=>without_calls h key q hsm
 clear h;generalize shVal ps key = x at HC hd ⊢;obtain ⟨x1,x2⟩:=x;simp only at hd;subst hd;obtain ⟨lo,HLo⟩ : ∃ lo,Hid (shLo ps key = lo):=⟨_,rfl⟩;obtain ⟨hi,HHi⟩ : ∃ hi,Hid (shHi ps key = hi):=⟨_,rfl⟩;have hlo : lo.length<=2 ^ 20:=by rw [<- HLo.out]; exact Nat.le_trans (List.length_filter_le _ _) hsm
 have hhi : hi.length<=2 ^ 20:=by rw [<- HHi.out]; exact Nat.le_trans (List.length_filter_le _ _) hsm
 have HNew : Hid (shDel ps key = lo ++ hi):=by show _ = _; unfold shDel; rw [HLo.out,HHi.out]
 obtain ⟨new,HNw⟩ : ∃ new,Hid (shDel ps key = new):=⟨_,rfl⟩;rw [HNw.out];have HNew : Hid (new = lo ++ hi):=by show _ = _; rw [<- HNw.out]; exact HNew.out
 clear HNw;unfold pv at HC HW ⊢;unfold opVal;obtain ⟨w1,e1,hO,hR,hV,hF,hs⟩:=does_start w 2 key value sv;have ho:=hO.cell;have hv:=hV.cell;have hvz:=hV.frozen;have n1 : w.heap.size + 1≠w.heap.size + 1 + 1:=by omega
 have n2 : w.heap.size + 1 + 1≠w.heap.size + 1:=by omega
 have n3 : w.heap.size≠w.heap.size + 1 + 1:=by omega
 have n4 : w.heap.size + 1 + 1≠w.heap.size:=by omega
 have n5 : sb≠w.heap.size:=by omega
 have n6 : sb≠w.heap.size + 1:=by omega
 have n7 : sb≠w.heap.size + 1 + 1:=by omega
 have HF:=(mkH (Fr _ w w1) <|hF);have HOp:=(mkH (At w1 w.heap.size _ _) <|hO);have HR:=(mkH (At w1 (w.heap.size + 1) _ _) <|hR);have HV:=(mkH (At w1 (w.heap.size + 1 + 1) _ _) <|hV);unfold zeroAns at hv;have E1:=(mkH (_ = _) <|e1);clear hO hR hV hF e1
 go_enter Tryz.func34,Tryz.ntmps34
 go_wp2_with fail;rw [<- E1.out];refine (HC.out w1 (HS.out.calm HF.out)).mono ?_;rintro r w2 ⟨rfl,rfl⟩;clear E1 HC;go_wp2_with fail;have HV2:=(mkH (At (w2.setCell ⟨w.heap.size + 1 + 1,1,none⟩ (.bool true)) (w.heap.size + 1 + 1) [.int .i64 0,.bool true,.int .i64 0,.int .i64 0,.slice none 0 0] 69) <|HV.out.set 1 _);have HR2:=(mkH (At (w2.setCell ⟨w.heap.size + 1 + 1,1,none⟩ (.bool true)) (w.heap.size + 1) zeroAns 69) <|HR.out.setOther _ n1 _);have HO2:=(mkH (At (w2.setCell ⟨w.heap.size + 1 + 1,1,none⟩ (.bool true)) w.heap.size [.int .i64 2,.int .i64 key,.int .i64 value,sv] 53) <|HOp.out.setOther _ n3 _);have HF2:=(mkH (Fr (fun _=>False) w (w2.setCell ⟨w.heap.size + 1 + 1,1,none⟩ (.bool true))) <|Fr.setNew (by omega) HF.out _ _);clear HV HR HOp HF ho hv hvz hs;generalize w2.setCell ⟨w.heap.size + 1 + 1,1,none⟩ (.bool true) = w3 at *;refine (HW.out w3 true (HS.out.calm HF2.out)).mono ?_;rintro r w4 ⟨v,rfl,hL⟩;have HF4:=(mkH (Fr (fun _=>False) w w4) <|HF2.out.trans hL.fr);have HV4:=(mkH (At w4 (w.heap.size + 1 + 1) [.int .i64 0,.bool true,.int .i64 0,.int .i64 0,.slice none 0 0] 69) <|hL.fr.at HV2.out (fun h=>h));have HR4:=(mkH (At w4 (w.heap.size + 1) zeroAns 69) <|hL.fr.at HR2.out (fun h=>h));have HO4:=(mkH (At w4 w.heap.size _ 53) <|hL.fr.at HO2.out (fun h=>h));have HL:=(mkH (OwnPairs w w4 v lo) <|by rw [<- HLo.out]; exact hL.below HF2.out);clear hL HF2 HV2 HR2 HO2;have ho:=HO4.out.cell;have hv:=HV4.out.cell;have hvz:=HV4.out.frozen;obtain ⟨va,vc,rfl⟩:=ownsShape HL.out.row;go_wp2_with fail;have HL5:=(mkH (OwnPairs w (w4.setCell ⟨w.heap.size + 1 + 1,2,none⟩ (.int .i64 x1)) (.slice va lo.length vc) lo) <|HL.out.setOther HV4.out (by decide) (by omega) _ _);have HV5:=(mkH (At (w4.setCell ⟨w.heap.size + 1 + 1,2,none⟩ (.int .i64 x1)) (w.heap.size + 1 + 1) [.int .i64 0,.bool true,.int .i64 x1,.int .i64 0,.slice none 0 0] 69) <|HV4.out.set 2 _);have HR5:=(mkH (At (w4.setCell ⟨w.heap.size + 1 + 1,2,none⟩ (.int .i64 x1)) (w.heap.size + 1) zeroAns 69) <|HR4.out.setOther _ n1 _);generalize w4.setCell ⟨w.heap.size + 1 + 1,2,none⟩ (.int .i64 x1) = w5 at *;clear ho hv hvz HO4 HF4 HV4 HR4 HL;refine (HW.out w5 false (HS.out.calm HL5.out.fr)).mono ?_;rintro r w6 ⟨y,rfl,hH⟩;obtain ⟨ya,yc,rfl⟩:=ownsShape hH.row;have HL6:=(mkH (OwnPairs w w6 _ (lo)) <|HL5.out.calm hH.fr);have HV6:=(mkH (At w6 (w.heap.size + 1 + 1) [.int .i64 0,.bool true,.int .i64 x1,.int .i64 0,.slice none 0 0] 69) <|hH.fr.at HV5.out (fun h=>h));have HR6:=(mkH (At w6 (w.heap.size + 1) zeroAns 69) <|hH.fr.at HR5.out (fun h=>h));have HY:=(mkH (PairsAt w6 ya hi) <|by rw [<- HHi.out]; exact hH.pairs);have hyl : (ps.filter (shSide key false)).length = hi.length:=by rw [<- HHi.out]; rfl
 rw [hyl];have HNY : Hid (∀ g,ya = some ⟨g,0,none⟩->w5.heap.size<=g):=by
  rintro g rfl;exact hH.new g rfl
 have HL5l : Hid (∀ k,(Value.slice va lo.length vc).ownBlock = some k->k < w5.heap.size):=fun k hk=>ownsRow_lt HL5.out.row hk
 clear hH HL5 HV5 HR5 hyl;go_wp2
 go_loopw [8,10] (fun v i wr=>∃ k : Nat,k<=hi.length/\i = .int .i64 k/\Hid (OwnPairs w wr v (lo ++ hi.take k))/\Hid (PairsAt wr ya hi)/\Hid (∀ g,ya = some ⟨g,0,none⟩->v.ownBlock≠some g)/\Hid (At wr (w.heap.size + 1 + 1) [.int .i64 0,.bool true,.int .i64 x1,.int .i64 0,.slice none 0 0] 69)/\Hid (At wr (w.heap.size + 1) zeroAns 69)) (fun _ i _=>hi.length - (intOf i).toNat)
 case atStart =>
  refine ⟨0,Nat.zero_le _,rfl,?_,HY,?_,HV6,HR6⟩
  ·show OwnPairs _ _ _ _; rw [List.take_zero,List.append_nil]; exact HL6.out
  ·intro g hg e;have h1:=HNY.out g hg;have h2:=HL5l.out g e;omega
 case round =>
  clear HL6 HV6 HR6 HY HNY HL5l;obtain ⟨k,hk,rfl,HO,HA,HN,HX,HR⟩:=hrel;by_cases hlt : k < hi.length
  ·have hx : Hid (hi[k]? = some hi[k]):=List.getElem?_eq_getElem hlt;generalize hi[k] = x at hx;obtain ⟨g,rfl,c0,c1⟩:=HA.out k x hx.out;have HT : Hid (lo ++ hi.take (k + 1) = (lo ++ hi.take k) ++ [x]):=by show _ = _; rw [List.take_add_one,hx.out]; simp
   have HFL : Hid ((lo ++ hi.take k).length<=2 ^ 22):=by show _<=_; simp; omega
   obtain ⟨cur,HCu⟩ : ∃ cur,Hid (lo ++ hi.take k = cur):=⟨_,rfl⟩;rw [HCu.out] at HO HT HFL;go_wp2_with (at_builtin; refine wpList_push _ rfl _ _ 47 rfl 0 95 iP _ 2 16 Tryz.underlying47 hiP hzP hsP hbP rfl (by decide) _ _ _ rfl (ownsRow_alloc HO.out.row _) wr.heap.size [.int .i64 x.1,.int .i64 x.2] rfl rfl 95 (At.newAt (by simp) _ _) (by simp [Value.oneCell']) (by have:=HFL.out; unfold maxLen; omega) (by have:=HFL.out; omega) (by simp) ?_);intro g' cap w7 hown hgr hge;have HO7:=(mkH (OwnPairs w w7 _ _) <|HO.out.push hown hgr hge);have hFg : Fr (fun j=>u8.ownBlock = some j) wr w7:=Fr.grown (Fr.alloc (Fr.refl _ _) _) hgr (fun j hj=>.inl hj);have HX7:=(mkH (At w7 (w.heap.size + 1 + 1) _ _) <|hFg.at HX.out (HX.out.ne_row HO.out.row (by decide)));have HR7:=(mkH (At w7 (w.heap.size + 1) _ _) <|hFg.at HR.out (HR.out.ne_row HO.out.row (by decide)));have HA7:=(mkH (PairsAt w7 _ hi) <|PairsAt.keepS HA.out hFg (fun q hq=>HN.out q hq));have HN7 : Hid (∀ q,some (⟨g,0,none⟩ : Addr) = some ⟨q,0,none⟩->(Value.slice (some ⟨g',0,none⟩) (cur.length + 1) cap).ownBlock≠some q):=by
    intro q hq e;simp at hq;subst hq;simp [Value.ownBlock] at e;subst e;rcases hge with h1 | h1
    ·exact HN.out _ rfl h1
    ·have:=cellLt c0
     simp only at this;omega
   clear hown hgr hge hFg HO HX HR HA HN c0 c1;go_wp2
   go_roundw
   case rel=>exact ⟨k + 1,by omega,by go_num,by show OwnPairs _ _ _ _; rw [HT.out]; exact HO7.out,HA7,HN7,HX7,HR7⟩
   case measure=>simp [intOf]; omega
  ·have hke : k = hi.length:=by omega
   have HO' : Hid (OwnPairs w wr u8 new):=by
    have:=HO.out
    rw [hke,List.take_length,<- HNew.out] at this;exact this
   obtain ⟨ua,uc,rfl⟩:=ownsShape HO'.out.row;clear HO hke;have hsr:=HS.out.calm HO'.out.fr;have hsc:=hsr.1.cell;have hsz:=hsr.1.frozen;have hxc:=HX.out.cell;have hrc:=HR.out.cell;have hrz:=HR.out.frozen;have hSA:=hsr.1.set 0 (.slice ua new.length uc);have hRA:=HR.out.setOther ⟨sb,0,none⟩ (show w.heap.size + 1≠sb by omega) (.slice ua new.length uc);have hf0:=(copy5 hRA (.int .i64 0) (.bool true) (.int .i64 x1) (.int .i64 0) (.slice none 0 0)).cell;have hFe : Fr (fun k=>k = sb) w (wr.setCell ⟨sb,0,none⟩ (.slice ua new.length uc)):=(Fr.mono HO'.out.fr (fun _ _ h=>h.elim)).set1 _ _;have HEnd:=(mkH (_/\_) <|⟨frCopy5 (b:=w.heap.size + 1) (by omega) hFe (.int .i64 0) (.bool true) (.int .i64 x1) (.int .i64 0) (.slice none 0 0),
    At.setOther (At.setOther (At.setOther (At.setOther (At.setOther hSA ⟨w.heap.size + 1,0,none⟩ n6 (.int .i64 0)) ⟨w.heap.size + 1,1,none⟩ n6 (.bool true)) ⟨w.heap.size + 1,2,none⟩ n6 (.int .i64 x1)) ⟨w.heap.size + 1,3,none⟩ n6 (.int .i64 0)) ⟨w.heap.size + 1,4,none⟩ n6 (.slice none 0 0)⟩)
   have hN1:=hsr.1.ne_row HO'.out.row (by decide);have hN2:=HR.out.ne_row HO'.out.row (by decide);have hFw : Fr (fun k=>k = sb\/k = w.heap.size + 1) wr _:=((((((Fr.refl (fun k=>k = sb\/k = w.heap.size + 1) wr).setIn (.inl rfl) 0 (.slice ua new.length uc)).setIn (.inr rfl) 0 (.int .i64 0)).setIn (.inr rfl) 1 (.bool true)).setIn (.inr rfl) 2 (.int .i64 x1)).setIn (.inr rfl) 3 (.int .i64 0)).setIn (.inr rfl) 4 (.slice none 0 0);have HPw:=(mkH (PairsAt _ ua new) <|PairsAt.keepS HO'.out.pairs hFw (by
    rintro g rfl (h1 | h1)
    ·exact hN1 (by rw [<- h1]; rfl)
    ·exact hN2 (by rw [<- h1]; rfl)))
   have HNg : Hid (∀ g,ua = some ⟨g,0,none⟩->w.heap.size<=g/\g < wr.heap.size):=by
    rintro g rfl;exact ⟨HO'.out.new g rfl,ownsRow_lt HO'.out.row rfl⟩
   clear hN1 hN2 hFw hSA hRA hFe hsr;unfold zeroAns at hrc;go_wp2;exact bodyPost_ret (v:=ansV { did:=true,value:=x1 } (.slice none 0 0)) (by simp [results,Tryz.results34,go_sem,ansV,hf0]) rfl ⟨rfl,HEnd.out.1,ua,uc,⟨HEnd.out.2,HPw.out⟩,fun g hg=>⟨(HNg.out g hg).1,by simpa using (HNg.out g hg).2⟩⟩
end
end
section
open Go.RowKit
section
variable {w w' : World} {sb : Nat} {a : Option Addr} {c : Nat} {ps : List (Int × Int)}
structure DoesTo (w w' : World) (sb : Nat) (ps : List (Int × Int)) (kind key value : Int) (spans : List (Int × Int)) (v : Value) : Prop where
 yes : shUpd ps kind key = true->v = .slice none 0 0/\Fr (fun k=>k = sb) w w'/\∃ a' c',ShAt w' sb a' c' (shNew ps kind key value)/\∀ g,a' = some ⟨g,0,none⟩->w.heap.size<=g/\g < w'.heap.size
 no : shUpd ps kind key = false->OwnLists w w' v (shAns ps kind key spans).spans
theorem OwnLists.none {w0 w : World} (hf : Fr (fun _=>False) w0 w) : OwnLists w0 w (.slice Option.none 0 0) [] :=
 ⟨fun _=>rfl,⟨[],rfl,⟨by simp,.inl ⟨rfl,rfl⟩⟩,by intro i u l hu; simp at hu⟩,by intro k hk; simp [Value.ownBlock] at hk,hf⟩
theorem does_calls (h : ShAt w sb a c ps) (kind key value : Int) (b : Option Addr) (d : Nat) (spans : List (Int × Int)) (hb : PairsAt w b spans) (hsm : ps.length<=2 ^ 20) (hp : properB kind key spans = true) :
  Calls Tryz.prog 34 #[pv sb,opVal kind key value (.slice b spans.length d)] w fun r w'=>∃ va vn vc,r = .returned (ansV (shAns ps kind key spans) (.slice va vn vc))/\DoesTo w w' sb ps kind key value spans (.slice va vn vc):=by
 unfold properB checkOp at hp;by_cases h4 : kind = 4
 ·subst h4;have h16 : spans.length<=16:=by
   rw [if_neg (by decide),if_pos rfl] at hp;by_cases hi : isIn spans.length 1 16 = true
   ·have:=isIn_iff.1 hi; omega
   ·simp [hi] at hp
  have hs : shUpd ps 4 key = false:=by simp [shUpd]
  have ha : shAns ps 4 key spans = answerOf spans ps 0:=by simp [shAns]
  rw [ha];refine (does_scan h key value b d spans h16 hb hsm).mono ?_;rintro r w1 ⟨va,vn,vc,rfl,hO⟩;exact ⟨va,vn,vc,rfl,⟨fun hh=>(by rw [hs] at hh; exact nomatch hh),fun _=>by rw [ha]; exact hO⟩⟩
 ·by_cases h3 : kind = 3
  ·subst h3;have hs : shUpd ps 3 key = false:=by simp [shUpd]
   have ha : shAns ps 3 key spans = { did:=(shVal ps key).2,value:=(shVal ps key).1 }:=by simp [shAns]
   rw [ha];refine (does_look h key value _ hsm).mono ?_;rintro r w1 ⟨rfl,hF⟩;exact ⟨none,0,0,rfl,⟨fun hh=>(by rw [hs] at hh; exact nomatch hh),fun _=>by rw [ha]; exact OwnLists.none hF⟩⟩
  ·have hk : kind = 1\/kind = 2:=by
    by_cases hh : kind = 1\/kind = 2\/kind = 3
    ·omega
    ·rw [if_neg hh,if_neg h4] at hp; simp at hp
   cases hu : shUpd ps kind key
   ·have ha : shAns ps kind key spans = {}:=by simp [shAns,h4,h3,hu]
    rw [ha];refine (does_not h kind key value _ hsm hk ?_).mono ?_
    ·rcases hk with rfl | rfl
     ·simpa [shUpd] using hu
     ·simpa [shUpd] using hu
    ·rintro r w1 ⟨rfl,hF⟩;exact ⟨none,0,0,rfl,⟨fun hh=>(by rw [hu] at hh; exact nomatch hh),fun _=>by rw [ha]; exact OwnLists.none hF⟩⟩
   ·rcases hk with rfl | rfl
    ·have ha : shAns ps 1 key spans = { did:=true,value:=0 }:=by simp [shAns,hu]
     have hn : shNew ps 1 key value = shPut ps key value:=by simp [shNew,hu]
     rw [ha];refine (does_put h key value _ hsm (by simpa [shUpd] using hu)).mono ?_;rintro r w1 ⟨rfl,hF,hS⟩;exact ⟨none,0,0,rfl,⟨fun _=>⟨rfl,hF,by rw [hn]; exact hS⟩,fun hh=>(by rw [hu] at hh; exact nomatch hh)⟩⟩
    ·have ha : shAns ps 2 key spans = { did:=true,value:=(shVal ps key).1 }:=by simp [shAns,hu]
     have hn : shNew ps 2 key value = shDel ps key:=by simp [shNew,hu]
     rw [ha];refine (does_del h key value _ hsm (by simpa [shUpd] using hu)).mono ?_;rintro r w1 ⟨rfl,hF,hS⟩;exact ⟨none,0,0,rfl,⟨fun _=>⟨rfl,hF,by rw [hn]; exact hS⟩,fun hh=>(by rw [hu] at hh; exact nomatch hh)⟩⟩
end
section
variable {own own1 : Own} {z : Nat} {w w1 w2 : World} {pb sb ub : Nat} {D : PlD} {ps : List (Int × Int)} {n e cl : Int}
end
end
section
open Go.RowKit
open Go.Proofs.YtfccelbmacjifabGreat.T (OrdJ OrdB OrdL OrdC FairEnd FairD Pre okT okN okE tookD aheadD rk Tm ahead_rk proper_whole ord_plays)
def DSl (d : DeedV) : Prop:=∃ sa sn sc la ln lc,d.op.sv = .slice sa sn sc/\d.av = .slice la ln lc
section
variable {own : Own} {z : Nat} {w w' : World} {pb : Nat} {D : PlD} {N E L T : Int}
theorem tookD_eq (d : DeedV) : ((d.op.kind == 1 || d.op.kind == 2) && d.a.did) = tookD d:=by
 unfold tookD
 congr 1
 by_cases h1 : d.op.kind = 1
 ·simp [h1]
 ·by_cases h2 : d.op.kind = 2
  ·simp [h2]
  ·simp [h1,h2]
theorem tookD_calls (d : DeedV) (hd : DSl d) (w : World) :
  Calls Tryz.prog 39 #[.agg d.cells.toArray] w fun r w'=>r = .returned (.bool (tookD d))/\Fr (fun _=>False) w w':=by
 obtain ⟨sa,sn,sc,la,ln,lc,h1,h2⟩:=hd;rw [<- tookD_eq];exact took_calls d.op.kind d.op.key d.op.value d.op.sv d.a.err d.a.did d.a.value d.a.stamp d.av d.frm w sa la sn sc ln lc h1 h2
theorem ahead_calls (a b : DeedV) (ha : DSl a) (hb : DSl b) (w : World) :
  Calls Tryz.prog 66 #[.agg a.cells.toArray,.agg b.cells.toArray] w fun r w'=>r = .returned (.bool (aheadD a b))/\Fr (fun _=>False) w w':=by
 have HTa:=(mkH (∀ w,Calls Tryz.prog 39 #[.agg a.cells.toArray] w _) <|fun w=>tookD_calls a ha w);have HTb:=(mkH (∀ w,Calls Tryz.prog 39 #[.agg b.cells.toArray] w _) <|fun w=>tookD_calls b hb w);have HD : Hid (aheadD a b = if a.a.stamp≠b.a.stamp then decide (a.a.stamp < b.a.stamp) else (tookD a && !tookD b)):=rfl;obtain ⟨sa,sn,sc,la,ln,lc,h1,h2⟩:=ha;obtain ⟨sa',sn',sc',la',ln',lc',h3,h4⟩:=hb;simp only [DeedV.cells,h1,h2,h3,h4] at HTa HTb ⊢;generalize tookD a = ta at *;generalize tookD b = tb at *;generalize aheadD a b = ab at *;generalize a.op.kind = ak at *;generalize a.op.key = ak1 at *;generalize a.op.value = ak2 at *;generalize a.a.err = a1 at *;generalize a.a.did = a2 at *;generalize a.a.value = a3 at *;generalize a.a.stamp = a4 at *;generalize a.frm = a5 at *;generalize b.op.kind = bk at *;generalize b.op.key = bk1 at *;generalize b.op.value = bk2 at *;generalize b.a.err = b1 at *;generalize b.a.did = b2 at *;generalize b.a.value = b3 at *;generalize b.a.stamp = b4 at *;generalize b.frm = b5 at *;clear h1 h2 h3 h4
 go_enter Tryz.func66,Tryz.ntmps66
 by_cases hs : a4 = b4
 ·subst hs;have hs' : (a4 != a4) = false:=by simp
  go_wp2_with fail;refine Calls.mono (HTa.out _) ?_;rintro r w1 ⟨rfl,hF1⟩;have HA:=(mkH (At w1 w.heap.size [.int .i64 ak,.int .i64 ak1,.int .i64 ak2,.slice sa sn sc,.int .i64 a1,.bool a2,.int .i64 a3,.int .i64 a4,.slice la ln lc,.int .i64 a5] 75) <|hF1.at ((At.new w _ _).alloc _) (fun h=>h));have HB:=(mkH (At w1 (w.heap.size + 1) [.int .i64 bk,.int .i64 bk1,.int .i64 bk2,.slice sa' sn' sc',.int .i64 b1,.bool b2,.int .i64 b3,.int .i64 a4,.slice la' ln' lc',.int .i64 b5] 75) <|hF1.at (At.newAt (by simp) _ _) (fun h=>h));have HF1:=(mkH (Fr (fun _=>False) w w1) <|(((Fr.refl _ _).alloc _).alloc _).trans hF1);clear hF1 HTa;have hbc:=HB.out.cell;go_wp2_with fail;refine Calls.mono (HTb.out _) ?_;rintro r w2 ⟨rfl,hF2⟩;have HF2:=(mkH (Fr (fun _=>False) w w2) <|HF1.out.trans hF2);clear hF2 HTb hbc;have HR : Hid (ab = (ta && !tb)):=by show _ = _; rw [HD.out]; simp
  cases ta
  ·go_wp2;go_ret;exact ⟨by rw [HR.out]; rfl,HF2.out⟩
  ·go_wp2;go_ret;exact ⟨by rw [HR.out]; cases tb <;> rfl,HF2.out⟩
 ·have hs' : (a4 != b4) = true:=by simpa using hs
  have HR : Hid (ab = decide (a4 < b4)):=by show _ = _; rw [HD.out,if_pos hs]
  clear hs;go_wp2;go_ret;exact ⟨by rw [HR.out]; rfl,((Fr.refl _ _).alloc _).alloc _⟩
theorem refused_calls (hP : PlAt own z w pb D) (hc : D.k = 1/\D.t = T/\D.n = N/\D.e = E/\D.l = L) (hp : 0<=D.puts/\D.puts<=2 ^ 37) (ht : 0<=D.takes/\D.takes<=2 ^ 37) (d : DeedV) (hd : d ∈ D.deeds) (hs : d.op.kind = 4->d.op.spans.length<=16) (he : okE N E L D.puts D.takes d) :
  Calls Tryz.prog 65 #[pv pb,.agg d.cells.toArray] w fun r w'=>r = .returned (.bool true)/\Fr (fun _=>False) w w':=by
 obtain ⟨c1,c2,c3,c4,c5⟩:=hc;have hdk:=hP.dok d hd;obtain ⟨xa,xc,hsv⟩:=ownsShape hdk.1.row;obtain ⟨hda,hcase⟩:=he;have hsp : d.a.spans = []:=by rw [hda]
 have hav : d.av = .slice none 0 0:=hdk.2.1.nil hsp;have HSame:=(mkH (∀ w',Calls Tryz.prog 38 #[ansV { err:=d.a.err } (.slice none 0 0),ansV { err:=d.a.err } (.slice none 0 0)] w' _) <|fun w'=>sameAnswers_nil { err:=d.a.err } w');have e1 : d.a.did = false:=by rw [hda]
 have e2 : d.a.value = 0:=by rw [hda]
 have e3 : d.a.stamp = 0:=by rw [hda]
 simp only [DeedV.cells,hsv,hav,e1,e2,e3];simp only [ansV] at HSame;have ha:=hP.at_;simp only [PlD.cells,c1,c3,c4,c5,pv] at ha;obtain ⟨⟨kd,ky,va,sp,sv⟩,⟨er,did,va',st,sps⟩,av,fr⟩:=d;simp only at HSame hcase hs hsv e1 e2 e3 ⊢;generalize D.puts = puts at *;generalize D.takes = takes at *;clear hdk hd hP hda hav hsv hsp c1 c2 c3 c4 c5 e1 e2 e3;have HU:=(mkH (∀ w,Calls Tryz.prog 33 #[opVal kd ky va (.slice xa sp.length xc)] w _) <|fun w=>isUpdate_calls kd ky va (.slice xa sp.length xc) w);unfold opVal at HU;have HC:=(show Hid _ from hcase);have HSp:=(mkH (kd = 4->sp.length<=16) <|hs);have HA:=(mkH (At w pb _ 42) <|ha);clear hcase ha hs;unfold pv
 go_enter Tryz.func65,Tryz.ntmps65
 go_wp2_with fail;refine Calls.mono (HSame.out _) ?_;rintro r w1 ⟨rfl,hF1⟩;have HB:=(mkH (At w1 w.heap.size [.int .i64 kd,.int .i64 ky,.int .i64 va,.slice xa sp.length xc,.int .i64 er,.bool false,.int .i64 0,.int .i64 0,.slice none 0 0,.int .i64 fr] 75) <|hF1.at (At.new w _ _) (fun h=>h));have HF1:=(mkH (Fr (fun _=>False) w w1) <|((Fr.refl _ _).alloc _).trans hF1);clear hF1 HSame;have hbc:=HB.out.cell;go_wp2_with fail;refine Calls.mono (HU.out _) ?_;rintro r w2 ⟨rfl,hF2⟩;have HF2:=(mkH (Fr (fun _=>False) w w2) <|HF1.out.trans hF2);have hbc:=(hF2.at HB.out (fun h=>h)).cell;have ha:=(HF2.out.at HA.out (fun h=>h)).cell;clear hF2 HU HA HB HF1;rcases HC.out with ⟨e7,hk,hu⟩ | ⟨e8,hk,hu⟩ | ⟨e9,hk,hu⟩
 ·subst e7;have hb : (kd == 1 || kd == 2) = true:=by simpa using hk
  rw [hb];have HUu:=(show Hid _ from hu);clear hk hb HC hu;have HF4:=(mkH (Fr (fun _=>False) w w2.drew.drew) <|HF2.out.drew.drew);go_wp2_with fail;go_region;go_wp2_with fail;go_region;by_cases h1 : N < puts * 2
  ·have h1' : decide (puts * 2 > N) = true:=by simpa using h1
   clear h1;go_wp2;go_ret;exact ⟨rfl,HF4.out⟩
  ·have h1' : decide (puts * 2 > N) = false:=by simpa using h1
   have h2 : E < 1 + puts * 3 + takes:=by have:=HUu.out; omega
   have h2' : decide (1 + puts * 3 + takes > E) = true:=by simpa using h2
   clear h1 h2;go_wp2;go_ret;exact ⟨rfl,HF4.out⟩
 ·subst e8;have hb : (kd == 1 || kd == 2) = true:=by simpa using hk
  rw [hb];have hu' : decide (puts + takes > L) = true:=by simpa using hu
  clear hk hb HC hu;have HF4:=(mkH (Fr (fun _=>False) w w2.drew) <|HF2.out.drew);go_wp2_with fail;go_region;go_wp2;go_ret;exact ⟨rfl,HF4.out⟩
 ·subst e9;have hs:=HSp.out hk;subst hk;have h3 : (sp.length : Int) * puts<=16 * 2 ^ 37:=by
   have:=Int.mul_le_mul (show (sp.length : Int)<=16 by omega) hp.2 hp.1 (by omega)
   exact this
  have h4 : (0 : Int)<=(sp.length : Int) * puts:=Int.mul_nonneg (by omega) hp.1;have hu' : decide ((sp.length : Int) * puts > 64) = true:=by simpa using hu
  clear hu HC;have HF4:=(mkH (Fr (fun _=>False) w w2.drew) <|HF2.out.drew);go_wp2_with fail;go_region;go_wp2;go_ret;exact ⟨rfl,HF4.out⟩
end
end
section
open Go.RowKit
open Go.Proofs.YtfccelbmacjifabGreat.T (OrdJ OrdB OrdL OrdC FairEnd FairD Pre okT okN okE tookD aheadD rk Tm ahead_rk proper_whole ord_plays)
def plc (p : DeedV × Nat) : List Value:=p.1.cells ++ [.int .i64 p.2]
theorem plc_len (p : DeedV × Nat) : (plc p).length = 11:=rfl
structure LRow (W w : World) (v : Value) (l : List (DeedV × Nat)) : Prop where
 row : w.ownsRow 0 92 11 v l.length (l.flatMap plc)
 new : ∀ k,v.ownBlock = some k->W.heap.size<=k
 fr : Fr (fun _=>False) W w
section
variable {W w w' : World} {v : Value} {l A B : List (DeedV × Nat)}
theorem setAll_skip (X : List Value) : ∀ (vs Y : List Value) (o : Nat),setAll (X ++ Y) (X.length + o) vs = X ++ setAll Y o vs
 | [],Y,o=>rfl
 | v :: r,Y,o=>by
  show setAll ((X ++ Y).set (X.length + o) v) (X.length + o + 1) r = X ++ setAll (Y.set o v) (o + 1) r;rw [List.set_append_right _ _ (Nat.le_add_right _ _),show X.length + o - X.length = o by omega,Nat.add_assoc];exact setAll_skip X r (Y.set o v) (o + 1)
theorem setAll_zero : ∀ (vs Z Y : List Value),Z.length = vs.length->setAll (Z ++ Y) 0 vs = vs ++ Y
 | [],[],Y,_=>rfl
 | [],z :: Z,Y,h=>by simp at h
 | v :: r,[],Y,h=>by simp at h
 | v :: r,z :: Z,Y,h=>by
  show setAll (v :: (Z ++ Y)) 1 r = v :: (r ++ Y)
  have:=setAll_skip [v] r (Z ++ Y) 0
  simp only [List.length_singleton,List.singleton_append,Nat.add_zero] at this;rw [this,setAll_zero r Z Y (by simpa using h)]
theorem flat_len : ∀ (l : List (DeedV × Nat)),(l.flatMap plc).length = l.length * 11
 | []=>rfl
 | x :: l=>by rw [List.flatMap_cons,List.length_append,flat_len l,plc_len,List.length_cons]; omega
theorem setAll_flat (A B : List (DeedV × Nat)) (x y : DeedV × Nat) : setAll ((A ++ x :: B).flatMap plc) (A.length * 11) (plc y) = (A ++ y :: B).flatMap plc:=by
 rw [List.flatMap_append,List.flatMap_append,List.flatMap_cons,List.flatMap_cons,<- flat_len A]
 have:=setAll_skip (A.flatMap plc) (plc y) (plc x ++ B.flatMap plc) 0
 rw [Nat.add_zero] at this;rw [this,setAll_zero _ _ _ (by rw [plc_len,plc_len])]
theorem ownsRow_setCells {e : TypeId} {size g n cap : Nat} : ∀ (vs : List Value) (o : Nat) (w : World) (xs : List Value),w.ownsRow 0 e size (.slice (some ⟨g,0,none⟩) n cap) n xs->(w.setCells g o vs).ownsRow 0 e size (.slice (some ⟨g,0,none⟩) n cap) n (setAll xs o vs)
 | [],_,_,_,h=>h
 | v :: r,o,_,_,h=>ownsRow_setCells r (o + 1) _ _ (ownsRow_set h o v)
theorem ownsRow_at {e : TypeId} {size g n cap : Nat} {xs : List Value} (h : w.ownsRow 0 e size (.slice (some ⟨g,0,none⟩) n cap) n xs) : ∃ c,At w g c e/\n * size<=c.length:=by
 rcases h.2 with ⟨h2,_⟩ | ⟨g',cap',cur,hv,hg,hh,h3,h4,h5,h6⟩
 ·cases h2
 ·simp only [Value.slice.injEq,Option.some.injEq,Addr.mk.injEq,and_true,true_and] at hv;obtain ⟨rfl,rfl⟩:=hv;refine ⟨cur.toList,by unfold At; rw [hh],?_⟩;rw [Array.length_toList,h5];exact Nat.mul_le_mul_right _ h3
theorem LRow.none (W : World) : LRow W W (.slice none 0 0) []:=⟨⟨by simp,.inl ⟨rfl,rfl⟩⟩,by intro k hk; simp [Value.ownBlock] at hk,Fr.refl _ _⟩
theorem LRow.calm (h : LRow W w v l) (hf : Fr (fun _=>False) w w') : LRow W w' v l:=⟨hf.owns h.row (fun _ _ h=>h),h.new,h.fr.trans hf⟩
theorem only_store {P : Program} {ops : Array Oper} {Q : Exit->Act->World->Prop} {dst : Option Tmp} {t ty : TypeId} {p x : Operand} {pos : String} {af : Array Edge} {gd : Option (Nat × Bool)} {rest : List Oper} {a : Act} {w : World} (h : Hid (wpList P ops Q (⟨dst,.store t p x,ty,pos,af,gd⟩ :: rest) a w)) : wpList P ops Q (⟨dst,.store t p x,ty,pos,af,gd⟩ :: rest) a w:=h.out
theorem LRow.cells (h : LRow W w v l) (hl : l≠[]) : ∃ g c,v = .slice (some ⟨g,0,Option.none⟩) l.length c/\W.heap.size<=g/\g < w.heap.size/\(∀ o,w.frozen? ⟨g,o,Option.none⟩ = false)/\(∃ cs,At w g cs 92/\l.length * 11<=cs.length)/\∀ (k : Nat) x,l[k]? = some x->∀ q u,(plc x)[q]? = some u->w.cell? ⟨g,k * 11 + q,Option.none⟩ = some u:=by
 have hn : l.length≠0:=fun q=>hl (List.length_eq_zero_iff.1 q)
 obtain ⟨g,c,hv,_⟩:=ownsRow_shape h.row hn;have hr:=h.row;rw [hv] at hr;obtain ⟨cs,h1,h2⟩:=ownsRow_at hr;refine ⟨g,c,hv,h.new g (by rw [hv]; rfl),h1.lt,ownsRow_frozen hr,⟨cs,h1,h2⟩,?_⟩;intro k x hx q u hq;exact ownsRow_cell hr ((tab_get plc 11 plc_len l k q x hx (by have:=(List.getElem?_eq_some_iff.1 hq).1; simpa [plc_len] using this)).trans hq)
theorem LRow.put {g c : Nat} {x y : DeedV × Nat} (h : LRow W w (.slice (some ⟨g,0,Option.none⟩) (A ++ x :: B).length c) (A ++ x :: B)) : LRow W (w.setCells g (A.length * 11) (plc y)) (.slice (some ⟨g,0,Option.none⟩) (A ++ y :: B).length c) (A ++ y :: B):=by
 have hl : (A ++ y :: B).length = (A ++ x :: B).length:=by simp
 refine ⟨?_,?_,?_⟩
 ·rw [<- setAll_flat A B x y,hl];exact ownsRow_setCells _ _ _ _ h.row
 ·intro k hk;exact h.new k (by rw [hl] at hk; exact hk)
 ·have hg:=h.new g rfl;have : ∀ (vs : List Value) (o : Nat) (w1 : World),Fr (fun _=>False) W w1->Fr (fun _=>False) W (w1.setCells g o vs):=by
   intro vs
   induction vs with
   | nil=>intro _ _ q; exact q
   | cons v r ih=>intro o w1 q; exact ih (o + 1) _ (Fr.setNew hg q o v)
  exact this _ _ _ h.fr
end
end
end Go.Proofs.YtfccelbmacjifabGreat
