import Derived.Test.YtfccelbmacjifabGreatP0
import Derived.Test.YtfccelbmacjifabGreatP33
set_option linter.unusedSimpArgs false
set_option maxRecDepth 100000
set_option maxHeartbeats 4000000
namespace Go.Proofs.YtfccelbmacjifabGreat
section
open Go.RowKit
section
variable {w w' : World} {sb : Nat} {a : Option Addr} {c : Nat} {ps : List (Int × Int)}
theorem OwnPairs.below {w0 w1 w : World} {v : Value} {ps : List (Int × Int)} (h : OwnPairs w1 w v ps) (hf : Fr (fun _=>False) w0 w1) : OwnPairs w0 w v ps:=⟨h.row,fun k hk=>Nat.le_trans hf.size (h.new k hk),hf.trans h.fr⟩
theorem OwnPairs.pairs {w0 w : World} {a : Option Addr} {n c : Nat} {ps : List (Int × Int)} (h : OwnPairs w0 w (.slice a n c) ps) : PairsAt w a ps:=PairsAt.ofRow (own:=fun _=>⟨0,.lists⟩) (z:=0) (tag:=.lists) ⟨h.row,fun _ _=>rfl⟩
theorem PairsAt.keepS {S : Nat->Prop} {w w' : World} {a : Option Addr} {ps : List (Int × Int)} (h : PairsAt w a ps) (hf : Fr S w w') (hS : ∀ g,a = some ⟨g,0,none⟩->¬ S g) : PairsAt w' a ps:=by
 intro i p hp;obtain ⟨g,e,c0,c1⟩:=h i p hp;have hr : ∀ (a : Addr) (v : Value),a.block = g->w.cell? a = some v->w'.cell? a = some v:=by
  intro a v hb hc;rw [cellHeap (hf.block a.block (cellLt hc) (by rw [hb]; exact hS g e))]; exact hc
 exact ⟨g,e,hr _ _ rfl c0,hr _ _ rfl c1⟩
theorem OwnPairs.push {w0 w1 w3 : World} {v : Value} {l : List (Int × Int)} {x : Int × Int} {g cap : Nat} {ob : Obj} (h : OwnPairs w0 w1 v l) (hown : w3.ownsRow 0 95 2 (.slice (some ⟨g,0,none⟩) (l.length + 1) cap) (l.length + 1) (l.flatMap pairCells ++ [.int .i64 x.1,.int .i64 x.2])) (hgr : (w1.alloc ob).grownBy w3 v.ownBlock) (hge : v.ownBlock = some g\/w1.heap.size + 1<=g) :
  OwnPairs w0 w3 (.slice (some ⟨g,0,none⟩) (l.length + 1) cap) (l ++ [x]):=by
 refine ⟨?_,?_,Fr.grown (h.fr.alloc _) hgr (fun k hk=>.inr (h.new k hk))⟩
 ·simpa [pairCells] using hown
 ·intro q hq;simp [Value.ownBlock] at hq;subst hq;rcases hge with h1 | h1
  ·exact h.new _ h1
  ·have:=h.fr.size; omega
theorem OwnPairs.setOther {w0 w : World} {v : Value} {ps : List (Int × Int)} (h : OwnPairs w0 w v ps) {b : Nat} {c : List Value} {T : TypeId} (hA : At w b c T) (h2 : T≠95) (hb : w0.heap.size<=b) (o : Nat) (x : Value) : OwnPairs w0 (w.setCell ⟨b,o,none⟩ x) v ps :=
 ⟨ownsRow_setOther h.row (a:=⟨b,o,none⟩) (hA.ne_row h.row h2) x,h.new,Fr.setNew hb h.fr o x⟩
theorem does_put (h : ShAt w sb a c ps) (key value : Int) (sv : Value) (hsm : ps.length<=2 ^ 20) (hd : (shVal ps key).2 = false) :
  Calls Tryz.prog 34 #[pv sb,opVal 1 key value sv] w fun r w'=>r = .returned (ansV { did:=true,value:=0 } (.slice none 0 0))/\Fr (fun k=>k = sb) w w'/\∃ a' c',ShAt w' sb a' c' (shPut ps key value)/\∀ g,a' = some ⟨g,0,none⟩->w.heap.size<=g/\g < w'.heap.size:=by
 obtain ⟨iP,hiP,hzP,hsP,hbP⟩:=info_parts Tryz.infoPr;have HS:=(mkH (ShAt w sb a c ps) <|h);have hsl : sb < w.heap.size:=h.1.lt;have HC:=(mkH (∀ w1,ShAt w1 sb a c ps->Calls Tryz.prog 51 #[pv sb,.int .i64 key] w1 _) <|fun w1 h=>shValue_calls h key hsm);have HW : Hid (∀ (w1 : World) (q : Bool),ShAt w1 sb a c ps->Calls Tryz.prog 52 #[pv sb,.int .i64 key,.bool q] w1 fun r w'=>∃ v,r = .returned v/\OwnPairs w1 w' v (ps.filter (shSide key q))):=fun w1 q h=>without_calls h key q hsm
 clear h;generalize shVal ps key = x at HC hd ⊢;obtain ⟨x1,x2⟩:=x;simp only at hd;subst hd;obtain ⟨lo,HLo⟩ : ∃ lo,Hid (shLo ps key = lo):=⟨_,rfl⟩;obtain ⟨hi,HHi⟩ : ∃ hi,Hid (shHi ps key = hi):=⟨_,rfl⟩;have hlo : lo.length<=2 ^ 20:=by rw [<- HLo.out]; exact Nat.le_trans (List.length_filter_le _ _) hsm
 have hhi : hi.length<=2 ^ 20:=by rw [<- HHi.out]; exact Nat.le_trans (List.length_filter_le _ _) hsm
 have HNew : Hid (shPut ps key value = lo ++ [(key,value)] ++ hi):=by show _ = _; unfold shPut; rw [HLo.out,HHi.out]
 obtain ⟨new,HNw⟩ : ∃ new,Hid (shPut ps key value = new):=⟨_,rfl⟩;rw [HNw.out];have HNew : Hid (new = lo ++ [(key,value)] ++ hi):=by show _ = _; rw [<- HNw.out]; exact HNew.out
 clear HNw;unfold pv at HC HW ⊢;unfold opVal;obtain ⟨w1,e1,hO,hR,hV,hF,hs⟩:=does_start w 1 key value sv;have ho:=hO.cell;have hv:=hV.cell;have hvz:=hV.frozen;have n1 : w.heap.size + 1≠w.heap.size + 1 + 1:=by omega
 have n2 : w.heap.size + 1 + 1≠w.heap.size + 1:=by omega
 have n3 : w.heap.size≠w.heap.size + 1 + 1:=by omega
 have n4 : w.heap.size + 1 + 1≠w.heap.size:=by omega
 have n5 : sb≠w.heap.size:=by omega
 have n6 : sb≠w.heap.size + 1:=by omega
 have n7 : sb≠w.heap.size + 1 + 1:=by omega
 have HF:=(mkH (Fr _ w w1) <|hF);have HOp:=(mkH (At w1 w.heap.size _ _) <|hO);have HR:=(mkH (At w1 (w.heap.size + 1) _ _) <|hR);have HV:=(mkH (At w1 (w.heap.size + 1 + 1) _ _) <|hV);unfold zeroAns at hv;have E1:=(mkH (_ = _) <|e1);clear hO hR hV hF e1
 go_enter Tryz.func34,Tryz.ntmps34
 go_wp2_with fail;rw [<- E1.out];refine (HC.out w1 (HS.out.calm HF.out)).mono ?_;rintro r w2 ⟨rfl,rfl⟩;clear E1 HC;go_wp2_with fail;have HV2:=(mkH (At (w2.setCell ⟨w.heap.size + 1 + 1,1,none⟩ (.bool true)) (w.heap.size + 1 + 1) [.int .i64 0,.bool true,.int .i64 0,.int .i64 0,.slice none 0 0] 69) <|HV.out.set 1 _);have HR2:=(mkH (At (w2.setCell ⟨w.heap.size + 1 + 1,1,none⟩ (.bool true)) (w.heap.size + 1) zeroAns 69) <|HR.out.setOther _ n1 _);have HO2:=(mkH (At (w2.setCell ⟨w.heap.size + 1 + 1,1,none⟩ (.bool true)) w.heap.size [.int .i64 1,.int .i64 key,.int .i64 value,sv] 53) <|HOp.out.setOther _ n3 _);have HF2:=(mkH (Fr (fun _=>False) w (w2.setCell ⟨w.heap.size + 1 + 1,1,none⟩ (.bool true))) <|Fr.setNew (by omega) HF.out _ _);clear HV HR HOp HF ho hv hvz hs;generalize w2.setCell ⟨w.heap.size + 1 + 1,1,none⟩ (.bool true) = w3 at *;refine (HW.out w3 true (HS.out.calm HF2.out)).mono ?_;rintro r w4 ⟨v,rfl,hL⟩;have HF4:=(mkH (Fr (fun _=>False) w w4) <|HF2.out.trans hL.fr);have HV4:=(mkH (At w4 (w.heap.size + 1 + 1) [.int .i64 0,.bool true,.int .i64 0,.int .i64 0,.slice none 0 0] 69) <|hL.fr.at HV2.out (fun h=>h));have HR4:=(mkH (At w4 (w.heap.size + 1) zeroAns 69) <|hL.fr.at HR2.out (fun h=>h));have HO4:=(mkH (At w4 w.heap.size _ 53) <|hL.fr.at HO2.out (fun h=>h));have HL:=(mkH (OwnPairs w w4 v lo) <|by rw [<- HLo.out]; exact hL.below HF2.out);clear hL HF2 HV2 HR2 HO2;have ho:=HO4.out.cell;have hv:=HV4.out.cell;have hvz:=HV4.out.frozen;obtain ⟨va,vc,rfl⟩:=ownsShape HL.out.row;go_wp2_with (at_builtin; refine wpList_push _ rfl _ _ 47 rfl 0 95 iP _ 2 16 Tryz.underlying47 hiP hzP hsP hbP rfl (by decide) _ _ _ rfl (ownsRow_alloc HL.out.row _) w4.heap.size [.int .i64 key,.int .i64 value] rfl rfl 95 (At.newAt (by simp) _ _) (by simp [Value.oneCell']) (by unfold maxLen; omega) (by omega) (by simp) ?_);intro g' cap w5 hown hgr hge;have HL5:=(mkH (OwnPairs w w5 (.slice (some ⟨g',0,none⟩) (lo.length + 1) cap) (lo ++ [(key,value)])) <|HL.out.push hown hgr hge);have hFg : Fr (fun j=>(Value.slice va lo.length vc).ownBlock = some j) w4 w5:=Fr.grown (Fr.alloc (Fr.refl _ _) _) hgr (fun j hj=>.inl hj);have HV5:=(mkH (At w5 (w.heap.size + 1 + 1) _ _) <|hFg.at HV4.out (HV4.out.ne_row HL.out.row (by decide)));have HR5:=(mkH (At w5 (w.heap.size + 1) _ _) <|hFg.at HR4.out (HR4.out.ne_row HL.out.row (by decide)));have ho5:=(hFg.at HO4.out (HO4.out.ne_row HL.out.row (by decide))).cell;clear hown hgr hge hFg ho hv hvz;go_wp2_with fail;have ho:=ho5;have hv:=ho5;have hvz:=ho5;clear ho5;clear ho hv hvz HO4 HF4 HV4 HR4 HL;refine (HW.out w5 false (HS.out.calm HL5.out.fr)).mono ?_;rintro r w6 ⟨y,rfl,hH⟩;obtain ⟨ya,yc,rfl⟩:=ownsShape hH.row;have HL6:=(mkH (OwnPairs w w6 _ (lo ++ [(key,value)])) <|HL5.out.calm hH.fr);have HV6:=(mkH (At w6 (w.heap.size + 1 + 1) [.int .i64 0,.bool true,.int .i64 0,.int .i64 0,.slice none 0 0] 69) <|hH.fr.at HV5.out (fun h=>h));have HR6:=(mkH (At w6 (w.heap.size + 1) zeroAns 69) <|hH.fr.at HR5.out (fun h=>h));have HY:=(mkH (PairsAt w6 ya hi) <|by rw [<- HHi.out]; exact hH.pairs);have hyl : (ps.filter (shSide key false)).length = hi.length:=by rw [<- HHi.out]; rfl
 rw [hyl];have HNY : Hid (∀ g,ya = some ⟨g,0,none⟩->w5.heap.size<=g):=by
  rintro g rfl;exact hH.new g rfl
 have HL5l : Hid (∀ k,(Value.slice (some ⟨g',0,none⟩) (lo.length + 1) cap).ownBlock = some k->k < w5.heap.size):=fun k hk=>ownsRow_lt HL5.out.row hk
 clear hH HL5 HV5 HR5 hyl;go_wp2
 go_loopw [8,10] (fun v i wr=>∃ k : Nat,k<=hi.length/\i = .int .i64 k/\Hid (OwnPairs w wr v (lo ++ [(key,value)] ++ hi.take k))/\Hid (PairsAt wr ya hi)/\Hid (∀ g,ya = some ⟨g,0,none⟩->v.ownBlock≠some g)/\Hid (At wr (w.heap.size + 1 + 1) [.int .i64 0,.bool true,.int .i64 0,.int .i64 0,.slice none 0 0] 69)/\Hid (At wr (w.heap.size + 1) zeroAns 69)) (fun _ i _=>hi.length - (intOf i).toNat)
 case atStart =>
  refine ⟨0,Nat.zero_le _,rfl,?_,HY,?_,HV6,HR6⟩
  ·show OwnPairs _ _ _ _; rw [List.take_zero,List.append_nil]; exact HL6.out
  ·intro g hg e;have h1:=HNY.out g hg;have h2:=HL5l.out g e;omega
 case round =>
  clear HL6 HV6 HR6 HY HNY HL5l;obtain ⟨k,hk,rfl,HO,HA,HN,HX,HR⟩:=hrel;by_cases hlt : k < hi.length
  ·have hx : Hid (hi[k]? = some hi[k]):=List.getElem?_eq_getElem hlt;generalize hi[k] = x at hx;obtain ⟨g,rfl,c0,c1⟩:=HA.out k x hx.out;have HT : Hid (lo ++ [(key,value)] ++ hi.take (k + 1) = (lo ++ [(key,value)] ++ hi.take k) ++ [x]):=by show _ = _; rw [List.take_add_one,hx.out]; simp
   have HFL : Hid ((lo ++ [(key,value)] ++ hi.take k).length<=2 ^ 22):=by show _<=_; simp; omega
   obtain ⟨cur,HCu⟩ : ∃ cur,Hid (lo ++ [(key,value)] ++ hi.take k = cur):=⟨_,rfl⟩;rw [HCu.out] at HO HT HFL;go_wp2_with (at_builtin; refine wpList_push _ rfl _ _ 47 rfl 0 95 iP _ 2 16 Tryz.underlying47 hiP hzP hsP hbP rfl (by decide) _ _ _ rfl (ownsRow_alloc HO.out.row _) wr.heap.size [.int .i64 x.1,.int .i64 x.2] rfl rfl 95 (At.newAt (by simp) _ _) (by simp [Value.oneCell']) (by have:=HFL.out; unfold maxLen; omega) (by have:=HFL.out; omega) (by simp) ?_);intro g' cap w7 hown hgr hge;have HO7:=(mkH (OwnPairs w w7 _ _) <|HO.out.push hown hgr hge);have hFg : Fr (fun j=>u8.ownBlock = some j) wr w7:=Fr.grown (Fr.alloc (Fr.refl _ _) _) hgr (fun j hj=>.inl hj);have HX7:=(mkH (At w7 (w.heap.size + 1 + 1) _ _) <|hFg.at HX.out (HX.out.ne_row HO.out.row (by decide)));have HR7:=(mkH (At w7 (w.heap.size + 1) _ _) <|hFg.at HR.out (HR.out.ne_row HO.out.row (by decide)));have HA7:=(mkH (PairsAt w7 _ hi) <|PairsAt.keepS HA.out hFg (fun q hq=>HN.out q hq));have HN7 : Hid (∀ q,some (⟨g,0,none⟩ : Addr) = some ⟨q,0,none⟩->(Value.slice (some ⟨g',0,none⟩) (cur.length + 1) cap).ownBlock≠some q):=by
    intro q hq e;simp at hq;subst hq;simp [Value.ownBlock] at e;subst e;rcases hge with h1 | h1
    ·exact HN.out _ rfl h1
    ·have:=cellLt c0
     simp only at this;omega
   clear hown hgr hge hFg HO HX HR HA HN c0 c1;go_wp2
   go_roundw
   case rel=>exact ⟨k + 1,by omega,by go_num,by show OwnPairs _ _ _ _; rw [HT.out]; exact HO7.out,HA7,HN7,HX7,HR7⟩
   case measure=>simp [intOf]; omega
  ·have hke : k = hi.length:=by omega
   have HO' : Hid (OwnPairs w wr u8 new):=by
    have:=HO.out
    rw [hke,List.take_length,<- HNew.out] at this;exact this
   obtain ⟨ua,uc,rfl⟩:=ownsShape HO'.out.row;clear HO hke;have hsr:=HS.out.calm HO'.out.fr;have hsc:=hsr.1.cell;have hsz:=hsr.1.frozen;have hxc:=HX.out.cell;have hrc:=HR.out.cell;have hrz:=HR.out.frozen;have hSA:=hsr.1.set 0 (.slice ua new.length uc);have hRA:=HR.out.setOther ⟨sb,0,none⟩ (show w.heap.size + 1≠sb by omega) (.slice ua new.length uc);have hf0:=(copy5 hRA (.int .i64 0) (.bool true) (.int .i64 0) (.int .i64 0) (.slice none 0 0)).cell;have hFe : Fr (fun k=>k = sb) w (wr.setCell ⟨sb,0,none⟩ (.slice ua new.length uc)):=(Fr.mono HO'.out.fr (fun _ _ h=>h.elim)).set1 _ _;have HEnd:=(mkH (_/\_) <|⟨frCopy5 (b:=w.heap.size + 1) (by omega) hFe (.int .i64 0) (.bool true) (.int .i64 0) (.int .i64 0) (.slice none 0 0),
    At.setOther (At.setOther (At.setOther (At.setOther (At.setOther hSA ⟨w.heap.size + 1,0,none⟩ n6 (.int .i64 0)) ⟨w.heap.size + 1,1,none⟩ n6 (.bool true)) ⟨w.heap.size + 1,2,none⟩ n6 (.int .i64 0)) ⟨w.heap.size + 1,3,none⟩ n6 (.int .i64 0)) ⟨w.heap.size + 1,4,none⟩ n6 (.slice none 0 0)⟩)
   have hN1:=hsr.1.ne_row HO'.out.row (by decide);have hN2:=HR.out.ne_row HO'.out.row (by decide);have hFw : Fr (fun k=>k = sb\/k = w.heap.size + 1) wr _:=((((((Fr.refl (fun k=>k = sb\/k = w.heap.size + 1) wr).setIn (.inl rfl) 0 (.slice ua new.length uc)).setIn (.inr rfl) 0 (.int .i64 0)).setIn (.inr rfl) 1 (.bool true)).setIn (.inr rfl) 2 (.int .i64 0)).setIn (.inr rfl) 3 (.int .i64 0)).setIn (.inr rfl) 4 (.slice none 0 0);have HPw:=(mkH (PairsAt _ ua new) <|PairsAt.keepS HO'.out.pairs hFw (by
    rintro g rfl (h1 | h1)
    ·exact hN1 (by rw [<- h1]; rfl)
    ·exact hN2 (by rw [<- h1]; rfl)))
   have HNg : Hid (∀ g,ua = some ⟨g,0,none⟩->w.heap.size<=g/\g < wr.heap.size):=by
    rintro g rfl;exact ⟨HO'.out.new g rfl,ownsRow_lt HO'.out.row rfl⟩
   clear hN1 hN2 hFw hSA hRA hFe hsr;unfold zeroAns at hrc;go_wp2;exact bodyPost_ret (v:=ansV { did:=true,value:=0 } (.slice none 0 0)) (by simp [results,Tryz.results34,go_sem,ansV,hf0]) rfl ⟨rfl,HEnd.out.1,ua,uc,⟨HEnd.out.2,HPw.out⟩,fun g hg=>⟨(HNg.out g hg).1,by simpa using (HNg.out g hg).2⟩⟩
theorem does_del (h : ShAt w sb a c ps) (key value : Int) (sv : Value) (hsm : ps.length<=2 ^ 20) (hd : (shVal ps key).2 = true) :
  Calls Tryz.prog 34 #[pv sb,opVal 2 key value sv] w fun r w'=>r = .returned (ansV { did:=true,value:=(shVal ps key).1 } (.slice none 0 0))/\Fr (fun k=>k = sb) w w'/\∃ a' c',ShAt w' sb a' c' (shDel ps key)/\∀ g,a' = some ⟨g,0,none⟩->w.heap.size<=g/\g < w'.heap.size:=by
 obtain ⟨iP,hiP,hzP,hsP,hbP⟩:=info_parts Tryz.infoPr;have HS:=(mkH (ShAt w sb a c ps) <|h);have hsl : sb < w.heap.size:=h.1.lt;have HC:=(mkH (∀ w1,ShAt w1 sb a c ps->Calls Tryz.prog 51 #[pv sb,.int .i64 key] w1 _) <|fun w1 h=>shValue_calls h key hsm);have HW : Hid (∀ (w1 : World) (q : Bool),ShAt w1 sb a c ps->Calls Tryz.prog 52 #[pv sb,.int .i64 key,.bool q] w1 fun r w'=>∃ v,r = .returned v/\OwnPairs w1 w' v (ps.filter (shSide key q))):=fun w1 q h=>without_calls h key q hsm
 clear h;generalize shVal ps key = x at HC hd ⊢;obtain ⟨x1,x2⟩:=x;simp only at hd;subst hd;obtain ⟨lo,HLo⟩ : ∃ lo,Hid (shLo ps key = lo):=⟨_,rfl⟩;obtain ⟨hi,HHi⟩ : ∃ hi,Hid (shHi ps key = hi):=⟨_,rfl⟩;have hlo : lo.length<=2 ^ 20:=by rw [<- HLo.out]; exact Nat.le_trans (List.length_filter_le _ _) hsm
 have hhi : hi.length<=2 ^ 20:=by rw [<- HHi.out]; exact Nat.le_trans (List.length_filter_le _ _) hsm
 have HNew : Hid (shDel ps key = lo ++ hi):=by show _ = _; unfold shDel; rw [HLo.out,HHi.out]
 obtain ⟨new,HNw⟩ : ∃ new,Hid (shDel ps key = new):=⟨_,rfl⟩;rw [HNw.out];have HNew : Hid (new = lo ++ hi):=by show _ = _; rw [<- HNw.out]; exact HNew.out
 clear HNw;unfold pv at HC HW ⊢;unfold opVal;obtain ⟨w1,e1,hO,hR,hV,hF,hs⟩:=does_start w 2 key value sv;have ho:=hO.cell;have hv:=hV.cell;have hvz:=hV.frozen;have n1 : w.heap.size + 1≠w.heap.size + 1 + 1:=by omega
 have n2 : w.heap.size + 1 + 1≠w.heap.size + 1:=by omega
 have n3 : w.heap.size≠w.heap.size + 1 + 1:=by omega
 have n4 : w.heap.size + 1 + 1≠w.heap.size:=by omega
 have n5 : sb≠w.heap.size:=by omega
 have n6 : sb≠w.heap.size + 1:=by omega
 have n7 : sb≠w.heap.size + 1 + 1:=by omega
 have HF:=(mkH (Fr _ w w1) <|hF);have HOp:=(mkH (At w1 w.heap.size _ _) <|hO);have HR:=(mkH (At w1 (w.heap.size + 1) _ _) <|hR);have HV:=(mkH (At w1 (w.heap.size + 1 + 1) _ _) <|hV);unfold zeroAns at hv;have E1:=(mkH (_ = _) <|e1);clear hO hR hV hF e1
 go_enter Tryz.func34,Tryz.ntmps34
 go_wp2_with fail;rw [<- E1.out];refine (HC.out w1 (HS.out.calm HF.out)).mono ?_;rintro r w2 ⟨rfl,rfl⟩;clear E1 HC;go_wp2_with fail;have HV2:=(mkH (At (w2.setCell ⟨w.heap.size + 1 + 1,1,none⟩ (.bool true)) (w.heap.size + 1 + 1) [.int .i64 0,.bool true,.int .i64 0,.int .i64 0,.slice none 0 0] 69) <|HV.out.set 1 _);have HR2:=(mkH (At (w2.setCell ⟨w.heap.size + 1 + 1,1,none⟩ (.bool true)) (w.heap.size + 1) zeroAns 69) <|HR.out.setOther _ n1 _);have HO2:=(mkH (At (w2.setCell ⟨w.heap.size + 1 + 1,1,none⟩ (.bool true)) w.heap.size [.int .i64 2,.int .i64 key,.int .i64 value,sv] 53) <|HOp.out.setOther _ n3 _);have HF2:=(mkH (Fr (fun _=>False) w (w2.setCell ⟨w.heap.size + 1 + 1,1,none⟩ (.bool true))) <|Fr.setNew (by omega) HF.out _ _);clear HV HR HOp HF ho hv hvz hs;generalize w2.setCell ⟨w.heap.size + 1 + 1,1,none⟩ (.bool true) = w3 at *;refine (HW.out w3 true (HS.out.calm HF2.out)).mono ?_;rintro r w4 ⟨v,rfl,hL⟩;have HF4:=(mkH (Fr (fun _=>False) w w4) <|HF2.out.trans hL.fr);have HV4:=(mkH (At w4 (w.heap.size + 1 + 1) [.int .i64 0,.bool true,.int .i64 0,.int .i64 0,.slice none 0 0] 69) <|hL.fr.at HV2.out (fun h=>h));have HR4:=(mkH (At w4 (w.heap.size + 1) zeroAns 69) <|hL.fr.at HR2.out (fun h=>h));have HO4:=(mkH (At w4 w.heap.size _ 53) <|hL.fr.at HO2.out (fun h=>h));have HL:=(mkH (OwnPairs w w4 v lo) <|by rw [<- HLo.out]; exact hL.below HF2.out);clear hL HF2 HV2 HR2 HO2;have ho:=HO4.out.cell;have hv:=HV4.out.cell;have hvz:=HV4.out.frozen;obtain ⟨va,vc,rfl⟩:=ownsShape HL.out.row;go_wp2_with fail;have HL5:=(mkH (OwnPairs w (w4.setCell ⟨w.heap.size + 1 + 1,2,none⟩ (.int .i64 x1)) (.slice va lo.length vc) lo) <|HL.out.setOther HV4.out (by decide) (by omega) _ _);have HV5:=(mkH (At (w4.setCell ⟨w.heap.size + 1 + 1,2,none⟩ (.int .i64 x1)) (w.heap.size + 1 + 1) [.int .i64 0,.bool true,.int .i64 x1,.int .i64 0,.slice none 0 0] 69) <|HV4.out.set 2 _);have HR5:=(mkH (At (w4.setCell ⟨w.heap.size + 1 + 1,2,none⟩ (.int .i64 x1)) (w.heap.size + 1) zeroAns 69) <|HR4.out.setOther _ n1 _);generalize w4.setCell ⟨w.heap.size + 1 + 1,2,none⟩ (.int .i64 x1) = w5 at *;clear ho hv hvz HO4 HF4 HV4 HR4 HL;refine (HW.out w5 false (HS.out.calm HL5.out.fr)).mono ?_;rintro r w6 ⟨y,rfl,hH⟩;obtain ⟨ya,yc,rfl⟩:=ownsShape hH.row;have HL6:=(mkH (OwnPairs w w6 _ (lo)) <|HL5.out.calm hH.fr);have HV6:=(mkH (At w6 (w.heap.size + 1 + 1) [.int .i64 0,.bool true,.int .i64 x1,.int .i64 0,.slice none 0 0] 69) <|hH.fr.at HV5.out (fun h=>h));have HR6:=(mkH (At w6 (w.heap.size + 1) zeroAns 69) <|hH.fr.at HR5.out (fun h=>h));have HY:=(mkH (PairsAt w6 ya hi) <|by rw [<- HHi.out]; exact hH.pairs);have hyl : (ps.filter (shSide key false)).length = hi.length:=by rw [<- HHi.out]; rfl
 rw [hyl];have HNY : Hid (∀ g,ya = some ⟨g,0,none⟩->w5.heap.size<=g):=by
  rintro g rfl;exact hH.new g rfl
 have HL5l : Hid (∀ k,(Value.slice va lo.length vc).ownBlock = some k->k < w5.heap.size):=fun k hk=>ownsRow_lt HL5.out.row hk
 clear hH HL5 HV5 HR5 hyl;go_wp2
 go_loopw [8,10] (fun v i wr=>∃ k : Nat,k<=hi.length/\i = .int .i64 k/\Hid (OwnPairs w wr v (lo ++ hi.take k))/\Hid (PairsAt wr ya hi)/\Hid (∀ g,ya = some ⟨g,0,none⟩->v.ownBlock≠some g)/\Hid (At wr (w.heap.size + 1 + 1) [.int .i64 0,.bool true,.int .i64 x1,.int .i64 0,.slice none 0 0] 69)/\Hid (At wr (w.heap.size + 1) zeroAns 69)) (fun _ i _=>hi.length - (intOf i).toNat)
 case atStart =>
  refine ⟨0,Nat.zero_le _,rfl,?_,HY,?_,HV6,HR6⟩
  ·show OwnPairs _ _ _ _; rw [List.take_zero,List.append_nil]; exact HL6.out
  ·intro g hg e;have h1:=HNY.out g hg;have h2:=HL5l.out g e;omega
 case round =>
  clear HL6 HV6 HR6 HY HNY HL5l;obtain ⟨k,hk,rfl,HO,HA,HN,HX,HR⟩:=hrel;by_cases hlt : k < hi.length
  ·have hx : Hid (hi[k]? = some hi[k]):=List.getElem?_eq_getElem hlt;generalize hi[k] = x at hx;obtain ⟨g,rfl,c0,c1⟩:=HA.out k x hx.out;have HT : Hid (lo ++ hi.take (k + 1) = (lo ++ hi.take k) ++ [x]):=by show _ = _; rw [List.take_add_one,hx.out]; simp
   have HFL : Hid ((lo ++ hi.take k).length<=2 ^ 22):=by show _<=_; simp; omega
   obtain ⟨cur,HCu⟩ : ∃ cur,Hid (lo ++ hi.take k = cur):=⟨_,rfl⟩;rw [HCu.out] at HO HT HFL;go_wp2_with (at_builtin; refine wpList_push _ rfl _ _ 47 rfl 0 95 iP _ 2 16 Tryz.underlying47 hiP hzP hsP hbP rfl (by decide) _ _ _ rfl (ownsRow_alloc HO.out.row _) wr.heap.size [.int .i64 x.1,.int .i64 x.2] rfl rfl 95 (At.newAt (by simp) _ _) (by simp [Value.oneCell']) (by have:=HFL.out; unfold maxLen; omega) (by have:=HFL.out; omega) (by simp) ?_);intro g' cap w7 hown hgr hge;have HO7:=(mkH (OwnPairs w w7 _ _) <|HO.out.push hown hgr hge);have hFg : Fr (fun j=>u8.ownBlock = some j) wr w7:=Fr.grown (Fr.alloc (Fr.refl _ _) _) hgr (fun j hj=>.inl hj);have HX7:=(mkH (At w7 (w.heap.size + 1 + 1) _ _) <|hFg.at HX.out (HX.out.ne_row HO.out.row (by decide)));have HR7:=(mkH (At w7 (w.heap.size + 1) _ _) <|hFg.at HR.out (HR.out.ne_row HO.out.row (by decide)));have HA7:=(mkH (PairsAt w7 _ hi) <|PairsAt.keepS HA.out hFg (fun q hq=>HN.out q hq));have HN7 : Hid (∀ q,some (⟨g,0,none⟩ : Addr) = some ⟨q,0,none⟩->(Value.slice (some ⟨g',0,none⟩) (cur.length + 1) cap).ownBlock≠some q):=by
    intro q hq e;simp at hq;subst hq;simp [Value.ownBlock] at e;subst e;rcases hge with h1 | h1
    ·exact HN.out _ rfl h1
    ·have:=cellLt c0
     simp only at this;omega
   clear hown hgr hge hFg HO HX HR HA HN c0 c1;go_wp2
   go_roundw
   case rel=>exact ⟨k + 1,by omega,by go_num,by show OwnPairs _ _ _ _; rw [HT.out]; exact HO7.out,HA7,HN7,HX7,HR7⟩
   case measure=>simp [intOf]; omega
  ·have hke : k = hi.length:=by omega
   have HO' : Hid (OwnPairs w wr u8 new):=by
    have:=HO.out
    rw [hke,List.take_length,<- HNew.out] at this;exact this
   obtain ⟨ua,uc,rfl⟩:=ownsShape HO'.out.row;clear HO hke;have hsr:=HS.out.calm HO'.out.fr;have hsc:=hsr.1.cell;have hsz:=hsr.1.frozen;have hxc:=HX.out.cell;have hrc:=HR.out.cell;have hrz:=HR.out.frozen;have hSA:=hsr.1.set 0 (.slice ua new.length uc);have hRA:=HR.out.setOther ⟨sb,0,none⟩ (show w.heap.size + 1≠sb by omega) (.slice ua new.length uc);have hf0:=(copy5 hRA (.int .i64 0) (.bool true) (.int .i64 x1) (.int .i64 0) (.slice none 0 0)).cell;have hFe : Fr (fun k=>k = sb) w (wr.setCell ⟨sb,0,none⟩ (.slice ua new.length uc)):=(Fr.mono HO'.out.fr (fun _ _ h=>h.elim)).set1 _ _;have HEnd:=(mkH (_/\_) <|⟨frCopy5 (b:=w.heap.size + 1) (by omega) hFe (.int .i64 0) (.bool true) (.int .i64 x1) (.int .i64 0) (.slice none 0 0),
    At.setOther (At.setOther (At.setOther (At.setOther (At.setOther hSA ⟨w.heap.size + 1,0,none⟩ n6 (.int .i64 0)) ⟨w.heap.size + 1,1,none⟩ n6 (.bool true)) ⟨w.heap.size + 1,2,none⟩ n6 (.int .i64 x1)) ⟨w.heap.size + 1,3,none⟩ n6 (.int .i64 0)) ⟨w.heap.size + 1,4,none⟩ n6 (.slice none 0 0)⟩)
   have hN1:=hsr.1.ne_row HO'.out.row (by decide);have hN2:=HR.out.ne_row HO'.out.row (by decide);have hFw : Fr (fun k=>k = sb\/k = w.heap.size + 1) wr _:=((((((Fr.refl (fun k=>k = sb\/k = w.heap.size + 1) wr).setIn (.inl rfl) 0 (.slice ua new.length uc)).setIn (.inr rfl) 0 (.int .i64 0)).setIn (.inr rfl) 1 (.bool true)).setIn (.inr rfl) 2 (.int .i64 x1)).setIn (.inr rfl) 3 (.int .i64 0)).setIn (.inr rfl) 4 (.slice none 0 0);have HPw:=(mkH (PairsAt _ ua new) <|PairsAt.keepS HO'.out.pairs hFw (by
    rintro g rfl (h1 | h1)
    ·exact hN1 (by rw [<- h1]; rfl)
    ·exact hN2 (by rw [<- h1]; rfl)))
   have HNg : Hid (∀ g,ua = some ⟨g,0,none⟩->w.heap.size<=g/\g < wr.heap.size):=by
    rintro g rfl;exact ⟨HO'.out.new g rfl,ownsRow_lt HO'.out.row rfl⟩
   clear hN1 hN2 hFw hSA hRA hFe hsr;unfold zeroAns at hrc;go_wp2;exact bodyPost_ret (v:=ansV { did:=true,value:=x1 } (.slice none 0 0)) (by simp [results,Tryz.results34,go_sem,ansV,hf0]) rfl ⟨rfl,HEnd.out.1,ua,uc,⟨HEnd.out.2,HPw.out⟩,fun g hg=>⟨(HNg.out g hg).1,by simpa using (HNg.out g hg).2⟩⟩
end
end
section
open Go.RowKit
section
variable {w w' : World} {sb : Nat} {a : Option Addr} {c : Nat} {ps : List (Int × Int)}
structure DoesTo (w w' : World) (sb : Nat) (ps : List (Int × Int)) (kind key value : Int) (spans : List (Int × Int)) (v : Value) : Prop where
 yes : shUpd ps kind key = true->v = .slice none 0 0/\Fr (fun k=>k = sb) w w'/\∃ a' c',ShAt w' sb a' c' (shNew ps kind key value)/\∀ g,a' = some ⟨g,0,none⟩->w.heap.size<=g/\g < w'.heap.size
 no : shUpd ps kind key = false->OwnLists w w' v (shAns ps kind key spans).spans
theorem OwnLists.none {w0 w : World} (hf : Fr (fun _=>False) w0 w) : OwnLists w0 w (.slice Option.none 0 0) [] :=
 ⟨fun _=>rfl,⟨[],rfl,⟨by simp,.inl ⟨rfl,rfl⟩⟩,by intro i u l hu; simp at hu⟩,by intro k hk; simp [Value.ownBlock] at hk,hf⟩
theorem does_calls (h : ShAt w sb a c ps) (kind key value : Int) (b : Option Addr) (d : Nat) (spans : List (Int × Int)) (hb : PairsAt w b spans) (hsm : ps.length<=2 ^ 20) (hp : properB kind key spans = true) :
  Calls Tryz.prog 34 #[pv sb,opVal kind key value (.slice b spans.length d)] w fun r w'=>∃ va vn vc,r = .returned (ansV (shAns ps kind key spans) (.slice va vn vc))/\DoesTo w w' sb ps kind key value spans (.slice va vn vc):=by
 unfold properB checkOp at hp;by_cases h4 : kind = 4
 ·subst h4;have h16 : spans.length<=16:=by
   rw [if_neg (by decide),if_pos rfl] at hp;by_cases hi : isIn spans.length 1 16 = true
   ·have:=isIn_iff.1 hi; omega
   ·simp [hi] at hp
  have hs : shUpd ps 4 key = false:=by simp [shUpd]
  have ha : shAns ps 4 key spans = answerOf spans ps 0:=by simp [shAns]
  rw [ha];refine (does_scan h key value b d spans h16 hb hsm).mono ?_;rintro r w1 ⟨va,vn,vc,rfl,hO⟩;exact ⟨va,vn,vc,rfl,⟨fun hh=>(by rw [hs] at hh; exact nomatch hh),fun _=>by rw [ha]; exact hO⟩⟩
 ·by_cases h3 : kind = 3
  ·subst h3;have hs : shUpd ps 3 key = false:=by simp [shUpd]
   have ha : shAns ps 3 key spans = { did:=(shVal ps key).2,value:=(shVal ps key).1 }:=by simp [shAns]
   rw [ha];refine (does_look h key value _ hsm).mono ?_;rintro r w1 ⟨rfl,hF⟩;exact ⟨none,0,0,rfl,⟨fun hh=>(by rw [hs] at hh; exact nomatch hh),fun _=>by rw [ha]; exact OwnLists.none hF⟩⟩
  ·have hk : kind = 1\/kind = 2:=by
    by_cases hh : kind = 1\/kind = 2\/kind = 3
    ·omega
    ·rw [if_neg hh,if_neg h4] at hp; simp at hp
   cases hu : shUpd ps kind key
   ·have ha : shAns ps kind key spans = {}:=by simp [shAns,h4,h3,hu]
    rw [ha];refine (does_not h kind key value _ hsm hk ?_).mono ?_
    ·rcases hk with rfl | rfl
     ·simpa [shUpd] using hu
     ·simpa [shUpd] using hu
    ·rintro r w1 ⟨rfl,hF⟩;exact ⟨none,0,0,rfl,⟨fun hh=>(by rw [hu] at hh; exact nomatch hh),fun _=>by rw [ha]; exact OwnLists.none hF⟩⟩
   ·rcases hk with rfl | rfl
    ·have ha : shAns ps 1 key spans = { did:=true,value:=0 }:=by simp [shAns,hu]
     have hn : shNew ps 1 key value = shPut ps key value:=by simp [shNew,hu]
     rw [ha];refine (does_put h key value _ hsm (by simpa [shUpd] using hu)).mono ?_;rintro r w1 ⟨rfl,hF,hS⟩;exact ⟨none,0,0,rfl,⟨fun _=>⟨rfl,hF,by rw [hn]; exact hS⟩,fun hh=>(by rw [hu] at hh; exact nomatch hh)⟩⟩
    ·have ha : shAns ps 2 key spans = { did:=true,value:=(shVal ps key).1 }:=by simp [shAns,hu]
     have hn : shNew ps 2 key value = shDel ps key:=by simp [shNew,hu]
     rw [ha];refine (does_del h key value _ hsm (by simpa [shUpd] using hu)).mono ?_;rintro r w1 ⟨rfl,hF,hS⟩;exact ⟨none,0,0,rfl,⟨fun _=>⟨rfl,hF,by rw [hn]; exact hS⟩,fun hh=>(by rw [hu] at hh; exact nomatch hh)⟩⟩
end
structure AlAt (own : Own) (z : Nat) (w : World) (pb sb ub : Nat) (D : PlD) (ps : List (Int × Int)) (n e cl : Int) : Prop where
 pl : PlAt own z w pb D
 sh : ∃ a c,ShAt w sb a c ps/\∀ g,a = some ⟨g,0,none⟩->g < w.heap.size/\own g = ⟨z + 2,.lists⟩
 pu : PuAt w ub n e cl
 ts : own sb = ⟨z + 2,.store⟩
 tu : own ub = ⟨z + 3,.store⟩
def FrA (own : Own) (z : Nat) (w w' : World) : Prop:=Fr (fun k=>z<=(own k).z/\(own k).z<=z + 3) w w'
section
variable {own own1 : Own} {z : Nat} {w w1 w2 : World} {pb sb ub : Nat} {D : PlD} {ps : List (Int × Int)} {n e cl : Int}
theorem FrA.trans (h : FrA own z w w1) (he : Ext own own1 w) (k : FrA own1 z w1 w2) : FrA own z w w2 :=
 Fr.transNew h k (fun i hi=>by
  by_cases hlt : i < w.heap.size
  ·left; rw [<- he i hlt]; exact hi
  ·right; omega)
theorem FrP.fra (h : FrP own z w w1) : FrA own z w w1:=Fr.mono h (fun k _ hk=>by rcases hk with hk | ⟨hk,_⟩ <;> rw [hk] <;> omega)
theorem ShAt.keepS {S : Nat->Prop} {a : Option Addr} {c : Nat} (h : ShAt w sb a c ps) (hf : Fr S w w1) (h1 : ¬ S sb) (h2 : ∀ g,a = some ⟨g,0,none⟩->¬ S g) : ShAt w1 sb a c ps:=⟨hf.at h.1 h1,PairsAt.keepS h.2 hf h2⟩
theorem AlAt.player (h : AlAt own z w pb sb ub D ps n e cl) {D1 : PlD} (hp : PlAt own1 z w1 pb D1) (he : Ext own own1 w) (hf : FrP own z w w1) : AlAt own1 z w1 pb sb ub D1 ps n e cl:=by
 obtain ⟨a,c,hs,ht⟩:=h.sh;have hn : ∀ k tag y,own k = ⟨z + 2 + y,tag⟩->¬ ((own k).z = z\/((own k).z = z + 1/\own k≠⟨z + 1,.oth 5⟩)):=by
  intro k tag y hk hh;rw [hk] at hh;simp at hh;omega
 refine ⟨hp,?_,hf.at h.pu (hn _ _ 1 h.tu),by rw [he _ hs.1.lt]; exact h.ts,by rw [he _ (At.lt h.pu)]; exact h.tu⟩;exact ⟨a,c,hs.keepS hf (hn _ _ 0 h.ts) (fun g hg=>hn _ _ 0 (ht g hg).2),fun g hg=>⟨Nat.lt_of_lt_of_le (ht g hg).1 hf.size,by rw [he g (ht g hg).1]; exact (ht g hg).2⟩⟩
theorem AlAt.after (h : AlAt own z w pb sb ub D ps n e cl) (hF : Fr (fun k=>k = sb\/k = ub) w w1) {a : Option Addr} {c : Nat} {ps' : List (Int × Int)} {n' e' cl' : Int} (hS : ShAt w1 sb a c ps') (hU : PuAt w1 ub n' e' cl') (hg : ∀ g,a = some ⟨g,0,none⟩->(w.heap.size<=g/\g < w1.heap.size)\/(g < w.heap.size/\own g = ⟨z + 2,.lists⟩)) :
  ∃ own',AlAt own' z w1 pb sb ub D ps' n' e' cl'/\Ext own own' w/\FrA own z w w1:=by
 obtain ⟨a0,c0,hs,_⟩:=h.sh;have hsl:=hs.1.lt;have hul:=At.lt h.pu;obtain ⟨own',ho⟩ : ∃ own' : Own,own' = fun k=>if k < w.heap.size then own k else ⟨z + 2,.lists⟩:=⟨_,rfl⟩
 have hE : Ext own own' w:=fun k hk=>by rw [ho]; simp [hk]
 refine ⟨own',⟨h.pl.fr hF hE ?_,⟨a,c,hS,?_⟩,hU,by rw [hE _ hsl]; exact h.ts,by rw [hE _ hul]; exact h.tu⟩,hE,Fr.mono hF ?_⟩
 ·rintro k hk (rfl | rfl)
  ·rw [h.ts] at hk; simp at hk
  ·rw [h.tu] at hk; simp at hk
 ·intro g hgg;rcases hg g hgg with ⟨h1,h2⟩ | ⟨h1,h2⟩
  ·exact ⟨h2,by rw [ho]; simp [Nat.not_lt.2 h1]⟩
  ·exact ⟨Nat.lt_of_lt_of_le h1 hF.size,by rw [hE g h1]; exact h2⟩
 ·rintro k _ (rfl | rfl)
  ·rw [h.ts]; simp
  ·rw [h.tu]; simp
end
end
section
open Go.RowKit
def PlD.begun (D : PlD) (i : Nat) (t : PThread) (o : OpV) : PSt:=D.P.setT i { t with busy:=true,work:=newWork o.kind o.key o.value o.spans }
structure Loned (D : PlD) (i m : Nat) (P1 : PSt) (D' : PlD) : Prop where
 P : D'.P = P1.iter i (m + 1)
 N : D'.N = D.N + m + 1
 cfg : D'.k = D.k/\D'.t = D.t/\D'.n = D.n/\D'.e = D.e/\D'.l = D.l
 bs : D'.bs = D.bs
 deeds : D'.deeds.length = D.deeds.length + 1
 cnt : D.puts<=D'.puts/\D'.puts<=D.puts + 1/\D.takes<=D'.takes/\D'.takes<=D.takes + 1
section
variable {own : Own} {z : Nat} {w w1 w2 : World} {pb sb ub : Nat} {D D1 D2 : PlD} {ps : List (Int × Int)} {n e cl : Int} {i : Nat} {t : PThread}
theorem set_back {l : List Bool} {i : Nat} {b c : Bool} (h : l[i]? = some b) : (l.set i c).set i b = l:=by
 rw [List.set_set];apply List.ext_getElem?;intro j;by_cases hj : i = j
 ·subst hj; rw [List.getElem?_set_self (List.getElem?_eq_some_iff.1 h).1]; exact h.symm
 ·rw [List.getElem?_set_ne hj]
theorem Loned.of {o : OpV} {m : Nat} (hB : Begun D i t o D1) (htb : t.busy = false) (hp : properB o.kind o.key o.spans = true) (hb : D.bs[i]? = some false) (hS : Soloed D1 i m D2) : Loned D i m (D.begun i t o) D2:=by
 obtain ⟨y1,y2,y3,y4,y5,y6⟩:=hB.yes htb hp;have hc1:=hB.cfg;have hc2:=hS.cfg;obtain ⟨av,o',f,q1,q2,q3⟩:=hS.deeds;refine ⟨by rw [hS.P,y1]; rfl,by rw [hS.N,hB.N],?_,?_,?_,?_⟩
 ·exact ⟨hc2.1.trans hc1.1,hc2.2.1.trans hc1.2.1,hc2.2.2.1.trans hc1.2.2.1,hc2.2.2.2.1.trans hc1.2.2.2.1,hc2.2.2.2.2.trans hc1.2.2.2.2⟩
 ·rw [hS.bs,y2,set_back hb]
 ·rw [q3,hB.deeds]; simp
 ·rw [hS.same.2.2.1,hS.same.2.2.2,y5,y6];split <;> split <;> omega
theorem PlAt.lastDeed (h : PlAt own z w pb D) {l : List DeedV} {d : DeedV} (hd : D.deeds = l ++ [d]) : ∃ g c,D.dv = .slice (some ⟨g,0,none⟩) (l.length + 1) c/\∀ q v,d.cells[q]? = some v->w.cell? ⟨g,l.length * 10 + q,none⟩ = some v:=by
 have hr:=h.deeds.row;rw [hd] at hr;obtain ⟨g,c,hv,_⟩:=ownsRow_shape hr (by simp);rw [hv] at hr;refine ⟨g,c,by rw [hv]; simp,?_⟩;intro q v hq;refine ownsRow_cell hr ?_
 have:=tab_get DeedV.cells 10 (fun _=>rfl) (l ++ [d]) l.length q d (by simp) (by have:=(List.getElem?_eq_some_iff.1 hq).1; exact this)
 rw [this]; exact hq
theorem lone_off (h : PlAt own z w pb D) (hok : D.ok) (ht : D.P.ts[i]? = some t) (htb : t.busy = false) (kd ky va : Int) (sp : List (Int × Int)) (sa : Option Addr) (sc : Nat) (ho : OpOk own (z + 1) w ⟨kd,ky,va,sp,.slice sa sp.length sc⟩) (hsl : sp.length<=2 ^ 40) (hc : D.puts<=2 ^ 40/\0<=D.puts/\D.takes<=2 ^ 40/\0<=D.takes) (hp : properB kd ky sp = false) :
  Calls Tryz.prog 22 #[pv pb,pv sb,pv ub,.int .i64 i,opVal kd ky va (.slice sa sp.length sc)] w fun r w'=>r = .returned (.bool true)/\PlGoes own z w pb w' (fun D'=>Begun D i t ⟨kd,ky,va,sp,.slice sa sp.length sc⟩ D'):=by
 have hi:=(List.getElem?_eq_some_iff.1 ht).1;have hfew:=h.fit.thr;have hE0 : Ext own (own.put w.heap.size (z + 7) .store) w:=Ext.put (Nat.le_refl _) _ _;have hf0 : Fr (fun _=>False) w (w.alloc (.cells #[.int .i64 kd,.int .i64 ky,.int .i64 va,.slice sa sp.length sc] 53)):=(Fr.refl _ _).alloc _;have HB:=(mkH (Calls _ _ _ _ _) <|Pbegins_calls (h.fr hf0 hE0 (fun _ _ h=>h)) hok ht kd ky va sp sa sc (ho.fr hf0 hE0 (fun _ _ h=>h)) hsl hc);have HX:=(mkH (Ext own _ w/\FrP own z w _) <|⟨hE0,Fr.mono hf0 (fun _ _ h=>h.elim)⟩);have HBs : Hid (D.bs[i]? = some false):=by
  show _ = _;rw [hok,List.getElem?_map,ht]; simp [htb]
 have HPr:=(mkH (properB kd ky sp = false) <|hp);clear h hok ho ht htb hE0 hf0 hp;unfold pv opVal at *
 go_enter Tryz.func22,Tryz.ntmps22
 go_wp2_with fail;refine Calls.mono HB.out ?_;rintro r w1 ⟨rfl,own1,D1,hP,hE,hF,hG⟩;have hbs : D1.bs[i]? = some false:=by rw [(hG.no (.inr HPr.out)).2.1]; exact HBs.out
 obtain ⟨g,c,hv,hbc,hz,hg,hgl⟩:=hP.busyRow hbs;have hl1 : D1.P.ts.length = D.P.ts.length:=by rw [(hG.no (.inr HPr.out)).1]
 rw [hl1] at hv;have ha:=hP.at_.cell;simp only [PlD.cells,hv,pv] at ha;have HG:=(mkH (PlGoes own z w pb w1 (fun D'=>Begun D i t ⟨kd,ky,va,sp,.slice sa sp.length sc⟩ D')) <|PlGoes.trans HX.out.1 HX.out.2 ⟨own1,D1,hP,hE,hF,hG⟩);clear hP hE hF hG hz hg hv HB HX hl1;go_wp2;go_ret;exact ⟨rfl,HG.out⟩
end
end
end Go.Proofs.YtfccelbmacjifabGreat
