import Derived.Test.YtfccelbmacjifabGreatP0
import Derived.Test.YtfccelbmacjifabGreatP15
import Derived.Test.YtfccelbmacjifabGreatP2
set_option linter.unusedSimpArgs false
set_option maxRecDepth 100000
set_option maxHeartbeats 4000000
namespace Go.Proofs.YtfccelbmacjifabGreat
section
open Go.RowKit
def actVal (a : ActD) : Value:=.agg #[.int .i64 a.kd,.int .i64 a.tt,.int .i64 a.o,.int .i64 a.ky,.int .i64 a.v,.int .i64 a.m,.slice a.sa a.sn a.sc]
theorem Spans.cells {w : World} {sa : Option Addr} {n : Nat} {ps : List (Int × Int)} (h : Spans w sa n ps) {k : Nat} {x : Int × Int} (hx : ps[k]? = some x) :
  ∃ b off,sa = some ⟨b,off,none⟩/\w.cell? ⟨b,off + k * 2,none⟩ = some (.int .i64 x.1)/\w.cell? ⟨b,off + k * 2 + 1,none⟩ = some (.int .i64 x.2):=by
 have hk:=(List.getElem?_eq_some_iff.1 hx).1;obtain ⟨hl,hp⟩:=h;obtain ⟨⟨b,off,s⟩,rfl,hc⟩:=hp (by omega);have g0:=tab_get spanCells 2 (fun _=>rfl) ps k 0 x hx (by omega);have g1:=tab_get spanCells 2 (fun _=>rfl) ps k 1 x hx (by omega);have c0:=hc (k * 2 + 0) _ (g0.trans rfl);have c1:=hc (k * 2 + 1) _ (g1.trans rfl);have hs : s = none:=by
  have h0 : ps[0]? = some ps[0]:=List.getElem?_eq_getElem (by omega);have z0:=tab_get spanCells 2 (fun _=>rfl) ps 0 0 _ h0 (by omega);have c00:=hc (0 * 2 + 0) _ (z0.trans rfl);simpa [Addr.add] using World.cell?_spot c00
 subst hs;rw [Addr.add_lit] at c0 c1;exact ⟨b,off,rfl,by simpa using c0,by rw [Nat.add_assoc]; exact c1⟩
theorem Spans.keep {w w' : World} {sa : Option Addr} {n : Nat} {ps : List (Int × Int)} (h : Spans w sa n ps) (hf : Fr (fun _=>False) w w') : Spans w' sa n ps :=
 ⟨h.1,fun h0=>let ⟨ad,e,hc⟩:=h.2 h0; ⟨ad,e,fun j v hj=>hf.keepCell (hc j v hj)⟩⟩
theorem opOf_calls (a : ActD) (w : World) (hP : Spans w a.sa a.sn a.ps) (hsn : a.sn<=2 ^ 20) :
  Calls Tryz.prog 21 #[actVal a] w fun e w'=>∃ va vc,e = .returned (opVal a.o a.ky a.v (.slice va a.ps.length vc))/\OwnSpans w w' (.slice va a.ps.length vc) a.ps:=by
 obtain ⟨kd,tt,o,ky,v,m,sa,sn,sc,ps⟩:=a;simp only at hP hsn ⊢;obtain rfl : ps.length = sn:=hP.1;obtain ⟨iP,hiP,hzP,hsP,hbP⟩:=info_parts Tryz.infoSn;have HP:=(mkH (Spans w sa ps.length ps) <|hP);clear hP;simp only [actVal]
 go_enter Tryz.func21,Tryz.ntmps21
 go_wp2_with fail;generalize hw1 : World.alloc (World.alloc (World.alloc w _) _) _ = w1;have HO:=(mkH (At w1 w.heap.size [.int .i64 kd,.int .i64 tt,.int .i64 o,.int .i64 ky,.int .i64 v,.int .i64 m,.slice sa ps.length sc] 29) <|by subst hw1; exact ((At.new w _ _).alloc _).alloc _);have HR:=(mkH (At w1 (w.heap.size + 1) [.int .i64 0,.int .i64 0,.int .i64 0,.slice none 0 0] 53) <|by subst hw1; exact (At.newAt (by simp) _ _).alloc _);have HV:=(mkH (At w1 (w.heap.size + 2) [.int .i64 o,.int .i64 ky,.int .i64 v,.slice none 0 0] 53) <|by subst hw1; exact At.newAt (by simp) _ _);have HFF:=(mkH (Fr (fun _=>False) w w1) <|by subst hw1; exact (((Fr.refl _ _).alloc _).alloc _).alloc _);clear hw1
 go_loopw [4] (fun i wr=>∃ k : Nat,k<=ps.length/\i = .int .i64 k/\∃ va vn vc,Hid (OwnSpans w wr (.slice va vn vc) (ps.take k))/\Hid (At wr (w.heap.size + 2) [.int .i64 o,.int .i64 ky,.int .i64 v,.slice va vn vc] 53)/\Hid (At wr w.heap.size [.int .i64 kd,.int .i64 tt,.int .i64 o,.int .i64 ky,.int .i64 v,.int .i64 m,.slice sa ps.length sc] 29)/\Hid (At wr (w.heap.size + 1) [.int .i64 0,.int .i64 0,.int .i64 0,.slice none 0 0] 53)) (fun i _=>ps.length - (intOf i).toNat)
 case atStart =>
  refine ⟨0,Nat.zero_le _,rfl,none,0,0,⟨⟨by simp,.inl ⟨rfl,rfl⟩⟩,by intro k hk; simp [Value.ownBlock] at hk,HFF.out⟩,HV,HO,HR⟩
 case round =>
  clear HO HR HV HFF;obtain ⟨k,hk,rfl,va,vn,vc,HS,HV,HO,HR⟩:=hrel;have ho:=HO.out.cell;have hv:=HV.out.cell;have hvz:=HV.out.frozen;by_cases hlt : k < ps.length
  ·have hx : Hid (ps[k]? = some ps[k]):=List.getElem?_eq_getElem hlt;generalize ps[k] = x at hx;obtain ⟨g,off,rfl,c0,c1⟩:=(HP.out.keep HS.out.fr).cells hx.out;have HN : Hid (ps.take (k + 1) = ps.take k ++ [x]):=by show _ = _; rw [List.take_add_one,hx.out]; rfl
   have hkl : (ps.take k).length = k:=by rw [List.length_take]; omega
   go_wp2_with fail;have hrow:=HS.out.row;obtain ⟨ra,rc,hrv⟩:=ownsShape hrow;obtain ⟨rfl,rfl,rfl⟩ : va = ra/\vn = (ps.take k).length/\vc = rc:=by simpa using hrv
   rw [hkl] at HS HV hv hrow;have hrow1 : (wr.drew.alloc (.cells #[.int .i64 x.1,.int .i64 x.2] 81)).ownsRow 0 81 2 (.slice va k vc) k ((ps.take k).flatMap pairCells):=ownsRow_alloc (World.ownsRow.drew hrow) _;obtain ⟨g',gcap,w3,hown,hg,hge,hrun⟩:=push_runs (P:=Tryz.prog) (wr.drew.alloc (.cells #[.int .i64 x.1,.int .i64 x.2] 81)) 27 27 0 81 iP (.agg #[.int .i64 0,.int .i64 0]) 2 16 Tryz.underlying27 hiP hzP hsP hbP rfl (by decide) _ _ _ hrow1
    wr.heap.size [.int .i64 x.1,.int .i64 x.2] rfl 81 (At.newAt rfl _ _) (by simp [Value.oneCell']) (by unfold maxLen; omega) (by omega) (by simp)
   have HV3:=(mkH (At w3 (w.heap.size + 2) _ _) <|((HV.out.drew).alloc _).grown hg (HV.out.ne_row hrow (by decide)));have HO3:=(mkH (At w3 w.heap.size _ _) <|((HO.out.drew).alloc _).grown hg (HO.out.ne_row hrow (by decide)));have HR3:=(mkH (At w3 (w.heap.size + 1) _ _) <|((HR.out.drew).alloc _).grown hg (HR.out.ne_row hrow (by decide)));have HRun:=(mkH (∀ (o : Oper) (a : Act) (s x : Operand),_) <|hrun);have HOwn:=(mkH (w3.ownsRow 0 _ _ _ _ _) <|hown);have HG:=(mkH (World.grownBy _ w3 _) <|hg);have HGe:=(mkH (_\/_) <|hge);have HC:=(mkH (wr.cell? ⟨g,off + k * 2,none⟩ = some (.int .i64 x.1)/\wr.cell? ⟨g,off + k * 2 + 1,none⟩ = some (.int .i64 x.2)) <|⟨c0,c1⟩);clear hrun hown hg hge hrow1 hrow hrv ho hv hvz c0 c1;refine wp_region_mix [7,8,10] (fun k'=>match k' with | 0=>wr.drew | 1=>wr.drew.alloc (.cells #[.int .i64 x.1,.int .i64 x.2] 81) | 2=>w3 | _=>w3.setCell ⟨w.heap.size + 2,3,none⟩ (.slice (some ⟨g',0,none⟩) (k + 1) gcap)) 2 rfl (by kernel_rfl) (by kernel_rfl) (by kernel_rfl) (by decide) (by kernel_rfl) (by kernel_rfl) (by decide) rfl ?_;intro W hW;have hF3 : Fr (fun j=>(Value.slice va k vc).ownBlock = some j) wr w3:=((((Fr.refl _ _).drew).alloc _).grown HG.out (fun k hk=>.inl hk));have hgn : ¬ (Value.slice va k vc).ownBlock = some g:=by
    intro e;have h1:=HS.out.new g e;obtain ⟨g2,off2,e2,c2,_⟩:=HP.out.cells hx.out
    have:=cellLt c2
    simp at e2;simp only [<- e2.1] at this;omega
   have cu : ∀ u q val,wr.cell? ⟨g,q,none⟩ = some val->(W u).cell? ⟨g,q,none⟩ = some val:=by
    intro u q val hq;obtain ⟨k',hk',he⟩:=hW u;rw [he];rcases (show k' = 0\/k' = 1\/k' = 2 by omega) with rfl | rfl | rfl
    ·exact ((Fr.refl _ _).drew).keepCell hq
    ·exact (((Fr.refl _ _).drew).alloc _).keepCell hq
    ·exact hF3.keepCellS hq hgn
   have c0 : ∀ u,(W u).cell? ⟨g,off + k * 2,none⟩ = some (.int .i64 x.1):=fun u=>cu u _ _ HC.out.1
   have c1 : ∀ u,(W u).cell? ⟨g,off + k * 2 + 1,none⟩ = some (.int .i64 x.2):=fun u=>cu u _ _ HC.out.2
   have hv : ∀ u q,(W u).cell? ⟨w.heap.size + 2,q,none⟩ = [Value.int .i64 o,.int .i64 ky,.int .i64 v,.slice va k vc][q]?:=by
    intro u;obtain ⟨k',hk',he⟩:=hW u;rw [he];rcases (show k' = 0\/k' = 1\/k' = 2 by omega) with rfl | rfl | rfl
    ·exact HV.out.drew.cell
    ·exact (HV.out.drew.alloc _).cell
    ·exact HV3.out.cell
   have ho : ∀ u q,(W u).cell? ⟨w.heap.size,q,none⟩ = [Value.int .i64 kd,.int .i64 tt,.int .i64 o,.int .i64 ky,.int .i64 v,.int .i64 m,.slice (some ⟨g,off,none⟩) ps.length sc][q]?:=by
    intro u;obtain ⟨k',hk',he⟩:=hW u;rw [he];rcases (show k' = 0\/k' = 1\/k' = 2 by omega) with rfl | rfl | rfl
    ·exact HO.out.drew.cell
    ·exact (HO.out.drew.alloc _).cell
    ·exact HO3.out.cell
   have hc3:=HV3.out.cell;have hz3:=HV3.out.frozen;have HF3:=(mkH (Fr _ wr w3) <|hF3);clear hW hF3 hgn cu
   repeat (refine mix_read rfl rfl ?_; go_big_quiet_step (fail); refine wpQuiet_nil ?_)
   refine mix_eff (v:=.slice (some ⟨wr.heap.size,0,none⟩) 1 1) rfl rfl rfl ?_ ?_
   ·go_simp;exact ⟨rfl,rfl⟩
   refine mix_eff rfl rfl rfl (HRun.out _ _ _ _ rfl rfl rfl rfl) ?_;go_simp
   repeat (refine mix_read rfl rfl ?_; go_big_quiet_step (fail); refine wpQuiet_nil ?_)
   refine mix_eff (v:=undef) rfl rfl rfl ?_ ?_
   ·go_simp;exact ⟨rfl,rfl⟩
   refine mix_nil ?_;go_simp;clear c0 c1 hv ho hc3 hz3;have hS4 : OwnSpans w w3 (.slice (some ⟨g',0,none⟩) (k + 1) gcap) (ps.take (k + 1)):=by
    rw [HN.out];refine ⟨by rw [List.length_append,hkl]; simpa [pairCells] using HOwn.out,?_,Fr.transNew HS.out.fr HF3.out (fun j hj=>.inr (HS.out.new j hj))⟩;intro q hq;simp [Value.ownBlock] at hq;subst hq;rcases HGe.out with h | h
    ·exact HS.out.new _ h
    ·have:=HS.out.fr.size
     simp at h; omega
   have HS4 : Hid (OwnSpans w (w3.setCell ⟨w.heap.size + 2,3,none⟩ (.slice (some ⟨g',0,none⟩) (k + 1) gcap)) (.slice (some ⟨g',0,none⟩) (k + 1) gcap) (ps.take (k + 1))) :=
    ⟨ownsRow_setOther hS4.row (a:=⟨w.heap.size + 2,3,none⟩) (HV3.out.ne_row hS4.row (by decide)) _,hS4.new,Fr.setNew (by omega) hS4.fr _ _⟩
   clear hS4;go_wp2
   go_roundw
   case rel=>exact ⟨k + 1,by omega,by go_num,some ⟨g',0,none⟩,k + 1,gcap,HS4,HV3.out.set 3 _,HO3.out.setOther _ (by show w.heap.size≠w.heap.size + 2; omega) _,HR3.out.setOther _ (by show w.heap.size + 1≠w.heap.size + 2; omega) _⟩
   case measure=>simp [intOf]; omega
  ·have hke : k = ps.length:=by omega
   subst hke;rw [List.take_length] at HS;obtain ⟨ra,rc,hrv⟩:=ownsShape HS.out.row;obtain ⟨rfl,rfl,rfl⟩ : va = ra/\vn = ps.length/\vc = rc:=by simpa using hrv
   have hR:=HR.out.cell;have hRz:=HR.out.frozen;have hA0:=HR.out.set 0 (.int .i64 o);have hA1:=hA0.set 1 (.int .i64 ky);have hA2:=hA1.set 2 (.int .i64 v);have f0:=(hA2.set 3 (.slice va ps.length vc)).cell;have HZ:=(mkH (OwnSpans w _ (.slice va ps.length vc) ps) <|by
    refine ⟨?_,HS.out.new,Fr.setNew (b:=w.heap.size + 1) (by omega) (Fr.setNew (b:=w.heap.size + 1) (by omega) (Fr.setNew (b:=w.heap.size + 1) (by omega) (Fr.setNew (b:=w.heap.size + 1) (by omega) HS.out.fr 0 (.int .i64 o)) 1 (.int .i64 ky)) 2 (.int .i64 v)) 3 (.slice va ps.length vc)⟩;have hne:=HR.out.ne_row HS.out.row (by decide);exact ownsRow_setOther (ownsRow_setOther (ownsRow_setOther (ownsRow_setOther HS.out.row hne _) hne _) hne _) hne _)
   clear hA0 hA1 hA2 hrv;go_wp2;refine bodyPost_ret (v:=opVal o ky v (.slice va ps.length vc)) (by simp [results,Tryz.results21,go_sem,opVal,f0]) rfl ⟨va,vc,rfl,HZ.out⟩
end
section
open Go.ChangeShapes Go.WideShapes Go.ChangeAt Go.RowKit Go.Joins Go.Deep
theorem array7 {α : Type} {l : Array α} (h : l.size = 7) : ∃ a b c d e f g,l = #[a,b,c,d,e,f,g]:=by
 obtain ⟨l⟩:=l;obtain ⟨a,b,c,d,e,f,g,rfl⟩:=list7 (l:=l) h;exact ⟨a,b,c,d,e,f,g,rfl⟩
section
variable {H : Type} {enc : TypeId × Value->H} {P : Program} {w : World} {base : Nat} {spare : Nat->Bool} {held : Bool} {B : DataW H->Nat}
theorem act_one {tA tL tP ti : TypeId} {f0 f1 f2 f3 f4 f5 f6 g0 g1 : Field} {fuel : Nat} {c0 c1 c2 c3 c4 c5 c6 : Value} {x : DataW H × List MemPlace} (hA : P.underlying tA = some (.struct #[f0,f1,f2,f3,f4,f5,f6]))
  (o0 : f0.offset = 0) (o1 : f1.offset = 1) (o2 : f2.offset = 2) (o3 : f3.offset = 3) (o4 : f4.offset = 4) (o5 : f5.offset = 5) (o6 : f6.offset = 6)
  (t0 : f0.type = ti) (t1 : f1.type = ti) (t2 : f2.type = ti) (t3 : f3.type = ti) (t4 : f4.type = ti) (t5 : f5.type = ti) (t6 : f6.type = tL) (ci : P.cellsOf ti = 1) (hi : P.underlying ti = some (.int .i64)) (cL : P.cellsOf tL = 1)
  (hL : P.underlying tL = some (.slice tP)) (hP : P.underlying tP = some (.struct #[g0,g1])) (cP : P.cellsOf tP = 2) (q0 : g0.offset = 0) (q1 : g1.offset = 1) (s0 : g0.type = ti) (s1 : g1.type = ti)
  (hB : ∀ elems sp,elems.length<=B (.slice elems sp)) (hG : ∀ parts d,d ∈ parts->B d<=B (.agg parts))
  (h : DataW.trod enc P w base spare held fuel tA [c0,c1,c2,c3,c4,c5,c6] = some x) :
  ∃ a : ActD,[c0,c1,c2,c3,c4,c5,c6] = actCells a/\Spans w a.sa a.sn a.ps/\a.sn<=B x.1:=by
 obtain ⟨xs,k,_,hxy,_,hxl,hf⟩:=DataW.trod_struct hA h;obtain ⟨y0,y1,y2,y3,y4,y5,y6,rfl⟩:=list7 (l:=xs) hxl;have k0:=hf 0 f0 rfl;have k1:=hf 1 f1 rfl;have k2:=hf 2 f2 rfl;have k3:=hf 3 f3 rfl;have k4:=hf 4 f4 rfl;have k5:=hf 5 f5 rfl;have k6:=hf 6 f6 rfl;simp only [o0,o1,o2,o3,o4,o5,o6,t0,t1,t2,t3,t4,t5,t6,ci,cL] at k0 k1 k2 k3 k4 k5 k6;simp at k0 k1 k2 k3 k4 k5 k6;obtain ⟨a0,e0,_,_⟩:=DataW.trod_int hi k0;obtain ⟨a1,e1,_,_⟩:=DataW.trod_int hi k1;obtain ⟨a2,e2,_,_⟩:=DataW.trod_int hi k2;obtain ⟨a3,e3,_,_⟩:=DataW.trod_int hi k3;obtain ⟨a4,e4,_,_⟩:=DataW.trod_int hi k4;obtain ⟨a5,e5,_,_⟩:=DataW.trod_int hi k5;obtain ⟨sa,sn,sc,ps,e6,hsn,hsp⟩:=spans_open hL hP cP q0 q1 s0 s1 ci hi hB k6;simp at e0 e1 e2 e3 e4 e5 e6;subst e0 e1 e2 e3 e4 e5 e6;have hd : B y6.1<=B x.1:=by
  have hD : x.1 = .agg [y0.1,y1.1,y2.1,y3.1,y4.1,y5.1,y6.1]:=by
   have:=congrArg Prod.fst hxy
   simpa using this
  rw [hD]; exact hG _ _ (by simp)
 exact ⟨⟨a0,a1,a2,a3,a4,a5,sa,sn,sc,ps⟩,rfl,hsp,Nat.le_trans hsn hd⟩
end
theorem act_open {H : Type} {enc : TypeId × Value->H} {W : World} {r : Reach} {b0 base : Nat} {spare : Nat->Bool} {held : Bool} {v : Value} {d : DataW H} {p : List MemPlace}
  (hv : Value.okWide Tryz.prog W r b0 29 v) (h : DataW.Trod enc Tryz.prog W base spare held 29 v d p) : ∃ a : ActD,v = actVal a/\Spans W a.sa a.sn a.ps/\a.sn<=Rows.uptoBulk d:=by
 obtain ⟨cs,rfl,hsz⟩:=okWide_struct Tryz.underlying29 hv;obtain ⟨c0,c1,c2,c3,c4,c5,c6,rfl⟩:=array7 (hsz.trans Tryz.cellsAct);obtain ⟨fuel,hf⟩:=h;obtain ⟨a,e,h1,h2⟩:=act_one (B:=Rows.uptoBulk) (c0:=c0) (c1:=c1) (c2:=c2) (c3:=c3) (c4:=c4) (c5:=c5) (c6:=c6) Tryz.underlying29 rfl rfl rfl rfl rfl rfl rfl rfl rfl rfl rfl rfl rfl rfl Tryz.cellsInt Tryz.underlying3 Tryz.cellsSpans
  Tryz.underlying27 Tryz.underlying81 Tryz.cellsSpan rfl rfl rfl rfl
  (fun elems sp=>by have:=bulk_len elems; simp only [Rows.uptoBulk]; omega) (fun parts d hd=>by have:=bulk_part hd; simp only [Rows.uptoBulk]; omega) hf
 refine ⟨a,?_,h1,h2⟩;simp only [actCells,List.cons.injEq,and_true] at e;obtain ⟨rfl,rfl,rfl,rfl,rfl,rfl,rfl⟩:=e
 rfl
def FrozenHolds : Prop:=∀ (k t n e l : Int) (W : World) (sa sl : Option Addr) (c cl : Nat) (early late : List ActD) (rd : ActD),rawI t->rawI n->rawI e->rawI l->early.length<=2 ^ 20->late.length<=2 ^ 20->(∀ i a,early[i]? = some a->ActIn W sa i a/\a.sn<=2 ^ 20)->(∀ i a,late[i]? = some a->ActIn W sl i a/\a.sn<=2 ^ 20)->(Spans W rd.sa rd.sn rd.ps/\rd.sn<=2 ^ 20) ->
  Calls Tryz.prog 7 #[cfg k t n e l,.slice sa early.length c,actVal rd,.slice sl late.length cl] W fun r W'=>r = .returned (.bool true)/\Fr (fun _=>False) W W'
theorem tfrozen_contract (hany : FrozenHolds) (H : Type) (enc : TypeId × Value->H) (W : World) (base : Nat) (args : Array Value) (ds gs : List (DataW H)) (before : List MemPlace)
  (hval0 : ∀ (j : Nat) t v,Tryz.f7.params[j]? = some t->args[j]? = some v->Value.okWide Tryz.prog W .any base t v)
  (hW : DataW.Whole enc Tryz.prog Tryz.f7.params.toList Rows.treeFrozenSpec.vars false W args.toList ds gs before) (hk : Rows.uptoSmall H (ds ++ gs) = true) :
  Calls Tryz.prog 7 args W fun e W'=>∃ v,e = .returned v/\Rows.treeFrozenSpec.post enc Tryz.prog Tryz.f7 false true false false W args v W':=by
 have hval : ∀ (j : Nat) t v,Tryz.f7.params[j]? = some t->args[j]? = some v->Value.okWide Tryz.prog W .any base t v:=hval0;have hW':=hW;obtain ⟨p,q,hA0,hV,rfl,_,_⟩:=hW;have hA : DataW.TrodAll enc Tryz.prog W 0 (fun _=>true) true Tryz.f7.params.toList args.toList ds p:=hA0;rw [Tryz.params7] at hA hval;obtain ⟨v0,vs0,d0,ds0,p0,q0,hargs,rfl,rfl,h0,r0⟩:=trodAll_cons hA;obtain ⟨v1,vs1,d1,ds1,p1,q1,hargs1,rfl,rfl,h1,r1⟩:=trodAll_cons r0;obtain ⟨v2,vs2,d2,ds2,p2,q2,hargs2,rfl,rfl,h2,r2⟩:=trodAll_cons r1;obtain ⟨v3,vs3,d3,ds3,p3,q3,hargs3,rfl,rfl,h3,r3⟩:=trodAll_cons r2;obtain ⟨rfl,rfl,rfl⟩:=trodAll_nil r3;obtain rfl : args = #[v0,v1,v2,v3]:=by cases args; simp_all
 obtain ⟨rfl,rfl⟩:=trodVars_none hV;have k0:=h0;have k1:=h1;have k2:=h2;have k3:=h3;have lt0 : ∀ x ∈ p0,x.block < W.heap.size:=by obtain ⟨m,hm⟩:=k0; exact DataW.trod_lt m _ _ _ hm
 have lt1 : ∀ x ∈ p1,x.block < W.heap.size:=by obtain ⟨m,hm⟩:=k1; exact DataW.trod_lt m _ _ _ hm
 have lt2 : ∀ x ∈ p2,x.block < W.heap.size:=by obtain ⟨m,hm⟩:=k2; exact DataW.trod_lt m _ _ _ hm
 have lt3 : ∀ x ∈ p3,x.block < W.heap.size:=by obtain ⟨m,hm⟩:=k3; exact DataW.trod_lt m _ _ _ hm
 obtain ⟨k,t,n,e,l,rfl,rt,rn,re,rl⟩:=cfg_open (hval 0 23 v0 rfl rfl) h0;obtain ⟨sa,m,c,early,rfl,hm,hl,hacts⟩:=acts_open (hval 1 24 v1 rfl rfl) h1;obtain ⟨rd,rfl,hsp,hsn⟩:=act_open (hval 2 29 v2 rfl rfl) h2;obtain ⟨sl,m',c',late,rfl,hm',hl',hacts'⟩:=acts_open (hval 3 24 v3 rfl rfl) h3;have hb : Rows.uptoBulk d1<=2 ^ 20/\Rows.uptoBulk d2<=2 ^ 20/\Rows.uptoBulk d3<=2 ^ 20:=by
  have h : Rows.uptoBulkAll ([d0,d1,d2,d3] ++ [])<=1048576:=of_decide_eq_true hk;simp only [List.cons_append,List.nil_append,Rows.uptoBulkAll] at h;omega
 clear hA0 hval0;subst hl hl';refine (hany k t n e l W sa sl c c' early late rd rt rn re rl (Nat.le_trans hm hb.1) (Nat.le_trans hm' hb.2.2) (fun i a ha=>⟨(hacts i a ha).1,Nat.le_trans (hacts i a ha).2 hb.1⟩) (fun i a ha=>⟨(hacts' i a ha).1,Nat.le_trans (hacts' i a ha).2 hb.2.2⟩) ⟨hsp,Nat.le_trans hsn hb.2.1⟩).mono fun r W' ⟨he,hf⟩=>?_
 subst he;have bel : Below W.heap.size W W':=hf.below (fun _ _ h=>h);exact ⟨_,rfl,_,_,_,[],_,[],hW',trodAll_mk1 (shut_bool Tryz.underlying4 _),trodAll_cons_mk (Below.trod Tryz.laidOut (by kernel_rfl) (of_decide_eq_true (by kernel_rfl)) k0 bel lt0) (trodAll_cons_mk (Below.trod Tryz.laidOut (by kernel_rfl) (of_decide_eq_true (by kernel_rfl)) k1 bel lt1) (trodAll_cons_mk (Below.trod Tryz.laidOut (by kernel_rfl) (of_decide_eq_true (by kernel_rfl)) k2 bel lt2) (trodAll_cons_mk (Below.trod Tryz.laidOut (by kernel_rfl) (of_decide_eq_true (by kernel_rfl)) k3 bel lt3) trodAll_mk0))),rfl,bel.frame _,fun h=>by cases h⟩
theorem tfrozen_lifted (hany : FrozenHolds) (os : Os) (started : os.Started) (H : Type) (enc : TypeId × Value->H) (F : Stop.Interp) :
  ReturnsInHanded {} Tryz.checked os 7 .any ((Rows.OpenSpec.upto Rows.treeFrozenSpec).pre6 enc Tryz.prog Tryz.f7 Rows.treeFrozenUptoRow.domain false) (((Rows.OpenSpec.upto Rows.treeFrozenSpec).at F).post enc Tryz.prog Tryz.f7 false true false false):=by
 refine returnsInHanded_of_cond (C:=Tryz.checked) (s:=Rows.OpenSpec.upto Rows.treeFrozenSpec) (k:=Rows.uptoSmall) rfl Tryz.own started (by kernel_rfl) Tryz.func7
  (OpenSpec.witness (enc:=enc) (C:=Tryz.checked) (s:=Rows.OpenSpec.upto Rows.treeFrozenSpec) (k:=Rows.uptoSmall) rfl false ⟨#[],#[.agg #[.int .i64 0,.int .i64 0,.int .i64 0,.int .i64 0,.int .i64 0],.slice none 0 0,.agg #[.int .i64 0,.int .i64 0,.int .i64 0,.int .i64 0,.int .i64 0,.int .i64 0,.slice none 0 0],.slice none 0 0],[]⟩ 8 (by kernel_rfl) (by kernel_rfl) (by kernel_rfl)
   (x:=([.agg [.lit (.int .i64 0),.lit (.int .i64 0),.lit (.int .i64 0),.lit (.int .i64 0),.lit (.int .i64 0)],.nil,.agg [.lit (.int .i64 0),.lit (.int .i64 0),.lit (.int .i64 0),.lit (.int .i64 0),.lit (.int .i64 0),.lit (.int .i64 0),.nil],.nil],[],[])) (by kernel_rfl) rfl (by kernel_rfl)) ?_
 intro W base args ds gs before hval hW _ hk _;exact tfrozen_contract hany H enc W base args ds gs before hval hW hk
theorem tfrozen_frame (hany : FrozenHolds) : Rows.TreeFrozenUptoSaid :=
 OpenClaim.holds_of_cond 7 Tryz.f7 rfl rfl rfl rfl rfl rfl rfl ⟨rfl,rfl,rfl,rfl,rfl⟩ rfl rfl rfl rfl rfl (by kernel_rfl) Tryz.func7 (by kernel_rfl)
  (of_decide_eq_true (by kernel_rfl)) (by unfold Func.isWrapper; first | (rw [if_pos (by decide +kernel)]; kernel_rfl) | (rw [if_neg (by decide +kernel)]; exact ⟨rfl,rfl⟩))
  (fun os started H enc _ F=>tfrozen_lifted hany os started H enc F)
end
section
def Pd (M : PMem) (x : Int) : List Int:=(M.es.filter (isPd x false)).map PEntry.dst
def Sd (M : PMem) (x s d : Int) : Prop:=∃ e ∈ M.es,isSt x false e = true/\e.stamp = s/\e.dst = d
structure Wm (M : PMem) : Prop where
 len : 2<=M.ns.length
 wfe : ∀ e ∈ M.es,e.used = false->e = PEntry.zero
 sd : ∀ e ∈ M.es,e.side = false
 un : ∀ x,(M.node x).used = false->M.node x = PNode.zero
theorem hasN_iff {M : PMem} {x : Int} : M.hasNode x = true ↔ 0<=x/\x < M.ns.length:=by
 unfold PMem.hasNode; rw [isIn_iff]; omega
theorem hasN_used {M : PMem} {x : Int} (h : (M.node x).used = true) : M.hasNode x = true:=by
 cases hh : M.hasNode x
 ·unfold PMem.node at h; rw [hh] at h; exact nomatch h
 ·rfl
theorem node_get {M : PMem} {k : Nat} {e : PNode} (h : M.ns[k]? = some e) : M.node (k : Int) = e/\M.hasNode (k : Int) = true:=by
 have h1 : M.hasNode (k : Int) = true:=by
  have:=(List.getElem?_eq_some_iff.1 h).1
  unfold PMem.hasNode; rw [isIn_iff]; omega
 exact ⟨by unfold PMem.node; rw [h1]; simp [h],h1⟩
theorem node_at {M : PMem} {x : Int} (h : M.hasNode x = true) : ∃ (k : Nat) (e : PNode),x = k/\M.ns[k]? = some e/\M.node x = e:=by
 have hx:=h;unfold PMem.hasNode at hx;rw [isIn_iff] at hx;have hk : x.toNat < M.ns.length:=by omega
 refine ⟨x.toNat,M.ns[x.toNat],by omega,List.getElem?_eq_getElem hk,?_⟩;unfold PMem.node;rw [h]; simp [List.getElem?_eq_getElem hk]
theorem hasN_len {M M' : PMem} (h : M'.ns.length = M.ns.length) (x : Int) : M'.hasNode x = M.hasNode x:=by unfold PMem.hasNode; rw [h]
theorem modN_len (M : PMem) (n : Int) (f : PNode->PNode) : (M.modN n f).ns.length = M.ns.length:=by unfold PMem.modN; split <;> simp
theorem modN_ents (M : PMem) (n : Int) (f : PNode->PNode) : (M.modN n f).es = M.es:=by unfold PMem.modN; split <;> rfl
theorem node_modN {M : PMem} {n : Int} (h : M.hasNode n = true) (f : PNode->PNode) (x : Int) : (M.modN n f).node x = if x = n then f (M.node n) else M.node x:=by
 unfold PMem.modN PMem.node;rw [if_pos h];have hl : ∀ y,PMem.hasNode { M with ns:=M.ns.modify n.toNat f } y = M.hasNode y:=fun y=>hasN_len (by simp) y
 rw [hl];have hn:=h;unfold PMem.hasNode at hn;rw [isIn_iff] at hn;by_cases hx : x = n
 ·subst hx;rw [if_pos h,if_pos h,if_pos rfl,List.getElem?_modify];have : x.toNat < M.ns.length:=by omega
  simp [List.getElem?_eq_getElem this]
 ·rw [if_neg hx];by_cases hh : M.hasNode x = true
  ·rw [if_pos hh,if_pos hh];unfold PMem.hasNode at hh;rw [isIn_iff] at hh;have hne : ¬ n.toNat = x.toNat:=by omega
   rw [List.getElem?_modify]; simp [hne]
  ·rw [if_neg hh,if_neg hh]
theorem pd_es {M M' : PMem} (h : M'.es = M.es) (x : Int) : Pd M' x = Pd M x:=by unfold Pd; rw [h]
theorem sd_es {M M' : PMem} (h : M'.es = M.es) (x s d : Int) : Sd M' x s d ↔ Sd M x s d:=by unfold Sd; rw [h]
theorem Wm.nodes {M M' : PMem} (h : Wm M) (hl : M'.ns.length = M.ns.length) (he : M'.es = M.es) (hu : ∀ x,(M'.node x).used = false->M'.node x = PNode.zero) : Wm M' :=
 ⟨by rw [hl]; exact h.len,by rw [he]; exact h.wfe,by rw [he]; exact h.sd,hu⟩
theorem Wm.modN {M : PMem} (h : Wm M) {n : Int} (hn : (M.node n).used = true) (f : PNode->PNode) (hf : (f (M.node n)).used = true) : Wm (M.modN n f):=by
 refine h.nodes (modN_len _ _ _) (modN_ents _ _ _) ?_;intro x hx;rw [node_modN (hasN_used hn)] at hx ⊢;split at hx
 ·rw [hf] at hx; cases hx
 ·next hne=>rw [if_neg hne]; exact h.un x hx
theorem unlock_node (M : PMem) (t x : Int) : (M.unlock t).node x = unlocked t (M.node x):=by
 have hl : (M.unlock t).hasNode x = M.hasNode x:=hasN_len (by simp [PMem.unlock]) x;by_cases hh : M.hasNode x = true
 ·obtain ⟨k,e,rfl,h1,h2⟩:=node_at hh;rw [h2];exact (node_get (M:=M.unlock t) (by simp [PMem.unlock,h1])).1
 ·unfold PMem.node;rw [hl,if_neg hh,if_neg hh]; rfl
theorem Wm.unlock {M : PMem} (h : Wm M) (t : Int) : Wm (M.unlock t):=by
 refine h.nodes (by simp [PMem.unlock]) rfl ?_;intro x hx;rw [unlock_node] at hx ⊢;have hu : (unlocked t (M.node x)).used = (M.node x).used:=by unfold unlocked; split <;> rfl
 rw [hu] at hx;rw [h.un x hx]; rfl
theorem lock_eq {M : PMem} {n t : Int} (hn : (M.node n).used = true) : M.lock n t = if (M.node n).holder = -1\/(M.node n).holder = t then (M.modN n fun x=>{ x with holder:=t },true) else (M,false):=by
 unfold PMem.lock;rw [if_pos (hasN_used hn)];by_cases h : (M.node n).holder = -1\/(M.node n).holder = t
 ·rw [if_pos h,if_neg];intro hh;simp at hh;rcases h with h | h
  ·exact hh.1 h
  ·exact hh.2 h
 ·rw [if_neg h,if_pos];simp only [not_or] at h;simp [h.1,h.2]
theorem filt_set {α β : Type} (p : α->Bool) (f : α->β) : ∀ {l : List α} {k : Nat} {x : α},l[k]? = some x->∀ y,p x = false->p y = false->((l.set k y).filter p).map f = (l.filter p).map f
 | [],k,x,h=>by simp at h
 | z :: r,0,x,h=>by
  intro y hx hy;simp at h; subst h;simp [hx,hy]
 | z :: r,k + 1,x,h=>by
  intro y hx hy;simp only [List.getElem?_cons_succ] at h
  have:=filt_set p f h y hx hy
  simp only [List.set_cons_succ,List.filter_cons];split <;> simp [this]
theorem filt_new {α β : Type} (p : α->Bool) (f : α->β) : ∀ {l : List α} {k : Nat} {x : α},l[k]? = some x->∀ y,(l.filter p).map f = []->p y = true->((l.set k y).filter p).map f = [f y]
 | [],k,x,h=>by simp at h
 | z :: r,0,x,h=>by
  intro y hx hy;simp only [List.filter_cons] at hx;split at hx
  ·simp at hx
  ·simp [hy]; simpa using hx
 | z :: r,k + 1,x,h=>by
  intro y hx hy;simp only [List.getElem?_cons_succ] at h;simp only [List.filter_cons] at hx;split at hx
  ·simp at hx
  ·next hz =>
   simp only [List.set_cons_succ,List.filter_cons];rw [if_neg hz];exact filt_new p f h y hx hy
theorem filt_del {α β : Type} (p : α->Bool) (f : α->β) : ∀ {l : List α} {k : Nat} {x : α} {b : β},l[k]? = some x->∀ y,(l.filter p).map f = [b]->p x = true->p y = false->((l.set k y).filter p).map f = []/\b = f x
 | [],k,x,b,h=>by simp at h
 | z :: r,0,x,b,h=>by
  intro y hx hp hy;simp at h; subst h;simp only [List.filter_cons,hp,if_true,List.map_cons] at hx;injection hx with e1 e2
  simp [hy];exact ⟨by simpa using e2,e1.symm⟩
 | z :: r,k + 1,x,b,h=>by
  intro y hx hp hy;simp only [List.getElem?_cons_succ] at h;simp only [List.filter_cons] at hx;split at hx
  ·simp only [List.map_cons] at hx;injection hx with e1 e2
   have hm : x ∈ r.filter p:=List.mem_filter.2 ⟨List.mem_of_getElem? h,hp⟩;have : r.filter p = []:=by simpa using e2
   rw [this] at hm; cases hm
  ·next hz =>
   simp only [List.set_cons_succ,List.filter_cons];rw [if_neg hz];exact filt_del p f h y hx hp hy
theorem isPd_z (n : Int) (s : Bool) : isPd n s PEntry.zero = false:=by simp [isPd,PEntry.zero]
theorem isSt_z (n : Int) (s : Bool) : isSt n s PEntry.zero = false:=by simp [isSt,PEntry.zero]
theorem set_get {α : Type} {l : List α} {k : Nat} {x y e : α} (h : l[k]? = some x) : e ∈ l.set k y ↔ e = y\/∃ j,j≠k/\l[j]? = some e:=by
 have hk:=(List.getElem?_eq_some_iff.1 h).1;rw [List.mem_iff_getElem?];constructor
 ·rintro ⟨j,hj⟩;rw [List.getElem?_set] at hj;by_cases e1 : k = j
  ·subst e1; simp [hk] at hj; exact .inl hj.symm
  ·rw [if_neg e1] at hj; exact .inr ⟨j,fun h=>e1 h.symm,hj⟩
 ·rintro (rfl | ⟨j,h1,h2⟩)
  ·exact ⟨k,by simp [hk]⟩
  ·exact ⟨j,by rw [List.getElem?_set,if_neg (fun h=>h1 h.symm)]; exact h2⟩
theorem sd_set {M : PMem} {k : Nat} {e0 y : PEntry} (h : M.es[k]? = some e0) (h0 : ∀ x,isSt x false e0 = false) (x s d : Int) : Sd { M with es:=M.es.set k y } x s d ↔ Sd M x s d\/(isSt x false y = true/\y.stamp = s/\y.dst = d):=by
 unfold Sd;constructor
 ·rintro ⟨e,he,h1,h2⟩;rcases (set_get h).1 he with rfl | ⟨j,_,hj⟩
  ·exact .inr ⟨h1,h2⟩
  ·exact .inl ⟨e,List.mem_of_getElem? hj,h1,h2⟩
 ·rintro (⟨e,he,h1,h2⟩ | ⟨h1,h2⟩)
  ·obtain ⟨j,hj⟩:=List.mem_iff_getElem?.1 he;refine ⟨e,(set_get h).2 (.inr ⟨j,?_,hj⟩),h1,h2⟩;rintro rfl;rw [h] at hj; injection hj with hj; subst hj
   rw [h0] at h1; cases h1
  ·exact ⟨y,(set_get h).2 (.inl rfl),h1,h2⟩
theorem Wm.setE {M : PMem} (h : Wm M) {k : Nat} {y : PEntry} (hy : y.used = false->y = PEntry.zero) (hs : y.side = false) : Wm { M with es:=M.es.set k y }:=by
 refine ⟨h.len,?_,?_,h.un⟩
 ·intro e he hu;rcases List.mem_or_eq_of_mem_set he with he | rfl
  ·exact h.wfe e he hu
  ·exact hy hu
 ·intro e he;rcases List.mem_or_eq_of_mem_set he with he | rfl
  ·exact h.sd e he
  ·exact hs
theorem found {α : Type} {p : α->Bool} {l : List α} {x : α} (hx : x ∈ l) (hp : p x = true) : ∃ (k : Nat) (y : α),l[k]? = some y/\p y = true/\find p l 0 = (k : Int):=by
 rcases find_bd p l 0 with ⟨_,h⟩ | ⟨k,y,h1,h2,h3,_⟩
 ·rw [h x hx] at hp; cases hp
 ·exact ⟨k,y,h1,h2,by simpa using h3⟩
theorem hasE_of {M : PMem} {k : Nat} {e : PEntry} (h : M.es[k]? = some e) : M.hasEntry (k : Int) = true:=by
 have:=(List.getElem?_eq_some_iff.1 h).1
 exact isIn_true (by omega)
theorem pend_e {M : PMem} {n to : Int} (hw : Wm M) (hf : ∃ e ∈ M.es,e.used = false) (hl : M.hasLink n false = true) (hp : Pd M n = []) :
  ∃ k : Nat,M.es[k]? = some PEntry.zero/\M.pend n false to = { M with es:=M.es.set k ⟨true,true,n,false,to,0⟩ }/\Wm (M.pend n false to)/\(∀ x,Pd (M.pend n false to) x = if x = n then [to] else Pd M x)/\(∀ x s d,Sd (M.pend n false to) x s d ↔ Sd M x s d):=by
 obtain ⟨e,he,hu⟩:=hf;obtain ⟨k,y,h1,h2,h3⟩:=found (p:=fun x : PEntry=>!x.used) he (by simp [hu]);have hy : y = PEntry.zero:=hw.wfe y (List.mem_of_getElem? h1) (by simpa using h2);subst hy;have heq : M.pend n false to = { M with es:=M.es.set k ⟨true,true,n,false,to,0⟩ }:=by
  have hk : M.freeEntry = (k : Int):=h3;unfold PMem.pend;rw [hk,hasE_of h1,hl];simp [PMem.setE]
 refine ⟨k,h1,heq,?_,?_,?_⟩
 ·rw [heq]; exact hw.setE (by simp) rfl
 ·intro x;rw [heq];unfold Pd;split
  ·next hx=>subst hx; exact filt_new _ _ h1 _ hp (by simp [isPd])
  ·next hx =>
   have hx' : ¬ n = x:=fun h=>hx h.symm
   exact filt_set _ _ h1 _ (isPd_z _ _) (by simp [isPd,hx'])
 ·intro x s d;rw [heq,sd_set h1 (fun x=>isSt_z _ _)];simp [isSt]
theorem pending_at {M : PMem} {n d : Int} (h : Pd M n = [d]) : ∃ (k : Nat) (e : PEntry),M.es[k]? = some e/\isPd n false e = true/\e.dst = d/\M.pending n false = (k : Int):=by
 have hm : ∃ a,a ∈ M.es.filter (isPd n false):=by
  cases hf : M.es.filter (isPd n false) with
  | nil=>unfold Pd at h; rw [hf] at h; simp at h
  | cons a r=>exact ⟨a,by simp⟩
 obtain ⟨a,ha⟩:=hm;rw [List.mem_filter] at ha;obtain ⟨k,y,h1,h2,h3⟩:=found ha.1 ha.2;refine ⟨k,y,h1,h2,?_,h3⟩;exact ((filt_del (isPd n false) PEntry.dst h1 PEntry.zero h h2 (isPd_z _ _)).2).symm
theorem pending_no {M : PMem} {n : Int} (h : Pd M n = []) : M.pending n false = -1:=by
 unfold Pd at h;simp at h;apply find_miss;intro j hj y hy
 have:=h y (List.mem_of_getElem? hy)
 simpa using this
theorem hasPd_iff {M : PMem} {n : Int} : M.hasPending n false = true ↔ Pd M n≠[]:=by
 unfold PMem.hasPending;constructor
 ·intro h hp;rw [pending_no hp] at h;simp at h
 ·intro h;have hm : ∃ a,a ∈ M.es.filter (isPd n false):=by
   cases hf : M.es.filter (isPd n false) with
   | nil=>unfold Pd at h; rw [hf] at h; simp at h
   | cons a r=>exact ⟨a,by simp⟩
  obtain ⟨a,ha⟩:=hm;rw [List.mem_filter] at ha;obtain ⟨k,y,h1,h2,h3⟩:=found ha.1 ha.2;unfold PMem.pending;rw [h3]
  simp
theorem isSt_pd {e : PEntry} {n : Int} (h : isPd n false e = true) (x : Int) : isSt x false e = false:=by
 simp only [isPd,Bool.and_eq_true] at h;simp [isSt,h.1]
theorem isPd_ne {e : PEntry} {n x : Int} (h : isPd n false e = true) (hx : x≠n) : isPd x false e = false:=by
 simp only [isPd,Bool.and_eq_true,beq_iff_eq] at h;have : ¬ n = x:=fun h=>hx h.symm
 simp [isPd,h.2.1,this]
theorem unpend_e {M : PMem} {n d : Int} (hw : Wm M) (h : Pd M n = [d]) : (M.unpend n false).ns = M.ns/\Wm (M.unpend n false)/\(∀ x,Pd (M.unpend n false) x = if x = n then [] else Pd M x)/\(∀ x s d,Sd (M.unpend n false) x s d ↔ Sd M x s d):=by
 obtain ⟨k,e,h1,h2,_,h4⟩:=pending_at h;have heq : M.unpend n false = { M with es:=M.es.set k PEntry.zero }:=by
  unfold PMem.unpend;rw [h4,hasE_of h1]; simp [PMem.setE]
 rw [heq];refine ⟨rfl,hw.setE (fun _=>rfl) rfl,?_,?_⟩
 ·intro x;unfold Pd;split
  ·next hx=>subst hx; exact (filt_del _ _ h1 _ h h2 (isPd_z _ _)).1
  ·next hx=>exact filt_set _ _ h1 _ (isPd_ne h2 hx) (isPd_z _ _)
 ·intro x s d;rw [sd_set h1 (isSt_pd h2)];simp [isSt_z]
theorem stamp_e {M : PMem} {n d : Int} (st : Int) (hw : Wm M) (h : Pd M n = [d]) : (M.stamp n false st).ns = M.ns/\Wm (M.stamp n false st)/\(∀ x,Pd (M.stamp n false st) x = if x = n then [] else Pd M x)/\(∀ x s e,Sd (M.stamp n false st) x s e ↔ Sd M x s e\/(x = n/\s = st/\e = d)):=by
 obtain ⟨k,e,h1,h2,h3,h4⟩:=pending_at h;have he : M.ent (k : Int) = e:=by simp [PMem.ent,h1]
 have heq : M.stamp n false st = { M with es:=M.es.set k { e with pending:=false,stamp:=st } }:=by
  unfold PMem.stamp;rw [h4,hasE_of h1,he]; simp [PMem.setE]
 rw [heq];have h2':=h2;simp only [isPd,Bool.and_eq_true,beq_iff_eq] at h2';have hu : e.used = true:=by
  cases hu : e.used
  ·rw [hw.wfe e (List.mem_of_getElem? h1) hu] at h2'; exact nomatch h2'.1
  ·rfl
 refine ⟨rfl,hw.setE (fun hh=>by simp [hu] at hh) h2'.2.2,?_,?_⟩
 ·intro x;unfold Pd;split
  ·next hx=>subst hx; exact (filt_del _ _ h1 _ h h2 (by simp [isPd])).1
  ·next hx=>exact filt_set _ _ h1 _ (isPd_ne h2 hx) (by simp [isPd])
 ·intro x s d';rw [sd_set h1 (isSt_pd h2)];refine or_congr Iff.rfl ?_;simp only [isSt,hu,h2'.2.2,h2'.2.1,h3,Bool.true_and,Bool.not_false,beq_self_eq_true,Bool.and_true,beq_iff_eq];constructor
  ·rintro ⟨a,b,c⟩; exact ⟨a.symm,b.symm,c.symm⟩
  ·rintro ⟨a,b,c⟩; exact ⟨a.symm,b.symm,c.symm⟩
theorem stamp_no {M : PMem} {n : Int} (hw : Wm M) (st : Int) : M.stamp n true st = M:=by
 have : M.pending n true = -1:=by
  apply find_miss;intro j hj y hy
  have:=hw.sd y (List.mem_of_getElem? hy)
  simp [isPd,this]
 unfold PMem.stamp;rw [this,show M.hasEntry (-1) = false from isIn_false (by omega)]
 simp
theorem lead_e {M : PMem} {n d : Int} (h : Pd M n = [d]) (hl : M.hasLink n false = true) : M.lead n false = M.modN n fun x=>{ x with leads:=upd x.leads false d }:=by
 obtain ⟨k,e,h1,h2,h3,h4⟩:=pending_at h;have he : M.ent (k : Int) = e:=by simp [PMem.ent,h1]
 unfold PMem.lead;rw [h4,hasE_of h1,hl,he,h3]; simp
end
section
theorem count_set_e {α : Type} (p : α->Bool) : ∀ {l : List α} {k : Nat} {x y : α},l[k]? = some x->p x = true->p y = false->count p l = count p (l.set k y) + 1
 | [],k,x,y,h=>by simp at h
 | z :: r,0,x,y,h=>by
  intro hx hy;simp at h; subst h;simp [count,hx,hy]
 | z :: r,k + 1,x,y,h=>by
  intro hx hy;simp only [List.getElem?_cons_succ] at h
  have:=count_set_e p h hx hy
  simp only [count,List.set_cons_succ,List.filter_cons] at this ⊢;split <;> simp [this]
theorem count_some {α : Type} {p : α->Bool} {l : List α} (h : 0 < count p l) : ∃ x ∈ l,p x = true:=by
 unfold count at h;obtain ⟨x,hx⟩:=List.exists_mem_of_length_pos h;rw [List.mem_filter] at hx;exact ⟨x,hx.1,hx.2⟩
theorem make_e {M : PMem} (hw : Wm M) (key value : Int) (hf : 0 < M.room.1) : ∃ n : Int,(M.node n).used = false/\M.hasNode n = true/\(M.make key value).2 = n/\(M.make key value).1.es = M.es/\(M.make key value).1.ns.length = M.ns.length/\Wm (M.make key value).1/\∀ x,(M.make key value).1.node x = if x = n then PNode.made key value else M.node x:=by
 obtain ⟨e,he,hu⟩:=count_some (l:=M.ns) (p:=fun x=>!x.used) (by unfold PMem.room at hf; simpa using hf);obtain ⟨k,y,h1,h2,h3⟩:=found (p:=fun x : PNode=>!x.used) he hu;have h4 : M.freeNode = (k : Int):=h3;obtain ⟨h5,h6⟩:=node_get h1;have heq : M.make key value = ({ M with ns:=M.ns.set k (PNode.made key value) },(k : Int)):=by
  unfold PMem.make;rw [h4,if_pos h6]; rfl
 rw [heq];have hn : ∀ x,PMem.node { M with ns:=M.ns.set k (PNode.made key value) } x = if x = (k : Int) then PNode.made key value else M.node x:=by
  intro x
  have:=node_modN h6 (fun _=>PNode.made key value) x
  unfold PMem.modN at this;rw [if_pos h6] at this;rw [<- this]
  congr 2
  apply List.ext_getElem?;intro j;rw [List.getElem?_set,List.getElem?_modify];by_cases hj : k = j
  ·subst hj
   have:=(List.getElem?_eq_some_iff.1 h1).1
   simp [this]
  ·have : ¬ (k : Int).toNat = j:=by simpa using hj
   simp [hj,this]
 refine ⟨k,by rw [h5]; simpa using h2,h6,rfl,rfl,by simp,?_,hn⟩;refine hw.nodes (by simp) rfl ?_;intro x hx;rw [hn] at hx ⊢;split at hx
 ·exact nomatch hx
 ·next hne=>rw [if_neg hne]; exact hw.un x hx
theorem hasLink_iff {M : PMem} {n : Int} : M.hasLink n false = true ↔ M.hasNode n = true/\0 < (M.node n).links:=by
 unfold PMem.hasLink;simp [b2i]
theorem addLink_e {M : PMem} {n to : Int} (hw : Wm M) (hu : (M.node n).used = true) (hl : (M.node n).links = 0) (hp : Pd M n = []) (hf : 0 < M.room.2) :
  (M.addLink n to).ns.length = M.ns.length/\Wm (M.addLink n to)/\(∀ x,(M.addLink n to).node x = if x = n then linked false to (M.node n) else M.node x)/\(∀ x,Pd (M.addLink n to) x = if x = n then [to] else Pd M x)/\(∀ x s d,Sd (M.addLink n to) x s d ↔ Sd M x s d)/\M.room.2 = (M.addLink n to).room.2 + 1:=by
 obtain ⟨e,he,hue⟩:=count_some (l:=M.es) (p:=fun x=>!x.used) (by unfold PMem.room at hf; simpa using hf);have hh:=hasN_used hu;obtain ⟨k0,y0,g1,g2,g3⟩:=found (p:=fun x : PEntry=>!x.used) he hue;have hfe : (M.freeEntry != -1) = true:=by
  rw [show M.freeEntry = (k0 : Int) from g3]
  simp
 have hw1 : Wm (M.modN n (linked false to)):=hw.modN hu _ (by simpa [linked] using hu);have hes:=modN_ents M n (linked false to);have hlk : (M.modN n (linked false to)).hasLink n false = true:=by
  rw [hasLink_iff,hasN_len (modN_len _ _ _),node_modN hh,if_pos rfl];exact ⟨hh,by simp [linked,hl]⟩
 obtain ⟨k,h1,h2,h3,h4,h5⟩:=pend_e (to:=to) hw1 ⟨e,by rw [hes]; exact he,by simpa using hue⟩ hlk (by rw [pd_es hes]; exact hp);have heq : M.addLink n to = (M.modN n (linked false to)).pend n false to:=by
  unfold PMem.addLink;rw [hh,hfe,hl]
  rfl
 rw [heq];refine ⟨?_,h3,?_,?_,?_,?_⟩
 ·rw [h2]; exact modN_len _ _ _
 ·intro x;rw [h2];exact node_modN hh _ x
 ·intro x; rw [h4,pd_es hes]
 ·intro x s d; rw [h5,sd_es hes]
 ·rw [h2];unfold PMem.room;simp only;rw [hes] at h1 ⊢
  have:=count_set_e (p:=fun x : PEntry=>!x.used) (y:=⟨true,true,n,false,to,0⟩) h1 rfl rfl
  omega
theorem free_e {M : PMem} {n : Int} (hw : Wm M) (hh : M.hasNode n = true) (h0 : n≠0/\n≠1) : (M.free n).ns.length = M.ns.length/\Wm (M.free n)/\(∀ x,(M.free n).node x = if x = n then PNode.zero else M.node x)/\(∀ x,Pd (M.free n) x = if x = n then [] else Pd M x)/\(∀ x s d,Sd (M.free n) x s d ↔ x≠n/\Sd M x s d):=by
 have heq : M.free n = { ns:=M.ns.set n.toNat PNode.zero,es:=M.es.map fun e=>if ofNode n e then PEntry.zero else e }:=by
  unfold PMem.free;rw [if_pos (by simp [hh,h0])]
 obtain ⟨k,y,rfl,h1,h2⟩:=node_at hh;have hn : ∀ x,(M.free k).node x = if x = (k : Int) then PNode.zero else M.node x:=by
  intro x
  have:=node_modN hh (fun _=>PNode.zero) x
  unfold PMem.modN at this;rw [if_pos hh] at this;rw [<- this,heq];unfold PMem.node PMem.hasNode;simp only [List.length_set,List.length_modify]
  congr 3
  apply List.ext_getElem?;intro j;rw [List.getElem?_set,List.getElem?_modify];by_cases hj : (k : Int).toNat = j
  ·subst hj
   have:=(List.getElem?_eq_some_iff.1 h1).1
   simp [this]
  ·simp only [hj,if_false];cases M.ns[j]? <;> simp
 have hq : ∀ e ∈ M.es,∀ x,isPd x false (if ofNode k e then PEntry.zero else e) = (isPd x false e && decide (x≠(k : Int))):=by
  intro e he x;by_cases ho : ofNode k e = true
  ·rw [if_pos ho,isPd_z];simp only [ofNode,Bool.and_eq_true,beq_iff_eq] at ho;by_cases hx : x = (k : Int)
   ·simp [hx]
   ·have : ¬ (k : Int) = x:=fun h=>hx h.symm
    simp [isPd,ho.2,this]
  ·rw [if_neg ho];by_cases hx : x = (k : Int)
   ·subst hx;cases hp : isPd k false e
    ·rfl
    ·exfalso;apply ho;simp only [isPd,Bool.and_eq_true,beq_iff_eq] at hp;cases hu : e.used
     ·rw [hw.wfe e he hu] at hp; exact nomatch hp.1
     ·simp [ofNode,hu,hp.2.1]
   ·simp [hx]
 refine ⟨by rw [heq]; simp,⟨?_,?_,?_,?_⟩,hn,?_,?_⟩
 ·rw [heq]; simpa using hw.len
 ·rw [heq];intro e he hu;simp only [List.mem_map] at he;obtain ⟨e',he',rfl⟩:=he;split at hu
  ·next hc=>rw [if_pos hc]
  ·next hc=>rw [if_neg hc]; exact hw.wfe e' he' hu
 ·rw [heq];intro e he;simp only [List.mem_map] at he;obtain ⟨e',he',rfl⟩:=he;split
  ·rfl
  ·exact hw.sd e' he'
 ·intro x hx;rw [hn] at hx ⊢;split at hx
  ·next hc=>rw [if_pos hc]
  ·next hc=>rw [if_neg hc]; exact hw.un x hx
 ·intro x;rw [heq];unfold Pd;simp only;have key : ∀ l : List PEntry,(∀ e ∈ l,e ∈ M.es)->((l.map fun e=>if ofNode k e then PEntry.zero else e).filter (isPd x false)).map PEntry.dst = if x = (k : Int) then [] else (l.filter (isPd x false)).map PEntry.dst:=by
   intro l
   induction l with
   | nil=>intro _; split <;> rfl
   | cons a r ih =>
    intro hl;have ih:=ih (fun e he=>hl e (by simp [he]));have ha:=hq a (hl a (by simp)) x;simp only [List.map_cons,List.filter_cons,ha];by_cases hx : x = (k : Int)
    ·rw [if_pos hx] at ih ⊢;simp [hx];simpa [hx] using ih
    ·rw [if_neg hx] at ih ⊢;simp only [hx,not_false_eq_true,decide_true,Bool.and_true,ne_eq];by_cases hp : isPd x false a = true
     ·have ho : ofNode k a = false:=by
       cases ho : ofNode k a
       ·rfl
       ·simp only [ofNode,Bool.and_eq_true,beq_iff_eq] at ho;simp only [isPd,Bool.and_eq_true,beq_iff_eq] at hp;exact absurd (hp.2.1.symm.trans ho.2) hx
      rw [if_pos hp,if_pos hp,List.map_cons,List.map_cons,ih,ho]; rfl
     ·rw [if_neg hp,if_neg hp,ih]
  exact key M.es (fun e he=>he)
 ·intro x s d;rw [heq];unfold Sd;simp only [List.mem_map];constructor
  ·rintro ⟨e,⟨e',he',rfl⟩,h3,h4⟩;by_cases ho : ofNode k e' = true
   ·rw [if_pos ho,isSt_z] at h3; cases h3
   ·rw [if_neg ho] at h3 h4;refine ⟨?_,e',he',h3,h4⟩;rintro rfl;apply ho;simp only [isSt,Bool.and_eq_true,beq_iff_eq] at h3;simp [ofNode,h3.1,h3.2.2.1]
  ·rintro ⟨hx,e,he,h3,h4⟩;have ho : ¬ ofNode k e = true:=by
    intro ho;simp only [ofNode,Bool.and_eq_true,beq_iff_eq] at ho;simp only [isSt,Bool.and_eq_true,beq_iff_eq] at h3;exact hx (h3.2.2.1.symm.trans ho.2)
   exact ⟨e,⟨e,he,by rw [if_neg ho]⟩,h3,h4⟩
theorem led_fold_e (n time : Int) : ∀ (l : List PEntry) (p : Int × Int),(∀ e ∈ l,isSt n false e = true->0<=e.stamp) ->
  (l.foldl (ledStep n false time) p = p/\∀ e ∈ l,isSt n false e = true->e.stamp<=time->e.stamp<=p.1) \/
  (∃ e ∈ l,isSt n false e = true/\e.stamp<=time/\p.1 < e.stamp/\l.foldl (ledStep n false time) p = (e.stamp,e.dst)/\∀ e' ∈ l,isSt n false e' = true->e'.stamp<=time->e'.stamp<=e.stamp)
 | [],p,_=>.inl ⟨rfl,by simp⟩
 | a :: r,p,h=>by
  have ih:=led_fold_e n time r (ledStep n false time p a) (fun e he=>h e (by simp [he]));rw [List.foldl_cons];by_cases hc : (isSt n false a && (decide (a.stamp<=time) && decide (p.1 < a.stamp))) = true
  ·have hq : ledStep n false time p a = (a.stamp,a.dst):=by unfold ledStep; rw [if_pos hc]
   rw [hq] at ih ⊢;simp only [Bool.and_eq_true,decide_eq_true_eq] at hc;rcases ih with ⟨i1,i2⟩ | ⟨e,e1,e2,e3,e4,e5,e6⟩
   ·right;refine ⟨a,by simp,hc.1,hc.2.1,hc.2.2,i1,?_⟩;intro e' he' h1 h2;rcases List.mem_cons.1 he' with rfl | he'
    ·exact Int.le_refl _
    ·exact i2 e' he' h1 h2
   ·right;simp only at e4;refine ⟨e,by simp [e1],e2,e3,by omega,e5,?_⟩;intro e' he' h1 h2;rcases List.mem_cons.1 he' with rfl | he'
    ·omega
    ·exact e6 e' he' h1 h2
  ·have hq : ledStep n false time p a = p:=by unfold ledStep; rw [if_neg hc]
   rw [hq] at ih ⊢;have ha : isSt n false a = true->a.stamp<=time->a.stamp<=p.1:=by
    intro h1 h2;simp only [Bool.and_eq_true,decide_eq_true_eq,not_and] at hc
    have:=hc h1 h2
    omega
   rcases ih with ⟨i1,i2⟩ | ⟨e,e1,e2,e3,e4,e5,e6⟩
   ·left;refine ⟨i1,?_⟩;intro e he h1 h2;rcases List.mem_cons.1 he with rfl | he
    ·exact ha h1 h2
    ·exact i2 e he h1 h2
   ·right;refine ⟨e,by simp [e1],e2,e3,e4,e5,?_⟩;intro e' he' h1 h2;rcases List.mem_cons.1 he' with rfl | he'
    ·have:=ha h1 h2; omega
    ·exact e6 e' he' h1 h2
theorem ledTo_ok {M : PMem} {n time : Int} (h : ∀ s d,Sd M n s d->0<=s) : (M.ledTo n false time = 1/\∀ s d,Sd M n s d->¬ s<=time)\/∃ s,Sd M n s (M.ledTo n false time)/\s<=time/\∀ s' d',Sd M n s' d'->s'<=time->s'<=s:=by
 have h0 : ∀ e ∈ M.es,isSt n false e = true->0<=e.stamp:=fun e he hs=>h e.stamp e.dst ⟨e,he,hs,rfl,rfl⟩
 unfold PMem.ledTo;rcases led_fold_e n time M.es (-1,1) h0 with ⟨h1,h2⟩ | ⟨e,e1,e2,e3,e4,e5,e6⟩
 ·left;rw [h1];refine ⟨rfl,?_⟩;rintro s d ⟨e,he,hs,rfl,rfl⟩ hle
  have:=h2 e he hs hle
  have:=h0 e he hs
  simp only at *;omega
 ·right;rw [e5];refine ⟨e.stamp,⟨e,e1,e2,rfl,rfl⟩,e3,?_⟩;rintro s' d' ⟨e',he',hs',rfl,rfl⟩ hle;exact e6 e' he' hs' hle
end
end Go.Proofs.YtfccelbmacjifabGreat
