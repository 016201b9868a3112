import Derived.Test.YtfccelbmacjifabGreatP0
import Derived.Test.YtfccelbmacjifabGreatP25
set_option linter.unusedSimpArgs false
set_option maxRecDepth 100000
set_option maxHeartbeats 4000000
namespace Go.Proofs.YtfccelbmacjifabGreat
section
open Go.RowKit
def actVal (a : ActD) : Value:=.agg #[.int .i64 a.kd,.int .i64 a.tt,.int .i64 a.o,.int .i64 a.ky,.int .i64 a.v,.int .i64 a.m,.slice a.sa a.sn a.sc]
theorem Spans.cells {w : World} {sa : Option Addr} {n : Nat} {ps : List (Int × Int)} (h : Spans w sa n ps) {k : Nat} {x : Int × Int} (hx : ps[k]? = some x) :
  ∃ b off,sa = some ⟨b,off,none⟩/\w.cell? ⟨b,off + k * 2,none⟩ = some (.int .i64 x.1)/\w.cell? ⟨b,off + k * 2 + 1,none⟩ = some (.int .i64 x.2):=by
 have hk:=(List.getElem?_eq_some_iff.1 hx).1;obtain ⟨hl,hp⟩:=h;obtain ⟨⟨b,off,s⟩,rfl,hc⟩:=hp (by omega);have g0:=tab_get spanCells 2 (fun _=>rfl) ps k 0 x hx (by omega);have g1:=tab_get spanCells 2 (fun _=>rfl) ps k 1 x hx (by omega);have c0:=hc (k * 2 + 0) _ (g0.trans rfl);have c1:=hc (k * 2 + 1) _ (g1.trans rfl);have hs : s = none:=by
  have h0 : ps[0]? = some ps[0]:=List.getElem?_eq_getElem (by omega);have z0:=tab_get spanCells 2 (fun _=>rfl) ps 0 0 _ h0 (by omega);have c00:=hc (0 * 2 + 0) _ (z0.trans rfl);simpa [Addr.add] using World.cell?_spot c00
 subst hs;rw [Addr.add_lit] at c0 c1;exact ⟨b,off,rfl,by simpa using c0,by rw [Nat.add_assoc]; exact c1⟩
theorem Spans.keep {w w' : World} {sa : Option Addr} {n : Nat} {ps : List (Int × Int)} (h : Spans w sa n ps) (hf : Fr (fun _=>False) w w') : Spans w' sa n ps :=
 ⟨h.1,fun h0=>let ⟨ad,e,hc⟩:=h.2 h0; ⟨ad,e,fun j v hj=>hf.keepCell (hc j v hj)⟩⟩
theorem opOf_calls (a : ActD) (w : World) (hP : Spans w a.sa a.sn a.ps) (hsn : a.sn<=2 ^ 20) :
  Calls Tryz.prog 21 #[actVal a] w fun e w'=>∃ va vc,e = .returned (opVal a.o a.ky a.v (.slice va a.ps.length vc))/\OwnSpans w w' (.slice va a.ps.length vc) a.ps:=by
 obtain ⟨kd,tt,o,ky,v,m,sa,sn,sc,ps⟩:=a;simp only at hP hsn ⊢;obtain rfl : ps.length = sn:=hP.1;obtain ⟨iP,hiP,hzP,hsP,hbP⟩:=info_parts Tryz.infoSn;have HP:=(mkH (Spans w sa ps.length ps) <|hP);clear hP;simp only [actVal]
 go_enter Tryz.func21,Tryz.ntmps21
 go_wp2_with fail;generalize hw1 : World.alloc (World.alloc (World.alloc w _) _) _ = w1;have HO:=(mkH (At w1 w.heap.size [.int .i64 kd,.int .i64 tt,.int .i64 o,.int .i64 ky,.int .i64 v,.int .i64 m,.slice sa ps.length sc] 29) <|by subst hw1; exact ((At.new w _ _).alloc _).alloc _);have HR:=(mkH (At w1 (w.heap.size + 1) [.int .i64 0,.int .i64 0,.int .i64 0,.slice none 0 0] 53) <|by subst hw1; exact (At.newAt (by simp) _ _).alloc _);have HV:=(mkH (At w1 (w.heap.size + 2) [.int .i64 o,.int .i64 ky,.int .i64 v,.slice none 0 0] 53) <|by subst hw1; exact At.newAt (by simp) _ _);have HFF:=(mkH (Fr (fun _=>False) w w1) <|by subst hw1; exact (((Fr.refl _ _).alloc _).alloc _).alloc _);clear hw1
 go_loopw [4] (fun i wr=>∃ k : Nat,k<=ps.length/\i = .int .i64 k/\∃ va vn vc,Hid (OwnSpans w wr (.slice va vn vc) (ps.take k))/\Hid (At wr (w.heap.size + 2) [.int .i64 o,.int .i64 ky,.int .i64 v,.slice va vn vc] 53)/\Hid (At wr w.heap.size [.int .i64 kd,.int .i64 tt,.int .i64 o,.int .i64 ky,.int .i64 v,.int .i64 m,.slice sa ps.length sc] 29)/\Hid (At wr (w.heap.size + 1) [.int .i64 0,.int .i64 0,.int .i64 0,.slice none 0 0] 53)) (fun i _=>ps.length - (intOf i).toNat)
 case atStart =>
  refine ⟨0,Nat.zero_le _,rfl,none,0,0,⟨⟨by simp,.inl ⟨rfl,rfl⟩⟩,by intro k hk; simp [Value.ownBlock] at hk,HFF.out⟩,HV,HO,HR⟩
 case round =>
  clear HO HR HV HFF;obtain ⟨k,hk,rfl,va,vn,vc,HS,HV,HO,HR⟩:=hrel;have ho:=HO.out.cell;have hv:=HV.out.cell;have hvz:=HV.out.frozen;by_cases hlt : k < ps.length
  ·have hx : Hid (ps[k]? = some ps[k]):=List.getElem?_eq_getElem hlt;generalize ps[k] = x at hx;obtain ⟨g,off,rfl,c0,c1⟩:=(HP.out.keep HS.out.fr).cells hx.out;have HN : Hid (ps.take (k + 1) = ps.take k ++ [x]):=by show _ = _; rw [List.take_add_one,hx.out]; rfl
   have hkl : (ps.take k).length = k:=by rw [List.length_take]; omega
   go_wp2_with fail;have hrow:=HS.out.row;obtain ⟨ra,rc,hrv⟩:=ownsShape hrow;obtain ⟨rfl,rfl,rfl⟩ : va = ra/\vn = (ps.take k).length/\vc = rc:=by simpa using hrv
   rw [hkl] at HS HV hv hrow;have hrow1 : (wr.drew.alloc (.cells #[.int .i64 x.1,.int .i64 x.2] 81)).ownsRow 0 81 2 (.slice va k vc) k ((ps.take k).flatMap pairCells):=ownsRow_alloc (World.ownsRow.drew hrow) _;obtain ⟨g',gcap,w3,hown,hg,hge,hrun⟩:=push_runs (P:=Tryz.prog) (wr.drew.alloc (.cells #[.int .i64 x.1,.int .i64 x.2] 81)) 27 27 0 81 iP (.agg #[.int .i64 0,.int .i64 0]) 2 16 Tryz.underlying27 hiP hzP hsP hbP rfl (by decide) _ _ _ hrow1
    wr.heap.size [.int .i64 x.1,.int .i64 x.2] rfl 81 (At.newAt rfl _ _) (by simp [Value.oneCell']) (by unfold maxLen; omega) (by omega) (by simp)
   have HV3:=(mkH (At w3 (w.heap.size + 2) _ _) <|((HV.out.drew).alloc _).grown hg (HV.out.ne_row hrow (by decide)));have HO3:=(mkH (At w3 w.heap.size _ _) <|((HO.out.drew).alloc _).grown hg (HO.out.ne_row hrow (by decide)));have HR3:=(mkH (At w3 (w.heap.size + 1) _ _) <|((HR.out.drew).alloc _).grown hg (HR.out.ne_row hrow (by decide)));have HRun:=(mkH (∀ (o : Oper) (a : Act) (s x : Operand),_) <|hrun);have HOwn:=(mkH (w3.ownsRow 0 _ _ _ _ _) <|hown);have HG:=(mkH (World.grownBy _ w3 _) <|hg);have HGe:=(mkH (_\/_) <|hge);have HC:=(mkH (wr.cell? ⟨g,off + k * 2,none⟩ = some (.int .i64 x.1)/\wr.cell? ⟨g,off + k * 2 + 1,none⟩ = some (.int .i64 x.2)) <|⟨c0,c1⟩);clear hrun hown hg hge hrow1 hrow hrv ho hv hvz c0 c1;refine wp_region_mix [7,8,10] (fun k'=>match k' with | 0=>wr.drew | 1=>wr.drew.alloc (.cells #[.int .i64 x.1,.int .i64 x.2] 81) | 2=>w3 | _=>w3.setCell ⟨w.heap.size + 2,3,none⟩ (.slice (some ⟨g',0,none⟩) (k + 1) gcap)) 2 rfl (by kernel_rfl) (by kernel_rfl) (by kernel_rfl) (by decide) (by kernel_rfl) (by kernel_rfl) (by decide) rfl ?_;intro W hW;have hF3 : Fr (fun j=>(Value.slice va k vc).ownBlock = some j) wr w3:=((((Fr.refl _ _).drew).alloc _).grown HG.out (fun k hk=>.inl hk));have hgn : ¬ (Value.slice va k vc).ownBlock = some g:=by
    intro e;have h1:=HS.out.new g e;obtain ⟨g2,off2,e2,c2,_⟩:=HP.out.cells hx.out
    have:=cellLt c2
    simp at e2;simp only [<- e2.1] at this;omega
   have cu : ∀ u q val,wr.cell? ⟨g,q,none⟩ = some val->(W u).cell? ⟨g,q,none⟩ = some val:=by
    intro u q val hq;obtain ⟨k',hk',he⟩:=hW u;rw [he];rcases (show k' = 0\/k' = 1\/k' = 2 by omega) with rfl | rfl | rfl
    ·exact ((Fr.refl _ _).drew).keepCell hq
    ·exact (((Fr.refl _ _).drew).alloc _).keepCell hq
    ·exact hF3.keepCellS hq hgn
   have c0 : ∀ u,(W u).cell? ⟨g,off + k * 2,none⟩ = some (.int .i64 x.1):=fun u=>cu u _ _ HC.out.1
   have c1 : ∀ u,(W u).cell? ⟨g,off + k * 2 + 1,none⟩ = some (.int .i64 x.2):=fun u=>cu u _ _ HC.out.2
   have hv : ∀ u q,(W u).cell? ⟨w.heap.size + 2,q,none⟩ = [Value.int .i64 o,.int .i64 ky,.int .i64 v,.slice va k vc][q]?:=by
    intro u;obtain ⟨k',hk',he⟩:=hW u;rw [he];rcases (show k' = 0\/k' = 1\/k' = 2 by omega) with rfl | rfl | rfl
    ·exact HV.out.drew.cell
    ·exact (HV.out.drew.alloc _).cell
    ·exact HV3.out.cell
   have ho : ∀ u q,(W u).cell? ⟨w.heap.size,q,none⟩ = [Value.int .i64 kd,.int .i64 tt,.int .i64 o,.int .i64 ky,.int .i64 v,.int .i64 m,.slice (some ⟨g,off,none⟩) ps.length sc][q]?:=by
    intro u;obtain ⟨k',hk',he⟩:=hW u;rw [he];rcases (show k' = 0\/k' = 1\/k' = 2 by omega) with rfl | rfl | rfl
    ·exact HO.out.drew.cell
    ·exact (HO.out.drew.alloc _).cell
    ·exact HO3.out.cell
   have hc3:=HV3.out.cell;have hz3:=HV3.out.frozen;have HF3:=(mkH (Fr _ wr w3) <|hF3);clear hW hF3 hgn cu
   repeat (refine mix_read rfl rfl ?_; go_big_quiet_step (fail); refine wpQuiet_nil ?_)
   refine mix_eff (v:=.slice (some ⟨wr.heap.size,0,none⟩) 1 1) rfl rfl rfl ?_ ?_
   ·go_simp;exact ⟨rfl,rfl⟩
   refine mix_eff rfl rfl rfl (HRun.out _ _ _ _ rfl rfl rfl rfl) ?_;go_simp
   repeat (refine mix_read rfl rfl ?_; go_big_quiet_step (fail); refine wpQuiet_nil ?_)
   refine mix_eff (v:=undef) rfl rfl rfl ?_ ?_
   ·go_simp;exact ⟨rfl,rfl⟩
   refine mix_nil ?_;go_simp;clear c0 c1 hv ho hc3 hz3;have hS4 : OwnSpans w w3 (.slice (some ⟨g',0,none⟩) (k + 1) gcap) (ps.take (k + 1)):=by
    rw [HN.out];refine ⟨by rw [List.length_append,hkl]; simpa [pairCells] using HOwn.out,?_,Fr.transNew HS.out.fr HF3.out (fun j hj=>.inr (HS.out.new j hj))⟩;intro q hq;simp [Value.ownBlock] at hq;subst hq;rcases HGe.out with h | h
    ·exact HS.out.new _ h
    ·have:=HS.out.fr.size
     simp at h; omega
   have HS4 : Hid (OwnSpans w (w3.setCell ⟨w.heap.size + 2,3,none⟩ (.slice (some ⟨g',0,none⟩) (k + 1) gcap)) (.slice (some ⟨g',0,none⟩) (k + 1) gcap) (ps.take (k + 1))) :=
    ⟨ownsRow_setOther hS4.row (a:=⟨w.heap.size + 2,3,none⟩) (HV3.out.ne_row hS4.row (by decide)) _,hS4.new,Fr.setNew (by omega) hS4.fr _ _⟩
   clear hS4;go_wp2
   go_roundw
   case rel=>exact ⟨k + 1,by omega,by go_num,some ⟨g',0,none⟩,k + 1,gcap,HS4,HV3.out.set 3 _,HO3.out.setOther _ (by show w.heap.size≠w.heap.size + 2; omega) _,HR3.out.setOther _ (by show w.heap.size + 1≠w.heap.size + 2; omega) _⟩
   case measure=>simp [intOf]; omega
  ·have hke : k = ps.length:=by omega
   subst hke;rw [List.take_length] at HS;obtain ⟨ra,rc,hrv⟩:=ownsShape HS.out.row;obtain ⟨rfl,rfl,rfl⟩ : va = ra/\vn = ps.length/\vc = rc:=by simpa using hrv
   have hR:=HR.out.cell;have hRz:=HR.out.frozen;have hA0:=HR.out.set 0 (.int .i64 o);have hA1:=hA0.set 1 (.int .i64 ky);have hA2:=hA1.set 2 (.int .i64 v);have f0:=(hA2.set 3 (.slice va ps.length vc)).cell;have HZ:=(mkH (OwnSpans w _ (.slice va ps.length vc) ps) <|by
    refine ⟨?_,HS.out.new,Fr.setNew (b:=w.heap.size + 1) (by omega) (Fr.setNew (b:=w.heap.size + 1) (by omega) (Fr.setNew (b:=w.heap.size + 1) (by omega) (Fr.setNew (b:=w.heap.size + 1) (by omega) HS.out.fr 0 (.int .i64 o)) 1 (.int .i64 ky)) 2 (.int .i64 v)) 3 (.slice va ps.length vc)⟩;have hne:=HR.out.ne_row HS.out.row (by decide);exact ownsRow_setOther (ownsRow_setOther (ownsRow_setOther (ownsRow_setOther HS.out.row hne _) hne _) hne _) hne _)
   clear hA0 hA1 hA2 hrv;go_wp2;refine bodyPost_ret (v:=opVal o ky v (.slice va ps.length vc)) (by simp [results,Tryz.results21,go_sem,opVal,f0]) rfl ⟨va,vc,rfl,HZ.out⟩
end
section
open Go.RowKit
def pickN (c n : Int) : Int:=(if c < 0 then -(c + 1) else c).tmod n
theorem pickN_in {c n : Int} (hn : 0 < n) : 0<=pickN c n/\pickN c n < n:=by
 unfold pickN;split
 ·exact ⟨Int.tmod_nonneg _ (by omega),Int.tmod_lt_of_pos _ hn⟩
 ·exact ⟨Int.tmod_nonneg _ (by omega),Int.tmod_lt_of_pos _ hn⟩
theorem lpick_calls (c n : Int) (hc : -9223372036854775808<=c/\c<=9223372036854775807) (hn : 0 < n/\n<=2 ^ 41) (w : World) :
  Calls Tryz.prog 23 #[.int .i64 c,.int .i64 n] w fun r w'=>r = .returned (.int .i64 (pickN c n))/\w' = w:=by
 obtain ⟨c1,c2⟩:=hc;obtain ⟨n1,n2⟩:=hn;have hne : (n == 0) = false:=by simp; omega
 have hne' : n≠0:=by omega
 have hp:=pickN_in (c:=c) n1;have HP : Hid (0<=pickN c n/\pickN c n < n):=hp;clear hp;by_cases h0 : c < 0
 ·have hv : pickN c n = (-(c + 1)).tmod n:=by unfold pickN; rw [if_pos h0]
  have hv' : pickN c n = (-1 + -c).tmod n:=by rw [hv]; congr 1; omega
  go_enter Tryz.func23,Tryz.ntmps23
  go_wp2;go_ret;exact ⟨by rw [hv,Int.neg_tmod]; rfl,rfl⟩
 ·have hv : pickN c n = c.tmod n:=by unfold pickN; rw [if_neg h0]
  go_enter Tryz.func23,Tryz.ntmps23
  go_wp2;go_ret;exact ⟨by rw [Int.tmod_eq_emod_of_nonneg h0]; rfl,rfl⟩
def raw (c : Int) : Prop:=-9223372036854775808<=c/\c<=9223372036854775807
def cT (threads t : Int) : Int:=threads + pickN t (9 - threads)
def cN (n : Int) : Int:=pickN n 65
def cE (e : Int) : Int:=1 + pickN e 256
def cL (l : Int) : Int:=pickN l 1099511627777
theorem cfg_ok (kind threads t n e l : Int) (hk : kind = 0\/kind = 1) (ht : threads = 1\/threads = 2) : okCfg kind (cT threads t) (cN n) (cE e) (cL l) = true/\threads<=cT threads t:=by
 have h1:=pickN_in (c:=t) (n:=9 - threads) (by omega);have h2:=pickN_in (c:=n) (n:=65) (by omega);have h3:=pickN_in (c:=e) (n:=256) (by omega);have h4:=pickN_in (c:=l) (n:=1099511627777) (by omega);refine ⟨?_,by unfold cT; omega⟩;unfold okCfg cT cN cE cL;rw [isIn_true (by omega),isIn_true (by omega),isIn_true (by omega),isIn_true (by omega),isIn_true (by omega)]
 rfl
theorem config_calls (k t n e l kind threads : Int) (w : World) (ht : raw t) (hn : raw n) (he : raw e) (hl : raw l) (hth : threads = 1\/threads = 2) :
  Calls Tryz.prog 15 #[cfg k t n e l,.int .i64 kind,.int .i64 threads] w fun r w'=>r = .returned (cfg kind (cT threads t) (cN n) (cE e) (cL l))/\Fr (fun _=>False) w w':=by
 have HT:=(mkH (raw t/\raw n/\raw e/\raw l) <|⟨ht,hn,he,hl⟩);have h1:=pickN_in (c:=t) (n:=9 - threads) (by omega);have h2:=pickN_in (c:=n) (n:=65) (by omega);have h3:=pickN_in (c:=e) (n:=256) (by omega);have h4:=pickN_in (c:=l) (n:=1099511627777) (by omega);obtain ⟨h1a,h1b⟩:=h1;obtain ⟨h2a,h2b⟩:=h2;obtain ⟨h3a,h3b⟩:=h3;obtain ⟨h4a,h4b⟩:=h4;have hta : 1<=threads/\threads<=2:=by omega
 obtain ⟨hta1,hta2⟩:=hta;have HE:=(mkH (cT threads t = threads + pickN t (9 - threads)/\cN n = pickN n 65/\cE e = 1 + pickN e 256/\cL l = pickN l 1099511627777) <|⟨rfl,rfl,rfl,rfl⟩);clear ht hn he hl hth;unfold cfg
 go_enter Tryz.func15,Tryz.ntmps15
 go_wp2_with fail;refine (lpick_calls t (9 - threads) HT.out.1 (by omega) _).mono ?_;rintro r w1 ⟨rfl,rfl⟩;go_wp2_with fail;refine (lpick_calls n 65 HT.out.2.1 (by omega) _).mono ?_;rintro r w1 ⟨rfl,rfl⟩;go_wp2_with fail;refine (lpick_calls e 256 HT.out.2.2.1 (by omega) _).mono ?_;rintro r w1 ⟨rfl,rfl⟩;go_wp2_with fail;refine (lpick_calls l 1099511627777 HT.out.2.2.2 (by omega) _).mono ?_;rintro r w1 ⟨rfl,rfl⟩;go_wp2;refine bodyPost_ret (v:=cfg kind (cT threads t) (cN n) (cE e) (cL l)) (by simp [results,Tryz.results15,go_sem,cfg,cT,cN,cE,cL]) rfl ⟨by unfold cfg; rfl,?_⟩
 repeat (with_reducible first | refine Fr.setNew (by simp) ?_ _ _ | refine Fr.alloc ?_ _ | exact Fr.refl _ _)
end
section
open Go.RowKit
theorem Tryz.infoBoolP : (Tryz.prog.info? 4).map (fun i=>(i.zero,i.size,i.bytes)) = some (some (.bool false),1,1):=by kernel_rfl
theorem Tryz.infoOpP : (Tryz.prog.info? 53).map (fun i=>(i.zero,i.size,i.bytes)) = some (some (.agg #[.int .i64 0,.int .i64 0,.int .i64 0,.slice none 0 0]),4,48):=by kernel_rfl
def blankOp : OpV:=⟨0,0,0,[],.slice none 0 0⟩
theorem rep_succ {α : Type} (a : α) (j : Nat) : List.replicate j a ++ [a] = List.replicate (j + 1) a:=by
 rw [List.replicate_succ']
theorem fit_fresh {κ t n e l : Int} (hκ : κ = 0\/κ = 1) (ht : 1<=t/\t<=8) (hl : 0<=l/\l<=1099511627776) : Fit 0 (freshP κ t n e l):=by
 refine ⟨hκ,⟨by show (0 : Int)<=0; omega,hl.1⟩,hl.2,by simp [freshP]; omega,by simp [freshP,PSweep.zero],?_⟩;intro i u hu
 have:=(List.mem_replicate.1 (List.mem_of_getElem? (show (List.replicate t.toNat PThread.zero)[i]? = some u from hu))).2
 subst this;exact ⟨fun hb=>by simp [PThread.zero] at hb,SmallAns.zero rfl⟩
structure Grown (κ : Int) (w0 w : World) (pb s : Nat) (t n e l : Int) (bv ov fv : Value) (jb jo jf : Nat) : Prop where
 at_ : At w pb [pv s,.int .i64 κ,.int .i64 t,.int .i64 n,.int .i64 e,.int .i64 l,bv,ov,fv,.slice none 0 0,.int .i64 0,.int .i64 0] 42
 b : w.ownsRow 0 4 1 bv jb (boolCells (List.replicate jb false))
 o : w.ownsRow 0 53 4 ov jo ((List.replicate jo blankOp).flatMap OpV.cells)
 f : w.ownsRow 0 3 1 fv jf (intCells (List.replicate jf 0))
 nb : ∀ k,bv.ownBlock = some k->w0.heap.size<=k
 no : ∀ k,ov.ownBlock = some k->w0.heap.size<=k
 nf : ∀ k,fv.ownBlock = some k->w0.heap.size<=k
 np : w0.heap.size<=pb
 fr : Fr (fun _=>False) w0 w
section
variable {κ : Int} {w0 w : World} {pb s : Nat} {t n e l : Int} {bv ov fv : Value} {jb jo jf : Nat}
theorem apartBlk {v u : Value} (h : v.ownBlock = none\/v.ownBlock≠u.ownBlock) : ∀ k,u.ownBlock = some k->¬ v.ownBlock = some k:=by
 intro k hk hb;rcases h with h1 | h1
 ·rw [h1] at hb; cases hb
 ·rw [hb,hk] at h1; exact h1 rfl
theorem Grown.pushB (h : Grown κ w0 w pb s t n e l bv ov fv jb jo jf) {w5 : World} {g cap : Nat} {ob : Obj} (hown : w5.ownsRow 0 4 1 (.slice (some ⟨g,0,none⟩) (jb + 1) cap) (jb + 1) (boolCells (List.replicate jb false) ++ [.bool false])) (hgr : (w.alloc ob).grownBy w5 bv.ownBlock) (hge : bv.ownBlock = some g\/w.heap.size<=g) :
  Grown κ w0 (w5.setCell ⟨pb,6,none⟩ (.slice (some ⟨g,0,none⟩) (jb + 1) cap)) pb s t n e l (.slice (some ⟨g,0,none⟩) (jb + 1) cap) ov fv (jb + 1) (jo) (jf):=by
 have hF : Fr (fun k=>bv.ownBlock = some k) w w5:=Fr.grown ((Fr.refl _ _).alloc ob) hgr (fun k hk=>.inl hk);have hA : At w5 pb _ 42:=hF.at h.at_ (h.at_.ne_row h.b (by decide));have hne:=hA.ne_row hown (by decide);have hr:=ownsRow_setOther hown (a:=⟨pb,6,none⟩) hne (.slice (some ⟨g,0,none⟩) (jb + 1) cap);have hn : ∀ k,(Value.slice (some ⟨g,0,none⟩) (jb + 1) cap).ownBlock = some k->w0.heap.size<=k:=by
  intro k hk;simp [Value.ownBlock] at hk;subst hk;rcases hge with h1 | h1
  ·exact h.nb _ h1
  ·have:=h.fr.size; omega
 refine ⟨hA.set 6 _,?_,ownsRow_setOther (hF.owns h.o (apartBlk (ownsRow_ne h.b h.o (by decide)))) (h.at_.ne_row h.o (by decide)) _,ownsRow_setOther (hF.owns h.f (apartBlk (ownsRow_ne h.b h.f (by decide)))) (h.at_.ne_row h.f (by decide)) _,hn,h.no,h.nf,h.np,Fr.setNew h.np (Fr.transNew h.fr hF (fun k hk=>.inr (h.nb k hk))) 6 _⟩;rw [show boolCells (List.replicate (jb + 1) false) = boolCells (List.replicate jb false) ++ [.bool false] from by rw [<- rep_succ]; simp [boolCells]];exact hr
theorem Grown.pushO (h : Grown κ w0 w pb s t n e l bv ov fv jb jo jf) {w5 : World} {g cap : Nat} {ob : Obj} (hown : w5.ownsRow 0 53 4 (.slice (some ⟨g,0,none⟩) (jo + 1) cap) (jo + 1) ((List.replicate jo blankOp).flatMap OpV.cells ++ [.int .i64 0,.int .i64 0,.int .i64 0,.slice none 0 0])) (hgr : (w.alloc ob).grownBy w5 ov.ownBlock) (hge : ov.ownBlock = some g\/w.heap.size<=g) :
  Grown κ w0 (w5.setCell ⟨pb,7,none⟩ (.slice (some ⟨g,0,none⟩) (jo + 1) cap)) pb s t n e l bv (.slice (some ⟨g,0,none⟩) (jo + 1) cap) fv (jb) (jo + 1) (jf):=by
 have hF : Fr (fun k=>ov.ownBlock = some k) w w5:=Fr.grown ((Fr.refl _ _).alloc ob) hgr (fun k hk=>.inl hk);have hA : At w5 pb _ 42:=hF.at h.at_ (h.at_.ne_row h.o (by decide));have hne:=hA.ne_row hown (by decide);have hr:=ownsRow_setOther hown (a:=⟨pb,7,none⟩) hne (.slice (some ⟨g,0,none⟩) (jo + 1) cap);have hn : ∀ k,(Value.slice (some ⟨g,0,none⟩) (jo + 1) cap).ownBlock = some k->w0.heap.size<=k:=by
  intro k hk;simp [Value.ownBlock] at hk;subst hk;rcases hge with h1 | h1
  ·exact h.no _ h1
  ·have:=h.fr.size; omega
 refine ⟨hA.set 7 _,ownsRow_setOther (hF.owns h.b (apartBlk (ownsRow_ne h.o h.b (by decide)))) (h.at_.ne_row h.b (by decide)) _,?_,ownsRow_setOther (hF.owns h.f (apartBlk (ownsRow_ne h.o h.f (by decide)))) (h.at_.ne_row h.f (by decide)) _,h.nb,hn,h.nf,h.np,Fr.setNew h.np (Fr.transNew h.fr hF (fun k hk=>.inr (h.no k hk))) 7 _⟩;rw [show (List.replicate (jo + 1) blankOp).flatMap OpV.cells = (List.replicate jo blankOp).flatMap OpV.cells ++ [.int .i64 0,.int .i64 0,.int .i64 0,.slice none 0 0] from by rw [<- rep_succ,List.flatMap_append]; rfl];exact hr
theorem Grown.pushF (h : Grown κ w0 w pb s t n e l bv ov fv jb jo jf) {w5 : World} {g cap : Nat} {ob : Obj} (hown : w5.ownsRow 0 3 1 (.slice (some ⟨g,0,none⟩) (jf + 1) cap) (jf + 1) (intCells (List.replicate jf 0) ++ [.int .i64 0])) (hgr : (w.alloc ob).grownBy w5 fv.ownBlock) (hge : fv.ownBlock = some g\/w.heap.size<=g) :
  Grown κ w0 (w5.setCell ⟨pb,8,none⟩ (.slice (some ⟨g,0,none⟩) (jf + 1) cap)) pb s t n e l bv ov (.slice (some ⟨g,0,none⟩) (jf + 1) cap) (jb) (jo) (jf + 1):=by
 have hF : Fr (fun k=>fv.ownBlock = some k) w w5:=Fr.grown ((Fr.refl _ _).alloc ob) hgr (fun k hk=>.inl hk);have hA : At w5 pb _ 42:=hF.at h.at_ (h.at_.ne_row h.f (by decide));have hne:=hA.ne_row hown (by decide);have hr:=ownsRow_setOther hown (a:=⟨pb,8,none⟩) hne (.slice (some ⟨g,0,none⟩) (jf + 1) cap);have hn : ∀ k,(Value.slice (some ⟨g,0,none⟩) (jf + 1) cap).ownBlock = some k->w0.heap.size<=k:=by
  intro k hk;simp [Value.ownBlock] at hk;subst hk;rcases hge with h1 | h1
  ·exact h.nf _ h1
  ·have:=h.fr.size; omega
 refine ⟨hA.set 8 _,ownsRow_setOther (hF.owns h.b (apartBlk (ownsRow_ne h.f h.b (by decide)))) (h.at_.ne_row h.b (by decide)) _,ownsRow_setOther (hF.owns h.o (apartBlk (ownsRow_ne h.f h.o (by decide)))) (h.at_.ne_row h.o (by decide)) _,?_,h.nb,h.no,hn,h.np,Fr.setNew h.np (Fr.transNew h.fr hF (fun k hk=>.inr (h.nf k hk))) 8 _⟩;rw [show intCells (List.replicate (jf + 1) 0) = intCells (List.replicate jf 0) ++ [.int .i64 0] from by rw [<- rep_succ]; simp [intCells]];exact hr
end
section
variable {own : Own} {z : Nat}
structure FreshPl (κ t n e l : Int) (D : PlD) : Prop where
 P : D.P = freshP κ t n e l
 N : D.N = 0
 ok : D.ok
 cfg : D.k = κ/\D.t = t/\D.n = n/\D.e = e/\D.l = l
 deeds : D.deeds = []
 cnt : D.puts = 0/\D.takes = 0
theorem Grown.player {w w0 w' : World} {pb : Nat} {κ t n e l : Int} {bv ov fv : Value} {L : XLay} (hκ : κ = 0\/κ = 1) (ht : 1<=t/\t<=8) (hl : 0<=l/\l<=1099511627776) (hX : XAt w0 L (freshX κ t n e l)) (hL : ∀ b,L.own b->w.heap.size<=b) (hw : w.heap.size<=w0.heap.size) (hf : Fr (fun _=>False) w w0)
  (h : Grown κ w0 w' pb L.s t n e l bv ov fv t.toNat t.toNat t.toNat) : ∃ own' D,PlAt own' z w' pb D/\Ext own own' w/\FreshPl κ t n e l D/\Fr (fun _=>False) w w':=by
 obtain ⟨own1,L',hZ,hE1,es⟩:=ZAt.ofNew (own:=own) (z:=z) (w:=w) hX hL ht.2;obtain ⟨own2,ho2⟩ : ∃ own2 : Own,own2 = fun k=>if k = pb then ⟨z + 1,.store⟩ else if bv.ownBlock = some k then ⟨z + 1,.oth 1⟩ else if ov.ownBlock = some k then ⟨z + 1,.oth 2⟩ else if fv.ownBlock = some k then ⟨z + 1,.oth 3⟩ else own1 k:=⟨_,rfl⟩
 have hE2 : Ext own1 own2 w0:=by
  intro k hk;rw [ho2];simp only;rw [if_neg (fun e=>by have:=h.np; omega),if_neg (fun e=>by have:=h.nb k e; omega),if_neg (fun e=>by have:=h.no k e; omega),if_neg (fun e=>by have:=h.nf k e; omega)]
 have pne : ∀ k v (n : Nat) xs T sz,w'.ownsRow 0 T sz v n xs->T≠42->v.ownBlock = some k->k≠pb:=by
  rintro k v n xs T sz hr hT hk rfl;exact h.at_.ne_row hr (fun e=>hT e.symm) hk
 have o1 : ∀ k,bv.ownBlock = some k->own2 k = ⟨z + 1,.oth 1⟩:=by
  intro k hk; rw [ho2]; simp only;rw [if_neg (pne k _ _ _ _ _ h.b (by decide) hk),if_pos hk]
 have o2 : ∀ k,ov.ownBlock = some k->own2 k = ⟨z + 1,.oth 2⟩:=by
  intro k hk; rw [ho2]; simp only;rw [if_neg (pne k _ _ _ _ _ h.o (by decide) hk),if_neg (apartBlk (ownsRow_ne h.b h.o (by decide)) k hk),if_pos hk]
 have o3 : ∀ k,fv.ownBlock = some k->own2 k = ⟨z + 1,.oth 3⟩:=by
  intro k hk; rw [ho2]; simp only;rw [if_neg (pne k _ _ _ _ _ h.f (by decide) hk),if_neg (apartBlk (ownsRow_ne h.b h.f (by decide)) k hk),if_neg (apartBlk (ownsRow_ne h.o h.f (by decide)) k hk),if_pos hk]
 have hop : own2 pb = ⟨z + 1,.store⟩:=by rw [ho2]; simp
 have hlen : (freshP κ t n e l).ts.length = t.toNat:=by simp [freshP]
 refine ⟨own2,{ L:=L',P:=freshP κ t n e l,N:=0,k:=κ,t:=t,n:=n,e:=e,l:=l,bv:=bv,ov:=ov,fv:=fv,dv:=.slice none 0 0,bs:=List.replicate t.toNat false,ops:=List.replicate t.toNat blankOp,frm:=List.replicate t.toNat 0,deeds:=[],puts:=0,takes:=0 },⟨?_,hop,hZ.fr h.fr hE2 (fun _ _ h=>h),fit_fresh hκ ht hl,by rw [hlen]; show t = _; omega,⟨by rw [hlen]; exact h.b,o1⟩,by rw [hlen]; simp,⟨by rw [hlen]; exact h.o,o2⟩,by rw [hlen]; simp,⟨by rw [hlen]; exact h.f,o3⟩,by rw [hlen]; simp,Row.nil _ _ _ _ _ _,?_,by simp⟩,?_,⟨rfl,rfl,?_,⟨rfl,rfl,rfl,rfl,rfl⟩,rfl,⟨rfl,rfl⟩⟩,hf.trans h.fr⟩
 ·have:=h.at_
  simp only [PlD.cells,es];exact this
 ·intro o ho
  have:=(List.mem_replicate.1 ho).2
  subst this;exact Row.nil _ _ _ _ _ _
 ·intro k hk; rw [hE2 k (by omega)]; exact hE1 k hk
 ·show List.replicate t.toNat false = (List.replicate t.toNat PThread.zero).map (·.busy);rw [List.map_replicate]; rfl
theorem player_calls (κ t n e l : Int) (w : World) (own : Own) (z : Nat) (hok : okCfg κ t n e l = true) :
  Calls Tryz.prog 16 #[cfg κ t n e l] w fun r w'=>∃ pb,r = .returned (pv pb)/\∃ own' D,PlAt own' z w' pb D/\Ext own own' w/\FreshPl κ t n e l D/\Fr (fun _=>False) w w':=by
 obtain ⟨hκ,ht,hn,he,hl⟩ : (0<=κ/\κ<=1)/\(1<=t/\t<=8)/\(0<=n/\n<=64)/\(1<=e/\e<=256)/\(0<=l/\l<=1099511627776):=by
  simp only [okCfg,Bool.and_eq_true,isIn_iff] at hok;omega
 obtain ⟨iB,hiB,hzB,hsB,hbB⟩:=info_parts Tryz.infoBoolP;obtain ⟨iO,hiO,hzO,hsO,hbO⟩:=info_parts Tryz.infoOpP;obtain ⟨iI,hiI,hzI,hsI,hbI⟩:=info_parts Tryz.infoIntZ;have HOK : Hid _:=hok;have HK:=(mkH (κ = 0\/κ = 1) <|(show κ = 0\/κ = 1 by omega));have HLm:=(mkH (0<=l/\l<=1099511627776) <|hl);obtain ⟨ht1,ht2⟩:=ht;clear hok hn he hl hκ;unfold cfg
 go_enter Tryz.func16,Tryz.ntmps16
 go_wp2_with fail;refine (XNew_yes κ t n e l _ HOK.out).mono ?_;rintro r w1 ⟨L,rfl,hX,hF1,hL⟩;have hC : At w1 w.heap.size [.int .i64 κ,.int .i64 t,.int .i64 n,.int .i64 e,.int .i64 l] 23:=hF1.at (At.new w _ _) (fun h=>h);have hcc:=hC.cell;have HC:=(mkH (At w1 w.heap.size _ 23) <|hC);have HF1:=(mkH (Fr (fun _=>False) w w1) <|((Fr.refl _ _).alloc _).trans hF1);have HX:=(mkH (XAt _ _ _) <|hX);simp only [World.size_alloc] at hL;have HL:=(mkH (∀ b,L.own b->w.heap.size<=b) <|fun b hb=>by have:=hL b hb; omega);clear hF1 hC hX hL;go_wp2_with fail;have HG0 : Hid (Grown κ w1 (w1.alloc (.cells #[.pointer (some ⟨L.s,0,none⟩),.int .i64 κ,.int .i64 t,.int .i64 n,.int .i64 e,.int .i64 l,.slice none 0 0,.slice none 0 0,.slice none 0 0,.slice none 0 0,.int .i64 0,.int .i64 0] 42)) w1.heap.size L.s t n e l (.slice none 0 0) (.slice none 0 0) (.slice none 0 0) 0 0 0) :=
  ⟨At.new w1 _ _,⟨by simp [boolCells],.inl ⟨rfl,rfl⟩⟩,⟨by simp,.inl ⟨rfl,rfl⟩⟩,⟨by simp [intCells],.inl ⟨rfl,rfl⟩⟩,by intro k hk; simp [Value.ownBlock] at hk,by intro k hk; simp [Value.ownBlock] at hk,by intro k hk; simp [Value.ownBlock] at hk,Nat.le_refl _,(Fr.refl _ _).alloc _⟩
 generalize hpb : w1.heap.size = pb at HG0 ⊢;clear hcc
 go_loopw [6] (fun i wr=>∃ j : Nat,(j : Int)<=t/\i = .int .i64 j/\∃ bv ov fv,Hid (Grown κ w1 wr pb L.s t n e l bv ov fv j j j)) (fun i _=>(t - intOf i).toNat)
 case atStart=>exact ⟨0,by omega,rfl,_,_,_,HG0⟩
 case round =>
  clear HG0;obtain ⟨j,hj,rfl,bv,ov,fv,HG⟩:=hrel;have hcc:=(HG.out.fr.at HC.out (fun h=>h)).cell;have ha:=HG.out.at_.cell;have hz:=HG.out.at_.frozen;have hpl:=HG.out.at_.lt;simp only [pv] at ha;by_cases hlt : (j : Int) < t
  ·have hne : w.heap.size≠pb:=(HG.out.fr.at HC.out (fun h=>h)).ne HG.out.at_ (by decide);obtain ⟨ba,bc,hbv⟩:=ownsShape HG.out.b;obtain ⟨oa,oc,hov⟩:=ownsShape HG.out.o;obtain ⟨fa,fc,hfv⟩:=ownsShape HG.out.f;subst hbv hov hfv;go_wp2_with (at_builtin; refine wpList_push _ rfl _ _ 37 rfl 0 4 iB _ 1 1 Tryz.underlying37 hiB hzB hsB hbB rfl (by decide) _ _ _ rfl (ownsRow_alloc HG.out.b _) wr.heap.size [.bool false] rfl rfl 4 (At.newAt (by simp) _ _) (by simp [Value.oneCell']) (by unfold maxLen; omega) (by omega) (by simp) ?_);intro g1 k1 w2 hown hgr hge;have hA2 : At w2 pb _ 42:=(Fr.grown ((Fr.refl (fun k=>(Value.slice ba j bc).ownBlock = some k) wr).alloc _) hgr (fun k hk=>.inl hk)).at HG.out.at_ (HG.out.at_.ne_row HG.out.b (by decide));have HG1:=(mkH (Grown κ w1 _ pb L.s t n e l _ _ _ (j + 1) j j) <|HG.out.pushB hown hgr (by rcases hge with h | h; exact .inl h; exact .inr (by first | omega | (simp at h; omega))));have ha2:=hA2.cell;have hz2:=hA2.frozen;have hl2:=hA2.lt;simp only [pv] at ha2;clear hown hgr hge hA2 ha hz hpl HG hcc;obtain ⟨w3,hw3⟩ : ∃ w3,w3 = w2.setCell ⟨pb,6,none⟩ (.slice (some ⟨g1,0,none⟩) (j + 1) k1):=⟨_,rfl⟩;rw [<- hw3] at HG1;have ha3 : ∀ o,(w2.setCell ⟨pb,6,none⟩ (.slice (some ⟨g1,0,none⟩) (j + 1) k1)).cell? ⟨pb,o,none⟩ = [Value.pointer (some ⟨L.s,0,none⟩),.int .i64 κ,.int .i64 t,.int .i64 n,.int .i64 e,.int .i64 l,.slice (some ⟨g1,0,none⟩) (j + 1) k1,.slice oa j oc,.slice fa j fc,.slice none 0 0,.int .i64 0,.int .i64 0][o]?:=by rw [<- hw3]; exact HG1.out.at_.cell
   have hR1 : (w2.setCell ⟨pb,6,none⟩ (.slice (some ⟨g1,0,none⟩) (j + 1) k1)).ownsRow 0 53 4 (.slice oa j oc) j ((List.replicate j blankOp).flatMap OpV.cells):=by rw [<- hw3]; exact HG1.out.o
   have HR1:=(mkH (World.ownsRow _ 0 _ _ _ _ _) <|hR1);clear hR1;go_wp2_with (at_builtin; refine wpList_push _ rfl _ _ 38 rfl 0 53 iO _ 4 48 Tryz.underlying38 hiO hzO hsO hbO rfl (by decide) _ _ _ rfl (ownsRow_alloc HR1.out _) w2.heap.size [.int .i64 0,.int .i64 0,.int .i64 0,.slice none 0 0] rfl rfl 53 (At.newAt (by simp) _ _) (by simp [Value.oneCell']) (by unfold maxLen; omega) (by omega) (by simp) ?_);intro g2 k2 w4 hown hgr hge;rw [<- hw3] at hgr;have hA4 : At w4 pb _ 42:=(Fr.grown ((Fr.refl (fun k=>(Value.slice oa j oc).ownBlock = some k) w3).alloc _) hgr (fun k hk=>.inl hk)).at HG1.out.at_ (HG1.out.at_.ne_row HG1.out.o (by decide));have HG2:=(mkH (Grown κ w1 _ pb L.s t n e l _ _ _ (j + 1) (j + 1) j) <|HG1.out.pushO hown hgr (by rcases hge with h | h; exact .inl h; exact .inr (by rw [hw3]; first | omega | (simp at h ⊢; omega))));have ha4:=hA4.cell;have hz4:=hA4.frozen;have hl4:=hA4.lt;simp only [pv] at ha4;clear hown hgr hge hA4 ha2 hz2 hl2 HG1 ha3 hw3 HR1;obtain ⟨w5,hw5⟩ : ∃ w5,w5 = w4.setCell ⟨pb,7,none⟩ (.slice (some ⟨g2,0,none⟩) (j + 1) k2):=⟨_,rfl⟩;rw [<- hw5] at HG2;have ha5 : ∀ o,(w4.setCell ⟨pb,7,none⟩ (.slice (some ⟨g2,0,none⟩) (j + 1) k2)).cell? ⟨pb,o,none⟩ = [Value.pointer (some ⟨L.s,0,none⟩),.int .i64 κ,.int .i64 t,.int .i64 n,.int .i64 e,.int .i64 l,.slice (some ⟨g1,0,none⟩) (j + 1) k1,.slice (some ⟨g2,0,none⟩) (j + 1) k2,.slice fa j fc,.slice none 0 0,.int .i64 0,.int .i64 0][o]?:=by rw [<- hw5]; exact HG2.out.at_.cell
   have HR2:=(mkH ((w4.setCell ⟨pb,7,none⟩ (.slice (some ⟨g2,0,none⟩) (j + 1) k2)).ownsRow 0 3 1 (.slice fa j fc) j (intCells (List.replicate j 0))) <|by rw [<- hw5]; exact HG2.out.f);go_wp2_with (at_builtin; refine wpList_push _ rfl _ _ 39 rfl 0 3 iI _ 1 8 Tryz.underlying39 hiI hzI hsI hbI rfl (by decide) _ _ _ rfl (ownsRow_alloc HR2.out _) w4.heap.size [.int .i64 0] rfl rfl 3 (At.newAt (by simp) _ _) (by simp [Value.oneCell']) (by unfold maxLen; omega) (by omega) (by simp) ?_);intro g3 k3 w6 hown hgr hge;rw [<- hw5] at hgr;have hA6 : At w6 pb _ 42:=(Fr.grown ((Fr.refl (fun k=>(Value.slice fa j fc).ownBlock = some k) w5).alloc _) hgr (fun k hk=>.inl hk)).at HG2.out.at_ (HG2.out.at_.ne_row HG2.out.f (by decide));have HG3:=(mkH (Grown κ w1 _ pb L.s t n e l _ _ _ (j + 1) (j + 1) (j + 1)) <|HG2.out.pushF hown hgr (by rcases hge with h | h; exact .inl h; exact .inr (by rw [hw5]; first | omega | (simp at h ⊢; omega))));have ha6:=hA6.cell;have hz6:=hA6.frozen;have hl6:=hA6.lt;simp only [pv] at ha6;clear hown hgr hge hA6 ha4 hz4 hl4 HG2 ha5 hw5 HR2;go_wp2
   go_roundw
   case rel=>exact ⟨j + 1,by omega,by go_num,_,_,_,HG3⟩
   case measure=>simp [intOf]; omega
  ·have hjt : j = t.toNat:=by omega
   have HGt:=(mkH (Grown κ w1 wr pb L.s t n e l bv ov fv t.toNat t.toNat t.toNat) <|by rw [<- hjt]; exact HG.out);clear hjt;go_wp2;go_ret;obtain ⟨own',D,h1,h2,h3,h4⟩:=HGt.out.player (own:=own) (z:=z) HK.out ⟨ht1,ht2⟩ HLm.out HX.out HL.out HF1.out.size HF1.out;exact ⟨pb,rfl,own',D,h1,h2,h3,h4⟩
end
end
section
open Go.RowKit
def PSt.iter (P : PSt) (i : Nat) : Nat->PSt
 | 0=>P
 | j + 1=>((P.iter i j).step i ((P.iter i j).th i)).1
def PSt.how (P : PSt) (i j : Nat) : Int:=((P.iter i j).step i ((P.iter i j).th i)).2
structure Iter (D : PlD) (i j : Nat) (D' : PlD) : Prop where
 P : D'.P = D.P.iter i j
 N : D'.N = D.N + j
 cfg : D'.k = D.k/\D'.t = D.t/\D'.n = D.n/\D'.e = D.e/\D'.l = D.l
 same : D'.ops = D.ops/\D'.frm = D.frm/\D'.puts = D.puts/\D'.takes = D.takes/\D'.bs = D.bs/\D'.deeds = D.deeds
 busy : ∃ t,D'.P.ts[i]? = some t/\t.busy = true
structure Soloed (D : PlD) (i m : Nat) (D' : PlD) : Prop where
 P : D'.P = D.P.iter i (m + 1)
 N : D'.N = D.N + m + 1
 cfg : D'.k = D.k/\D'.t = D.t/\D'.n = D.n/\D'.e = D.e/\D'.l = D.l
 same : D'.ops = D.ops/\D'.frm = D.frm/\D'.puts = D.puts/\D'.takes = D.takes
 bs : D'.bs = D.bs.set i false
 deeds : ∃ av o f,D.ops[i]? = some o/\D.frm[i]? = some f/\D'.deeds = D.deeds ++ [⟨o,((D.P.iter i m).th i).work.ans,av,f⟩]
section
variable {own : Own} {z : Nat} {w w' : World} {pb : Nat} {D D1 : PlD} {i j : Nat} {t : PThread}
theorem th_of {P : PSt} (h : P.ts[i]? = some t) : P.th i = t:=by simp [PSt.th,h]
theorem Iter.next (h : Iter D i j D1) (hf : Fit D1.N D1.P) {D2 : PlD} (hs : Stepped D1 i (D1.P.th i) D2) (h1 : D.P.how i j = 1) : Iter D i (j + 1) D2:=by
 obtain ⟨t,ht,hb⟩:=h.busy;have hth:=th_of ht;have hP : D2.P = D.P.iter i (j + 1):=by rw [hs.P,PSt.iter,h.P]
 have h2 : (D1.P.step i (D1.P.th i)).2 = 1:=by rw [h.P]; exact h1
 refine ⟨hP,by rw [hs.N,h.N]; omega,?_,⟨hs.ops.trans h.same.1,hs.frm.trans h.same.2.1,hs.cnt.1.trans h.same.2.2.1,hs.cnt.2.trans h.same.2.2.2.1,?_,?_⟩,?_⟩
 ·obtain ⟨a1,a2,a3,a4,a5⟩:=hs.cfg;obtain ⟨b1,b2,b3,b4,b5⟩:=h.cfg;exact ⟨a1.trans b1,a2.trans b2,a3.trans b3,a4.trans b4,a5.trans b5⟩
 ·rw [hs.bs,if_neg (by omega)]; exact h.same.2.2.2.2.1
 ·rw [hs.deeds.1 (by omega)]; exact h.same.2.2.2.2.2
 ·rw [hth] at h2 hs;obtain ⟨M,c,t',e,_,_,_,hb',_⟩:=(hf.turn ht hb).to;refine ⟨t',?_,?_⟩
  ·rw [hs.P,e]
   have:=(List.getElem?_eq_some_iff.1 ht).1
   simp [this]
  ·rw [hb',if_neg (by omega)]
theorem Psolo_calls (h : PlAt own z w pb D) (hn : 0<=D.n/\D.n<=64) (hb : D.bs[i]? = some true) (ht : D.P.ts[i]? = some t) (htb : t.busy = true) (hN : D.N<=2 ^ 38) (hdl : D.deeds.length<=2 ^ 38) (m : Nat) (hm : (m : Int) < D.n + 16) (hmv : ∀ j,j < m->D.P.how i j = 1) (hend : D.P.how i m = 3) :
  Calls Tryz.prog 30 #[pv pb,.int .i64 i] w fun r w'=>r = .returned (.bool true)/\PlGoes own z w pb w' (Soloed D i m):=by
 obtain ⟨hn1,hn2⟩:=hn;have H:=(mkH (PlAt own z w pb D) <|h);have HI:=(mkH (Iter D i 0 D) <|⟨rfl,rfl,⟨rfl,rfl,rfl,rfl,rfl⟩,⟨rfl,rfl,rfl,rfl,rfl,rfl⟩,t,ht,htb⟩);have HB:=(mkH (D.bs[i]? = some true) <|hb);have HM:=(mkH (∀ j,j < m->D.P.how i j = 1) <|hmv);have HE:=(mkH (D.P.how i m = 3) <|hend);clear h ht htb hb hmv hend;unfold pv
 go_enter Tryz.func30,Tryz.ntmps30
 go_wp2
 go_loopw [5] (fun v wr=>∃ j : Nat,j<=m/\v = .int .i64 j/\Hid (PlGoes own z w pb wr (Iter D i j))) (fun v _=>m + 1 - (intOf v).toNat)
 case atStart=>exact ⟨0,by omega,rfl,own,D,H.out,Ext.refl _ _,Fr.refl _ _,HI.out⟩
 case round =>
  clear H;obtain ⟨j,hj,rfl,HG⟩:=hrel;obtain ⟨own1,D1,hP,hE,hF,hI⟩:=HG.out;have HP:=(mkH (PlAt own1 z wr pb D1) <|hP);have HX:=(mkH (Ext own own1 w/\FrP own z w wr) <|⟨hE,hF⟩);have HIt:=(mkH (Iter D i j D1) <|hI);have ha:=hP.at_.cell;simp only [PlD.cells,hI.cfg.2.2.1,pv] at ha;clear hP hE hF hI HG;obtain ⟨t1,ht1,hb1⟩:=HIt.out.busy;have HT:=(mkH (D1.P.ts[i]? = some t1/\t1.busy = true/\D1.P.th i = t1) <|⟨ht1,hb1,th_of ht1⟩);have HBs:=(mkH (D1.bs[i]? = some true) <|by show _ = _; rw [HIt.out.same.2.2.2.2.1]; exact HB.out);have HD:=(mkH (D1.N < 2 ^ 39/\D1.deeds.length<=2 ^ 38) <|⟨by rw [HIt.out.N]; omega,by rw [HIt.out.same.2.2.2.2.2]; exact hdl⟩);clear ht1 hb1;by_cases hlt : j < m
  ·have h1:=HM.out j hlt;have HH:=(mkH ((D1.P.step i t1).2 = 1) <|by show _ = _; rw [<- HT.out.2.2,HIt.out.P]; exact h1);go_wp2_with fail;refine (Psteps_on HP.out HBs.out HT.out.1 HT.out.2.1 HD.out.1 (by rw [HH.out]; decide)).mono ?_;rw [HH.out];rintro r w2 ⟨rfl,own2,D2,hP2,hE2,hF2,hS2⟩;have HG2:=(mkH (PlGoes own z w pb w2 (Iter D i (j + 1))) <|PlGoes.trans HX.out.1 HX.out.2 ⟨own2,D2,hP2,hE2,hF2,HIt.out.next HP.out.fit (by rw [HT.out.2.2]; exact hS2) h1⟩);clear hP2 hE2 hF2 hS2 h1;go_wp2
   go_roundw
   case rel=>exact ⟨j + 1,by omega,by go_num,HG2⟩
   case measure=>simp [intOf]; omega
  ·have hjm : Hid (j = m):=by show j = m; omega
   have HH:=(mkH ((D1.P.step i t1).2 = 3) <|by show _ = _; rw [<- HT.out.2.2,HIt.out.P,hjm.out]; exact HE.out);go_wp2_with fail;refine (Psteps_end HP.out HBs.out HT.out.1 HT.out.2.1 HD.out.1 HD.out.2 HH.out).mono ?_;rintro r w2 ⟨rfl,own2,D2,hP2,hE2,hF2,hS2⟩;have HG2:=(mkH (PlGoes own z w pb w2 (Soloed D i m)) <|PlGoes.trans HX.out.1 HX.out.2 ⟨own2,D2,hP2,hE2,hF2,by
    have hI:=HIt.out;rw [hjm.out] at hI;obtain ⟨av,o,f,q1,q2,q3⟩:=hS2.deeds.2 HH.out;refine ⟨?_,by rw [hS2.N,hI.N],?_,⟨hS2.ops.trans hI.same.1,hS2.frm.trans hI.same.2.1,hS2.cnt.1.trans hI.same.2.2.1,hS2.cnt.2.trans hI.same.2.2.2.1⟩,?_,?_⟩
    ·rw [hS2.P,PSt.iter,<- hI.P,HT.out.2.2]
    ·obtain ⟨a1,a2,a3,a4,a5⟩:=hS2.cfg;obtain ⟨b1,b2,b3,b4,b5⟩:=hI.cfg;exact ⟨a1.trans b1,a2.trans b2,a3.trans b3,a4.trans b4,a5.trans b5⟩
    ·rw [hS2.bs,if_pos HH.out,hI.same.2.2.2.2.1]
    ·refine ⟨av,o,f,by rw [<- hI.same.1]; exact q1,by rw [<- hI.same.2.1]; exact q2,?_⟩;rw [q3,hI.same.2.2.2.2.2,<- hI.P,HT.out.2.2]⟩)
   clear hP2 hE2 hF2 hS2;go_wp2;go_ret;exact ⟨rfl,HG2.out⟩
end
end
section
open Go.RowKit
section
variable {own : Own} {z : Nat} {w w' : World} {pb : Nat} {D D1 : PlD} {i j : Nat}
theorem sweep_ts (P : PSt) : P.doSweep.1.ts = P.ts:=by
 unfold PSt.doSweep;simp only;split
 ·rfl
 ·split
  ·split <;> rfl
  ·split <;> rfl
end
end
section
def shVal (ps : List (Int × Int)) (key : Int) : Int × Bool:=match ps.find? (fun p=>p.1 == key) with
 | some p=>(p.2,true)
 | none=>(0,false)
def shSide (key : Int) (below : Bool) (p : Int × Int) : Bool:=if below then decide (p.1 < key) else decide (key < p.1)
theorem shVal_hit {ps : List (Int × Int)} {key : Int} {j : Nat} {x : Int × Int} (h : ∀ p ∈ ps.take j,p.1≠key) (hx : ps[j]? = some x) (hk : x.1 = key) : shVal ps key = (x.2,true):=by
 have hj:=(List.getElem?_eq_some_iff.1 hx).1;have he : ps = ps.take j ++ x :: ps.drop (j + 1):=by
  rw [<- (List.getElem?_eq_some_iff.1 hx).2,List.getElem_cons_drop,List.take_append_drop]
 unfold shVal;rw [he,List.find?_append,List.find?_eq_none.2 (fun p hp=>by simpa using h p hp)];simp [hk]
theorem shVal_miss {ps : List (Int × Int)} {key : Int} (h : ∀ p ∈ ps,p.1≠key) : shVal ps key = (0,false):=by
 unfold shVal;rw [List.find?_eq_none.2 (fun p hp=>by simpa using h p hp)]
def shLo (ps : List (Int × Int)) (key : Int) : List (Int × Int):=ps.filter (shSide key true)
def shHi (ps : List (Int × Int)) (key : Int) : List (Int × Int):=ps.filter (shSide key false)
def shPut (ps : List (Int × Int)) (key value : Int) : List (Int × Int):=shLo ps key ++ [(key,value)] ++ shHi ps key
def shDel (ps : List (Int × Int)) (key : Int) : List (Int × Int):=shLo ps key ++ shHi ps key
def shUpd (ps : List (Int × Int)) (kind key : Int) : Bool:=(kind == 1 && !(shVal ps key).2) || (kind == 2 && (shVal ps key).2)
def shAns (ps : List (Int × Int)) (kind key : Int) (spans : List (Int × Int)) : BAns :=
 if kind = 4 then answerOf spans ps 0
 else if kind = 3 then { did:=(shVal ps key).2,value:=(shVal ps key).1 }
 else if shUpd ps kind key then { did:=true,value:=if kind = 2 then (shVal ps key).1 else 0 }
 else {}
def shNew (ps : List (Int × Int)) (kind key value : Int) : List (Int × Int) :=
 if shUpd ps kind key then (if kind = 1 then shPut ps key value else shDel ps key) else ps
def own00 : Own:=fun _=>⟨0,.store⟩
end
section
theorem least_fold : ∀ (l : List (Int × Int)) (m : Int),l.foldl (fun m p=>if p.1 < m then p.1 else m) m<=m/\∀ p ∈ l,l.foldl (fun m p=>if p.1 < m then p.1 else m) m<=p.1
 | [],m=>⟨Int.le_refl _,by intro p hp; cases hp⟩
 | x :: r,m=>by
  rw [List.foldl_cons];obtain ⟨h1,h2⟩:=least_fold r (if x.1 < m then x.1 else m);have h3 : (if x.1 < m then x.1 else m)<=m/\(if x.1 < m then x.1 else m)<=x.1:=by split <;> omega
  refine ⟨by omega,?_⟩;intro p hp;rcases List.mem_cons.1 hp with rfl | hp
  ·omega
  ·exact h2 p hp
theorem great_fold : ∀ (l : List (Int × Int)) (m b : Int),m<=b->(∀ p ∈ l,p.2<=b)->m<=l.foldl (fun m p=>if p.2 > m then p.2 else m) m/\(∀ p ∈ l,p.2<=l.foldl (fun m p=>if p.2 > m then p.2 else m) m)/\l.foldl (fun m p=>if p.2 > m then p.2 else m) m<=b
 | [],m,b,hm,_=>⟨Int.le_refl _,(by intro p hp; exact nomatch hp),hm⟩
 | x :: r,m,b,hm,hb=>by
  rw [List.foldl_cons];have hx:=hb x (by simp);have h3 : m<=(if x.2 > m then x.2 else m)/\x.2<=(if x.2 > m then x.2 else m)/\(if x.2 > m then x.2 else m)<=b:=by split <;> omega
  obtain ⟨h1,h2,h4⟩:=great_fold r (if x.2 > m then x.2 else m) b h3.2.2 (fun p hp=>hb p (by simp [hp]));refine ⟨by omega,?_,h4⟩;intro p hp;rcases List.mem_cons.1 hp with rfl | hp
  ·omega
  ·exact h2 p hp
theorem hull_lists (spans ps : List (Int × Int)) (lo hi : Int) (h : ∀ p ∈ spans,lo<=p.1/\p.2<=hi) : spanLists spans (ps.filter (fun q=>isIn q.1 lo hi)) = spanLists spans ps:=by
 unfold spanLists;apply List.map_congr_left;intro p hp;rw [List.filter_filter];apply List.filter_congr;intro q _;obtain ⟨h1,h2⟩:=h p hp;unfold inSpan;by_cases hq : isIn q.1 p.1 p.2 = true
 ·have:=isIn_iff.1 hq
  rw [hq,isIn_true (by omega)]; rfl
 ·simp [hq]
theorem spansOk_mem : ∀ {l : List (Int × Int)},spansOkX l = true->∀ p ∈ l,p.2<=1099511627776
 | [],_,p,hp=>by cases hp
 | x :: r,h,p,hp=>by
  simp only [spansOkX,Bool.and_eq_true,isIn_iff] at h;rcases List.mem_cons.1 hp with rfl | hp
  ·have:=h.2.1.2; omega
  ·exact spansOk_mem h.2.2.2 p hp
theorem hull_answer {spans : List (Int × Int)} (hs : spansOkX spans = true) (ps : List (Int × Int)) (c : Int) : answerOf spans (ps.filter (fun q=>isIn q.1 (leastLo spans) (greatestHi spans))) c = answerOf spans ps c/\greatestHi spans<=1099511627776:=by
 obtain ⟨_,h2,h3⟩:=great_fold spans 0 1099511627776 (by omega) (spansOk_mem hs);have h1:=(least_fold spans (2 ^ 40)).2;refine ⟨?_,h3⟩;unfold answerOf;rw [hull_lists spans ps (leastLo spans) (greatestHi spans) (fun p hp=>⟨h1 p hp,h2 p hp⟩)]
end
end Go.Proofs.YtfccelbmacjifabGreat
