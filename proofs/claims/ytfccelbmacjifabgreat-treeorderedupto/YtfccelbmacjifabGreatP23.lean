import Derived.Test.YtfccelbmacjifabGreatP0
import Derived.Test.YtfccelbmacjifabGreatP22
import Derived.Test.YtfccelbmacjifabGreatP20
set_option linter.unusedSimpArgs false
set_option maxRecDepth 100000
set_option maxHeartbeats 4000000
namespace Go.Proofs.YtfccelbmacjifabGreat
section
open Go.RowKit
theorem Tryz.infoSn : (Tryz.prog.info? 81).map (fun i=>(i.zero,i.size,i.bytes)) = some (some (.agg #[.int .i64 0,.int .i64 0]),2,16):=by kernel_rfl
theorem Fr.keepCellS {S : Nat->Prop} {w w' : World} (hf : Fr S w w') {a : Addr} {v : Value} (h : w.cell? a = some v) (hS : ¬ S a.block) : w'.cell? a = some v:=by
 rw [cellHeap (hf.block a.block (cellLt h) hS)]; exact h
structure OwnSpans (w0 w : World) (v : Value) (ps : List (Int × Int)) : Prop where
 row : w.ownsRow 0 81 2 v ps.length (ps.flatMap pairCells)
 new : ∀ k,v.ownBlock = some k->w0.heap.size<=k
 fr : Fr (fun _=>False) w0 w
theorem newWork_scan (key value : Int) (a : Option Addr) (c : Nat) (ps : List (Int × Int)) (hl : ps.length<=16) (w : World) (hP : PairsAt w a ps) :
  Calls Tryz.prog 64 #[opVal 4 key value (.slice a ps.length c)] w fun e w'=>∃ sp lk,e = .returned (.agg (workV (newWork 4 key value ps) sp lk).toArray)/\OwnSpans w w' sp ps/\OwnLinks w w' lk [(0,false)]:=by
 have hws:=work_size;have hag : ∀ w : World,(isAgg 116).run Tryz.prog w = .ok true w:=fun _=>by kernel_rfl
 obtain ⟨iP,hiP,hzP,hsP,hbP⟩:=info_parts Tryz.infoSn;obtain ⟨iL,hiL,hzL,hsL,hbL⟩:=info_parts Tryz.infoLk;have HP:=(mkH (PairsAt w a ps) <|hP);clear hP;obtain ⟨nw,hnw⟩ : ∃ nw,newWork 4 key value ps = nw:=⟨_,rfl⟩;rw [hnw];have HNW:=(mkH (_ = nw) <|hnw);clear hnw;unfold opVal
 go_enter Tryz.func64,Tryz.ntmps64
 go_upto_region 2 with (refine wpList_storeAgg _ rfl _ _ 116 rfl (w.heap.size + 2) 0 (wk0 _) rfl rfl hws wkZ 116 (At.newAt (by simp) _ _) (by simp [wk0,wkZ,workV]) (by simp [wk0,workV,Value.oneCell']) ?_)
 generalize hw1 : World.setCells _ _ _ _ = w1;obtain ⟨h1,h2,h3,h4⟩:=newWork_start _ [.int .i64 4,.int .i64 key,.int .i64 value,.slice a ps.length c] w w1 hw1.symm;have HO:=(mkH (At _ _ _ _) <|h1);have HR:=(mkH (At _ _ _ _) <|h2);have HV:=(mkH (At _ _ _ _) <|h3);have HFF:=(mkH (Fr _ w _) <|h4);clear hw1 h1 h2 h3 h4;have ho:=HO.out.cell;go_wp2
 go_loopw [29] (fun i wr=>∃ k : Nat,k<=ps.length/\i = .int .i64 k/\∃ va vn vc,Hid (OwnSpans w wr (.slice va vn vc) (ps.take k))/\Hid (At wr (w.heap.size + 2) (workV (wkOf 4 0 0) (.slice va vn vc) (.slice none 0 0)) 116)/\Hid (At wr w.heap.size [.int .i64 4,.int .i64 key,.int .i64 value,.slice a ps.length c] 53)/\Hid (At wr (w.heap.size + 1) wkZ 116)) (fun i _=>ps.length - (intOf i).toNat)
 case atStart =>
  refine ⟨0,Nat.zero_le _,rfl,none,0,0,⟨⟨by simp,.inl ⟨rfl,rfl⟩⟩,by intro k hk; simp [Value.ownBlock] at hk,HFF.out⟩,HV,HO,HR⟩
 case round =>
  clear HO HR HV HFF ho;obtain ⟨k,hk,rfl,va,vn,vc,HS,HV,HO,HR⟩:=hrel;have ho:=HO.out.cell;have hv:=HV.out.cell;have hvz:=HV.out.frozen;simp only [workV] at hv;by_cases hlt : k < ps.length
  ·have hx : Hid (ps[k]? = some ps[k]):=List.getElem?_eq_getElem hlt;generalize ps[k] = x at hx;obtain ⟨g,rfl,c0,c1⟩:=(HP.out.calm HS.out.fr) k x hx.out;have HN : Hid (ps.take (k + 1) = ps.take k ++ [x]):=by show _ = _; rw [List.take_add_one,hx.out]; rfl
   have hkl : (ps.take k).length = k:=by rw [List.length_take]; omega
   go_wp2_with fail;have hrow:=HS.out.row;obtain ⟨ra,rc,hrv⟩:=ownsShape hrow;obtain ⟨rfl,rfl,rfl⟩ : va = ra/\vn = (ps.take k).length/\vc = rc:=by simpa using hrv
   rw [hkl] at HS HV hv hrow;have hrow1 : (wr.drew.alloc (.cells #[.int .i64 x.1,.int .i64 x.2] 81)).ownsRow 0 81 2 (.slice va k vc) k ((ps.take k).flatMap pairCells):=ownsRow_alloc (World.ownsRow.drew hrow) _;obtain ⟨g',gcap,w3,hown,hg,hge,hrun⟩:=push_runs (P:=Tryz.prog) (wr.drew.alloc (.cells #[.int .i64 x.1,.int .i64 x.2] 81)) 27 27 0 81 iP (.agg #[.int .i64 0,.int .i64 0]) 2 16 Tryz.underlying27 hiP hzP hsP hbP rfl (by decide) _ _ _ hrow1
    wr.heap.size [.int .i64 x.1,.int .i64 x.2] rfl 81 (At.newAt rfl _ _) (by simp [Value.oneCell']) (by unfold maxLen; omega) (by omega) (by simp)
   have HV3:=(mkH (At w3 (w.heap.size + 2) _ _) <|((HV.out.drew).alloc _).grown hg (HV.out.ne_row hrow (by decide)));have HO3:=(mkH (At w3 w.heap.size _ _) <|((HO.out.drew).alloc _).grown hg (HO.out.ne_row hrow (by decide)));have HR3:=(mkH (At w3 (w.heap.size + 1) _ _) <|((HR.out.drew).alloc _).grown hg (HR.out.ne_row hrow (by decide)));have HRun:=(mkH (∀ (o : Oper) (a : Act) (s x : Operand),_) <|hrun);have HOwn:=(mkH (w3.ownsRow 0 _ _ _ _ _) <|hown);have HG:=(mkH (World.grownBy _ w3 _) <|hg);have HGe:=(mkH (_\/_) <|hge);have HC:=(mkH (wr.cell? ⟨g,k * 2,none⟩ = some (.int .i64 x.1)/\wr.cell? ⟨g,k * 2 + 1,none⟩ = some (.int .i64 x.2)) <|⟨c0,c1⟩);clear hrun hown hg hge hrow1 hrow hrv ho hv hvz c0 c1;refine wp_region_mix [7,8,10] (fun k'=>match k' with | 0=>wr.drew | 1=>wr.drew.alloc (.cells #[.int .i64 x.1,.int .i64 x.2] 81) | 2=>w3 | _=>w3.setCell ⟨w.heap.size + 2,3,none⟩ (.slice (some ⟨g',0,none⟩) (k + 1) gcap)) 2 rfl (by kernel_rfl) (by kernel_rfl) (by kernel_rfl) (by decide) (by kernel_rfl) (by kernel_rfl) (by decide) rfl ?_;intro W hW;have hF3 : Fr (fun j=>(Value.slice va k vc).ownBlock = some j) wr w3:=((((Fr.refl _ _).drew).alloc _).grown HG.out (fun k hk=>.inl hk));have hgn : ¬ (Value.slice va k vc).ownBlock = some g:=by
    intro e;have h1:=HS.out.new g e;obtain ⟨g2,e2,c2,_⟩:=HP.out k x hx.out
    have:=cellLt c2
    simp at e2;simp only [<- e2] at this;omega
   have c0 : ∀ u,(W u).cell? ⟨g,k * 2,none⟩ = some (.int .i64 x.1):=by
    intro u;obtain ⟨k',hk',he⟩:=hW u;rw [he];rcases (show k' = 0\/k' = 1\/k' = 2 by omega) with rfl | rfl | rfl
    ·exact ((Fr.refl _ _).drew).keepCell HC.out.1
    ·exact (((Fr.refl _ _).drew).alloc _).keepCell HC.out.1
    ·exact hF3.keepCellS HC.out.1 hgn
   have c1 : ∀ u,(W u).cell? ⟨g,k * 2 + 1,none⟩ = some (.int .i64 x.2):=by
    intro u;obtain ⟨k',hk',he⟩:=hW u;rw [he];rcases (show k' = 0\/k' = 1\/k' = 2 by omega) with rfl | rfl | rfl
    ·exact ((Fr.refl _ _).drew).keepCell HC.out.2
    ·exact (((Fr.refl _ _).drew).alloc _).keepCell HC.out.2
    ·exact hF3.keepCellS HC.out.2 hgn
   have hv : ∀ u o,(W u).cell? ⟨w.heap.size + 2,o,none⟩ = (workV (wkOf 4 0 0) (.slice va k vc) (.slice none 0 0))[o]?:=by
    intro u;obtain ⟨k',hk',he⟩:=hW u;rw [he];rcases (show k' = 0\/k' = 1\/k' = 2 by omega) with rfl | rfl | rfl
    ·exact HV.out.drew.cell
    ·exact (HV.out.drew.alloc _).cell
    ·exact HV3.out.cell
   have ho : ∀ u o,(W u).cell? ⟨w.heap.size,o,none⟩ = [Value.int .i64 4,.int .i64 key,.int .i64 value,.slice (some ⟨g,0,none⟩) ps.length c][o]?:=by
    intro u;obtain ⟨k',hk',he⟩:=hW u;rw [he];rcases (show k' = 0\/k' = 1\/k' = 2 by omega) with rfl | rfl | rfl
    ·exact HO.out.drew.cell
    ·exact (HO.out.drew.alloc _).cell
    ·exact HO3.out.cell
   simp only [workV] at hv;have hc3:=HV3.out.cell;have hz3:=HV3.out.frozen;simp only [workV] at hc3;have HF3:=(mkH (Fr _ wr w3) <|hF3);clear hW hF3 hgn
   repeat (refine mix_read rfl rfl ?_; go_big_quiet_step (fail); refine wpQuiet_nil ?_)
   refine mix_eff (v:=.slice (some ⟨wr.heap.size,0,none⟩) 1 1) rfl rfl rfl ?_ ?_
   ·go_simp;exact ⟨rfl,rfl⟩
   refine mix_eff rfl rfl rfl (HRun.out _ _ _ _ rfl rfl rfl rfl) ?_;go_simp
   repeat (refine mix_read rfl rfl ?_; go_big_quiet_step (fail); refine wpQuiet_nil ?_)
   refine mix_eff (v:=undef) rfl rfl rfl ?_ ?_
   ·go_simp;exact ⟨rfl,rfl⟩
   refine mix_nil ?_;go_simp;clear c0 c1 hv ho hc3 hz3;have hS4 : OwnSpans w w3 (.slice (some ⟨g',0,none⟩) (k + 1) gcap) (ps.take (k + 1)):=by
    rw [HN.out];refine ⟨by rw [List.length_append,hkl]; simpa [pairCells] using HOwn.out,?_,Fr.transNew HS.out.fr HF3.out (fun j hj=>.inr (HS.out.new j hj))⟩;intro q hq;simp [Value.ownBlock] at hq;subst hq;rcases HGe.out with h | h
    ·exact HS.out.new _ h
    ·have:=HS.out.fr.size
     simp at h; omega
   have HS4 : Hid (OwnSpans w (w3.setCell ⟨w.heap.size + 2,3,none⟩ (.slice (some ⟨g',0,none⟩) (k + 1) gcap)) (.slice (some ⟨g',0,none⟩) (k + 1) gcap) (ps.take (k + 1))) :=
    ⟨ownsRow_setOther hS4.row (a:=⟨w.heap.size + 2,3,none⟩) (HV3.out.ne_row hS4.row (by decide)) _,hS4.new,Fr.setNew (by omega) hS4.fr _ _⟩
   clear hS4;go_wp2
   go_roundw
   case rel=>exact ⟨k + 1,by omega,by go_num,some ⟨g',0,none⟩,k + 1,gcap,HS4,HV3.out.set 3 _,HO3.out.setOther _ (by show w.heap.size≠w.heap.size + 2; omega) _,HR3.out.setOther _ (by show w.heap.size + 1≠w.heap.size + 2; omega) _⟩
   case measure=>simp [intOf]; omega
  ·have hke : k = ps.length:=by omega
   subst hke;rw [List.take_length] at HS;go_wp2_with (at_builtin; refine wpList_push _ rfl _ _ 114 rfl 0 113 iL _ 2 16 Tryz.underlying114 hiL hzL hsL hbL rfl (by decide) (.slice none 0 0) 0 [] rfl (World.ownsRow_nil _ 0 _ _) wr.heap.size [.int .i64 0,.int .i64 0] rfl rfl 113 (At.newAt (by simp) _ _) (by simp [Value.oneCell']) (by unfold maxLen; omega) (by omega) (by simp) ?_);intro g' cap w3 hown hgr hge;have hF3 : Fr (fun _=>False) wr w3:=Fr.grown ((Fr.refl _ _).alloc _) hgr (fun k hk=>by simp [Value.ownBlock] at hk);have HL3 : Hid (OwnLinks w w3 (.slice (some ⟨g',0,none⟩) 1 cap) [(0,false)]):=by
    refine ⟨by simpa [linkCells,b2i] using hown,?_,HS.out.fr.trans hF3⟩;intro q hq;simp [Value.ownBlock] at hq;subst hq
    have:=HS.out.fr.size
    rcases hge with h | h
    ·simp [Value.ownBlock] at h
    ·first | omega | (simp at h; omega)
   have HS3 : Hid (OwnSpans w w3 (.slice va vn vc) ps):=⟨hF3.owns HS.out.row (fun _ _ h=>h),HS.out.new,HS.out.fr.trans hF3⟩;have HV3:=(mkH (At w3 (w.heap.size + 2) _ _) <|hF3.at HV.out (fun h=>h));have HR3:=(mkH (At w3 (w.heap.size + 1) _ _) <|hF3.at HR.out (fun h=>h));clear hown hgr hge hF3 HS HV HO HR ho hv hvz;have hv:=HV3.out.cell;have hvz:=HV3.out.frozen;simp only [workV] at hv
   go_upto_region 16 with fail
   have HV4:=(mkH (At (w3.setCell ⟨w.heap.size + 2,13,none⟩ (.slice (some ⟨g',0,none⟩) 1 cap)) (w.heap.size + 2) (workV nw (.slice va vn vc) (.slice (some ⟨g',0,none⟩) 1 cap)) 116) <|by rw [<- HNW.out]; exact HV3.out.set 13 (.slice (some ⟨g',0,none⟩) 1 cap));have HR4:=(mkH (At (w3.setCell ⟨w.heap.size + 2,13,none⟩ (.slice (some ⟨g',0,none⟩) 1 cap)) (w.heap.size + 1) _ _) <|HR3.out.setOther _ (by show w.heap.size + 1≠w.heap.size + 2; omega) _);have HL4 : Hid (OwnLinks w (w3.setCell ⟨w.heap.size + 2,13,none⟩ (.slice (some ⟨g',0,none⟩) 1 cap)) (.slice (some ⟨g',0,none⟩) 1 cap) [(0,false)]):=⟨ownsRow_setOther HL3.out.row (a:=⟨w.heap.size + 2,13,none⟩) (HV3.out.ne_row HL3.out.row (by decide)) _,HL3.out.new,Fr.setNew (by omega) HL3.out.fr _ _⟩;have HS4 : Hid (OwnSpans w (w3.setCell ⟨w.heap.size + 2,13,none⟩ (.slice (some ⟨g',0,none⟩) 1 cap)) (.slice va vn vc) ps):=⟨ownsRow_setOther HS3.out.row (a:=⟨w.heap.size + 2,13,none⟩) (HV3.out.ne_row HS3.out.row (by decide)) _,HS3.out.new,Fr.setNew (by omega) HS3.out.fr _ _⟩;generalize w3.setCell ⟨w.heap.size + 2,13,none⟩ (.slice (some ⟨g',0,none⟩) 1 cap) = w4 at *;clear hv hvz HV3 HR3 HL3 HS3;go_wp2_with (first
    | refine wpList_loadAgg w4 rfl _ 116 rfl (w.heap.size + 2) 0 (workV nw (.slice va vn vc) (.slice (some ⟨g',0,none⟩) 1 cap)) rfl hag hws (by intro j v hv; rw [Nat.zero_add,HV4.out.cell]; exact hv) ?_
    | refine wpList_storeAgg w4 rfl _ _ 116 rfl (w.heap.size + 1) 0 (workV nw (.slice va vn vc) (.slice (some ⟨g',0,none⟩) 1 cap)) rfl rfl hws _ _ HR4.out (by simp [wkZ,workV]) (by simp [workV,Value.oneCell']) ?_)
   have hA5:=At.setCells (workV nw (.slice va vn vc) (.slice (some ⟨g',0,none⟩) 1 cap)) 0 w4 _ HR4.out;have h2 : setAll wkZ 0 (workV nw (.slice va vn vc) (.slice (some ⟨g',0,none⟩) 1 cap)) = workV nw (.slice va vn vc) (.slice (some ⟨g',0,none⟩) 1 cap):=by
    unfold wkZ workV;simp only [setAll,List.set_cons_zero,List.set_cons_succ]
   rw [h2] at hA5;have hFb : Fr (fun k=>k = w.heap.size + 1) w4 (w4.setCells (w.heap.size + 1) 0 (workV nw (.slice va vn vc) (.slice (some ⟨g',0,none⟩) 1 cap))):=Fr.setCells (S:=fun k=>k = w.heap.size + 1) rfl _ _ _ (Fr.refl _ _);refine bodyPost_ret (results_cellAgg (P:=Tryz.prog) (k:=2) (t:=116) rfl _ _ (w.heap.size + 1) 0 (workV nw (.slice va vn vc) (.slice (some ⟨g',0,none⟩) 1 cap)) rfl hag hws (by intro j v hv; rw [Nat.zero_add,hA5.cell]; exact hv)) rfl ?_;refine ⟨_,_,rfl,⟨hFb.owns HS4.out.row (fun k hk e=>HR4.out.ne_row HS4.out.row (by decide) (by rw [<- e]; exact hk)),HS4.out.new,Fr.transNew HS4.out.fr hFb (by rintro i rfl; right; omega)⟩,hFb.owns HL4.out.row (fun k hk e=>HR4.out.ne_row HL4.out.row (by decide) (by rw [<- e]; exact hk)),HL4.out.new,Fr.transNew HL4.out.fr hFb (by rintro i rfl; right; omega)⟩
theorem checkOp_zero {kind key : Int} {ps : List (Int × Int)} (h : checkOp kind key ps = 0) : (kind = 1\/kind = 2\/kind = 3)\/(kind = 4/\ps.length<=16):=by
 unfold checkOp at h;by_cases h1 : kind = 1\/kind = 2\/kind = 3
 ·exact .inl h1
 ·rw [if_neg h1] at h;by_cases h2 : kind = 4
  ·rw [if_pos h2] at h;cases hI : isIn ps.length 1 16
   ·rw [hI] at h; simp at h
   ·exact .inr ⟨h2,by have:=(isIn_iff.1 hI).2; omega⟩
  ·rw [if_neg h2] at h; simp at h
theorem newWork_calls (kind key value : Int) (a : Option Addr) (n c : Nat) (ps : List (Int × Int)) (w : World) (hok : checkOp kind key ps = 0) (hsp : kind = 4->n = ps.length/\PairsAt w a ps) :
  Calls Tryz.prog 64 #[opVal kind key value (.slice a n c)] w fun e w'=>∃ sp lk,e = .returned (.agg (workV (newWork kind key value ps) sp lk).toArray)/\OwnSpans w w' sp (newWork kind key value ps).spans/\OwnLinks w w' lk (newWork kind key value ps).links:=by
 rcases checkOp_zero hok with hk | ⟨rfl,hl⟩
 ·have e1 : newWork kind key value ps = newWork kind key value []:=by rcases hk with rfl | rfl | rfl <;> rfl
  have e2 : (newWork kind key value []).spans = []/\(newWork kind key value []).links = []:=by rcases hk with rfl | rfl | rfl <;> exact ⟨rfl,rfl⟩
  refine (newWork_flat kind key value hk a n c w).mono ?_;rintro e w' ⟨rfl,hF⟩;rw [e1,e2.1,e2.2];exact ⟨_,_,rfl,⟨⟨by simp,.inl ⟨rfl,rfl⟩⟩,by intro k hk; simp [Value.ownBlock] at hk,hF⟩,⟨by simp,.inl ⟨rfl,rfl⟩⟩,by intro k hk; simp [Value.ownBlock] at hk,hF⟩
 ·obtain ⟨rfl,hP⟩:=hsp rfl;exact newWork_scan key value a c ps hl w hP
end
section
open Go.RowKit
section
variable {own : Own} {z : Nat} {w : World} {L : ZLay} {P : PSt}
theorem rows_ne {w : World} {e e' : TypeId} {s s' : Nat} {v v' : Value} {n n' : Nat} {xs xs' : List Value} (h : w.ownsRow 0 e s v n xs) (h' : w.ownsRow 0 e' s' v' n' xs') (hne : e≠e') (k : Nat) (hk : v.ownBlock = some k) (hk' : v'.ownBlock = some k) : False:=by
 rcases h.2 with ⟨rfl,_⟩ | ⟨g,cap,cur,rfl,_,hg,_⟩
 ·simp [Value.ownBlock] at hk
 ·rcases h'.2 with ⟨rfl,_⟩ | ⟨g',cap',cur',rfl,_,hg',_⟩
  ·simp [Value.ownBlock] at hk'
  ·simp [Value.ownBlock] at hk hk';subst hk; subst hk';rw [hg] at hg';simp at hg';exact hne hg'.2
theorem ZAt.wkBegin (h : ZAt own z w L P) {w0 w' : World} {i : Nat} {l : WLay} {t t' : PThread} {sp lk : Value} (hl : L.wks[i]? = some l) (ht : P.ts[i]? = some t) (hf : Fr (fun k=>k = l.b) w w')
  (hA : At w' l.b (t'.cells i ⟨l.b,sp,.slice none 0 0,lk,.slice none 0 0,.slice none 0 0,l.lspans⟩) 118) (hw0 : w.heap.size<=w0.heap.size)
  (e1 : w'.ownsRow 0 81 2 sp t'.work.spans.length (t'.work.spans.flatMap pairCells)) (f1 : ∀ k,sp.ownBlock = some k->w0.heap.size<=k) (e2 : t'.work.made = [])
  (e3 : w'.ownsRow 0 113 2 lk t'.work.links.length (t'.work.links.flatMap linkCells)) (f3 : ∀ k,lk.ownBlock = some k->w0.heap.size<=k) (e4 : t'.work.noted = []) (e6 : t'.work.ans.spans = []) (e7 : t'.last.spans = t.last.spans) : ZGoes own z w L (P.setT i t') w':=by
 have hT:=h.wk i l t hl ht;have hF : FrT own z (fun t=>t = .thread i\/∃ k,t = .tr i k) w w':=FrT.one hf hT.tg (.inl rfl);have hn : ∀ tag,tag≠Tag.thread i->∀ k,own k = ⟨z,tag⟩->¬ k = l.b:=by
  rintro tag hne k hk rfl; rw [hT.tg] at hk; simp at hk; exact hne hk.symm
 have hE : Ext own (fun k=>if sp.ownBlock = some k then ⟨z,.tr i 0⟩ else if lk.ownBlock = some k then ⟨z,.tr i 2⟩ else own k) w:=by
  intro k hk;show (if _ then _ else _) = _;rw [if_neg (fun e=>by have:=f1 k e; omega),if_neg (fun e=>by have:=f3 k e; omega)]
 refine ⟨_,{ L with wks:=L.wks.set i ⟨l.b,sp,.slice none 0 0,lk,.slice none 0 0,.slice none 0 0,l.lspans⟩ },h.wkSet hl rfl hF hE ⟨hA,(hE _ hT.at_.lt).trans hT.tg,⟨e1,fun k hk=>by show (if _ then _ else _) = _; rw [if_pos hk]⟩,?_,⟨e3,fun k hk=>by show (if _ then _ else _) = _; rw [if_neg (fun e=>rows_ne e1 e3 (by decide) k e hk),if_pos hk]⟩,?_,?_,?_⟩,hE,hF.zone,rfl,rfl,?_⟩
 ·rw [e2]; exact Row.nil _ _ _ _ _ _
 ·rw [e4]; exact Row.nil _ _ _ _ _ _
 ·rw [e6]; exact ListsAt.none _ _ _
 ·rw [e7]; exact hT.llists.fr hf hE (hn _ (by simp))
 ·show (L.wks.set i _).map (·.b) = _;rw [List.map_set];exact setL_same (by simp [hl])
theorem newWork_rest (kind key value : Int) (ps : List (Int × Int)) : (newWork kind key value ps).made = []/\(newWork kind key value ps).noted = []/\(newWork kind key value ps).ans.spans = []:=by
 unfold newWork;simp only;split
 ·exact ⟨rfl,rfl,rfl⟩
 ·split
  ·exact ⟨rfl,rfl,rfl⟩
  ·split <;> exact ⟨rfl,rfl,rfl⟩
theorem workV_one (k : PWork) (a b : Option Addr) (n m c d : Nat) : ∀ v ∈ workV k (.slice a n c) (.slice b m d),v.oneCell' = true:=by
 simp [workV,Value.oneCell']
theorem ZBegin_calls (h : ZAt own z w L P) (i kind key value : Int) (sa : Option Addr) (sn sc : Nat) (spans : List (Int × Int)) (hsp : kind = 4->sn = spans.length/\PairsAt w sa spans/\∀ g,sa = some ⟨g,0,none⟩->(own g).z≠z) :
  Calls Tryz.prog 48 #[.pointer (some ⟨L.s,0,none⟩),.int .i64 i,opVal kind key value (.slice sa sn sc)] w fun e w'=>e = .returned (.int .i64 (P.begin i kind key value spans).2)/\ZGoes own z w L (P.begin i kind key value spans).1 w':=by
 have hF0 : Fr (fun _=>False) w (w.alloc (.cells #[.int .i64 kind,.int .i64 key,.int .i64 value,.slice sa sn sc] 53)):=(Fr.refl _ _).alloc _;have H:=(mkH (ZAt own z _ L P) <|h.calm hF0);have HO:=(mkH (At _ w.heap.size _ _) <|At.new w [.int .i64 kind,.int .i64 key,.int .i64 value,.slice sa sn sc] 53);have HF0:=(mkH (Fr (fun _=>False) w _) <|hF0);have HSP:=(mkH (kind = 4->_) <|hsp);clear h hF0 hsp;cases hI : isIn i 0 (P.ts.length - 1)
 ·have hE : Hid (P.begin i kind key value spans = (P,2)):=by show _ = _; simp [PSt.begin,hI]
  unfold opVal
  go_enter Tryz.func48,Tryz.ntmps48
  go_wp2_with fail;refine (ZhasThread_calls H.out i).mono ?_;rintro e w' ⟨rfl,rfl⟩;rw [hI];go_wp2;go_ret;rw [hE.out];exact ⟨rfl,ZGoes.calm HF0.out (ZGoes.here ⟨H.out,Fr.refl _ _⟩)⟩
 ·obtain ⟨h0,h1⟩:=isIn_iff.1 hI;obtain ⟨j,rfl⟩:=Int.eq_ofNat_of_zero_le h0;have hlt : j < P.ts.length:=by omega
  have ht : P.ts[j]? = some P.ts[j]:=List.getElem?_eq_getElem hlt;generalize P.ts[j] = t at ht;have hth : P.th j = t:=by simp [PSt.th,ht]
  obtain ⟨l,tb,cap,hl,htv,hptr⟩:=H.out.wkPtr ht;obtain ⟨ha,haz,hal,hs,hsz,hsl,n1,n2⟩:=H.out.view hl ht;have hfew:=H.out.few;have HT:=(mkH (At _ l.b _ _) <|(H.out.wk j l t hl ht).at_);have HL:=(mkH (L.wks[j]? = some l) <|hl);have Ht:=(mkH (P.ts[j]? = some t) <|ht);have hne : w.heap.size≠l.b:=HO.out.ne HT.out (by decide);have hoc:=HO.out.cell;simp only [PThread.cells,PSt.head,htv] at ha hs;clear hl ht h0 h1 hsz;cases hb : t.busy
  ·rw [hb] at ha;by_cases hky : checkOp kind key spans = 0
   rotate_left
   ·have hE : Hid (P.begin j kind key value spans = (P,checkOp kind key spans)):=by show _ = _; unfold PSt.begin; rw [hI,Int.toNat_natCast,hth,hb]; simp [hky]
    have hkn : (checkOp kind key spans == 0) = false:=by simpa using hky
    unfold opVal
    go_enter Tryz.func48,Tryz.ntmps48
    go_wp2_with fail;refine (ZhasThread_calls H.out j).mono ?_;rintro e w' ⟨rfl,rfl⟩;rw [hI];go_wp2_with fail;refine (checkOp_calls kind key value sa sn sc spans _ (fun h4=>⟨(HSP.out h4).1,(HSP.out h4).2.1.calm HF0.out⟩)).mono ?_;rintro e w1 ⟨rfl,hF⟩;have HF1:=(mkH (Fr (fun _=>False) w w1) <|HF0.out.trans hF);have H1:=(mkH (ZAt own z w1 L P) <|H.out.calm hF);clear hF ha hs hoc hptr haz;go_wp2;go_ret;rw [hE.out];exact ⟨rfl,ZGoes.calm HF1.out (ZGoes.here ⟨H1.out,Fr.refl _ _⟩)⟩
   ·have hE : Hid (P.begin j kind key value spans = (P.setT j { t with busy:=true,work:=newWork kind key value spans },0)):=by
     show _ = _; unfold PSt.begin; rw [hI,Int.toNat_natCast,hth,hb]; simp [hky]
    have HKY:=(mkH (checkOp kind key spans = 0) <|hky);unfold opVal
    go_enter Tryz.func48,Tryz.ntmps48
    go_wp2_with fail;refine (ZhasThread_calls H.out j).mono ?_;rintro e w' ⟨rfl,rfl⟩;rw [hI];go_wp2_with fail;refine (checkOp_calls kind key value sa sn sc spans _ (fun h4=>⟨(HSP.out h4).1,(HSP.out h4).2.1.calm HF0.out⟩)).mono ?_;rintro e w1 ⟨rfl,hF⟩;have HF1:=(mkH (Fr (fun _=>False) w w1) <|HF0.out.trans hF);have H1:=(mkH (ZAt own z w1 L P) <|H.out.calm hF);have HO1:=(mkH (At w1 w.heap.size _ _) <|hF.at HO.out (fun h=>h));rw [HKY.out];clear hF ha hs hoc hptr haz HO HT H HF0 hky;have HT1:=(mkH (At w1 l.b _ _) <|(H1.out.wk j l t HL.out Ht.out).at_);have ha:=HT1.out.cell;have haz:=HT1.out.frozen;have hoc:=HO1.out.cell;simp only [PThread.cells] at ha;go_wp2_with fail;have hP1 : kind = 4->sn = spans.length/\PairsAt (w1.setCell ⟨l.b,2,none⟩ (.bool true)) sa spans:=fun h4=>⟨(HSP.out h4).1,by
     intro q p hp;obtain ⟨g,e,c0,c1⟩:=((HSP.out h4).2.1.calm HF1.out) q p hp;have hg : g≠l.b:=by
      intro eg;apply (HSP.out h4).2.2 g e;rw [eg,(H1.out.wk j l t HL.out Ht.out).tg]
     have hF : Fr (fun k=>k = l.b) w1 (w1.setCell ⟨l.b,2,none⟩ (.bool true)):=(Fr.refl _ _).set1 _ _;exact ⟨g,e,hF.keepCellS c0 hg,hF.keepCellS c1 hg⟩⟩
    refine (newWork_calls kind key value sa sn sc spans _ HKY.out hP1).mono ?_;rintro e w2 ⟨sp,lk,rfl,hS,hL⟩;obtain ⟨s1,s2,rfl⟩:=ownsShape hS.row;obtain ⟨k1,k2,rfl⟩:=ownsShape hL.row;have hA2:=hS.fr.at (HT1.out.set 2 (.bool true)) (fun h=>h);have HA2:=(mkH (At w2 l.b _ _) <|hA2);have HF2:=(mkH (Fr (fun k=>k = l.b) w1 w2) <|((Fr.refl _ _).set1 _ _).trans (Fr.mono hS.fr (fun _ _ h=>h.elim)));have HS2:=(mkH (OwnSpans _ w2 _ _) <|hS);have HL2:=(mkH (OwnLinks _ w2 _ _) <|hL);clear hS hL hA2 ha haz hoc HT1 HO1 hP1;generalize hwc : workV (newWork kind key value spans) _ _ = vs;have hvl : vs.length = 20:=by rw [<- hwc]; rfl
    have hv1 : ∀ v ∈ vs,v.oneCell' = true:=by rw [<- hwc]; exact workV_one _ _ _ _ _ _ _
    have hws : ∀ w : World,(sizeOf 116).run Tryz.prog w = .ok vs.length w:=by rw [hvl]; exact work_size
    go_wp2_with (refine wpList_storeAgg w2 rfl _ _ 116 rfl l.b 3 vs rfl rfl hws _ _ HA2.out (by simp [PThread.cells,hvl]) hv1 ?_);go_ret;rw [hE.out];have hFb : Fr (fun k=>k = l.b) w2 (w2.setCells l.b 3 vs):=Fr.setCells (S:=fun k=>k = l.b) rfl _ _ _ (Fr.refl _ _);have hN:=newWork_rest kind key value spans;refine ⟨rfl,ZGoes.calm HF1.out (H1.out.wkBegin HL.out Ht.out (t':={ t with busy:=true,work:=newWork kind key value spans }) (w0:=w1.setCell ⟨l.b,2,none⟩ (.bool true)) (HF2.out.trans hFb) ?_ (by simp) (hFb.owns HS2.out.row (fun k hk e=>HA2.out.ne_row HS2.out.row (by decide) (by rw [<- e]; exact hk))) HS2.out.new hN.1 (hFb.owns HL2.out.row (fun k hk e=>HA2.out.ne_row HL2.out.row (by decide) (by rw [<- e]; exact hk))) HL2.out.new hN.2.1 hN.2.2 rfl)⟩;have hX:=At.setCells vs 3 w2 _ HA2.out;rw [<- hwc] at hX ⊢;simp only [workV,setAll,PThread.cells,List.set_cons_zero,List.set_cons_succ] at hX;simp only [PThread.cells];exact hX
  ·rw [hb] at ha;have hE : Hid (P.begin j kind key value spans = (P,3)):=by show _ = _; simp [PSt.begin,hI,hth,hb]
   unfold opVal
   go_enter Tryz.func48,Tryz.ntmps48
   go_wp2_with fail;refine (ZhasThread_calls H.out j).mono ?_;rintro e w' ⟨rfl,rfl⟩;rw [hI];go_wp2;go_ret;rw [hE.out];exact ⟨rfl,ZGoes.calm HF0.out (ZGoes.here ⟨H.out,Fr.refl _ _⟩)⟩
end
end
section
open Go.RowKit
def ReadLists (w : World) (a : Option Addr) (ll : List (List (Int × Int))) : Prop:=∀ (i : Nat) l,ll[i]? = some l->∃ g b c,a = some ⟨g,0,none⟩/\w.cell? ⟨g,i,none⟩ = some (.slice b l.length c)/\PairsAt w b l
theorem ReadLists.calm {w w' : World} {a : Option Addr} {ll : List (List (Int × Int))} (h : ReadLists w a ll) (hf : Fr (fun _=>False) w w') : ReadLists w' a ll:=by
 intro i l hl;obtain ⟨g,b,c,e,c0,c1⟩:=h i l hl;exact ⟨g,b,c,e,hf.keepCell c0,c1.calm hf⟩
theorem ListsAt.read {own : Own} {z : Nat} {w : World} {a : Option Addr} {n c : Nat} {ll : List (List (Int × Int))} (h : ListsAt own z w (.slice a n c) ll) : n = ll.length/\ReadLists w a ll:=by
 obtain ⟨ins,h1,h2,h3⟩:=h.top;obtain ⟨a',c',hv⟩:=ownsShape h2.row;obtain ⟨rfl,rfl,rfl⟩ : a = a'/\n = ll.length/\c = c':=by simpa using hv
 refine ⟨rfl,?_⟩;intro i l hl;have hi : i < ll.length:=(List.getElem?_eq_some_iff.1 hl).1;have hu : ins[i]? = some ins[i]:=List.getElem?_eq_getElem (by omega);generalize ins[i] = u at hu;have hr:=h3 i u l hu hl;obtain ⟨b,d,rfl⟩:=ownsShape hr.row;obtain ⟨g,cp,hg,_⟩:=ownsRow_shape h2.row (by omega);have ho:=h2.row;rw [hg] at ho;simp at hg;exact ⟨g,b,d,hg.1,ownsRow_cell ho hu,PairsAt.ofRow hr⟩
theorem OwnLists.below {w0 w1 w : World} {v : Value} {ll : List (List (Int × Int))} (h : OwnLists w1 w v ll) (hf : Fr (fun _=>False) w0 w1) : OwnLists w0 w v ll:=by
 obtain ⟨ins,h1,h2,h3⟩:=h.top;exact ⟨h.nil,⟨ins,h1,h2,fun i u l a b=>⟨(h3 i u l a b).1,fun k hk=>Nat.le_trans hf.size ((h3 i u l a b).2 k hk)⟩⟩,fun k hk=>Nat.le_trans hf.size (h.new k hk),hf.trans h.fr⟩
theorem copyLists_calls (w : World) (a : Option Addr) (c : Nat) (ll : List (List (Int × Int))) (hl : ll.length<=2 ^ 39) (hn : ∀ l ∈ ll,l.length<=2 ^ 39) (hR : ReadLists w a ll) :
  Calls Tryz.prog 68 #[.slice a ll.length c] w fun e w'=>∃ va vn vc,e = .returned (.slice va vn vc)/\OwnLists w w' (.slice va vn vc) ll:=by
 obtain ⟨iP,hiP,hzP,hsP,hbP⟩:=info_parts Tryz.infoPr;obtain ⟨iL,hiL,hzL,hsL,hbL⟩:=info_parts Tryz.infoPs;have HR:=(mkH (ReadLists w a ll) <|hR);have HNn:=(mkH (∀ l ∈ ll,l.length<=2 ^ 39) <|hn);clear hR hn
 go_enter Tryz.func68,Tryz.ntmps68
 go_wp2
 go_loopw [3,9] (fun f i wr=>∃ k : Nat,k<=ll.length/\i = .int .i64 k/\∃ va vn vc,f = .slice va vn vc/\Hid (OwnLists w wr (.slice va vn vc) (ll.take k))) (fun _ i _=>ll.length - (intOf i).toNat)
 case atStart=>exact ⟨0,Nat.zero_le _,rfl,none,0,0,rfl,fun _=>rfl,⟨[],rfl,⟨by simp,.inl ⟨rfl,rfl⟩⟩,by intro i u l hu; simp at hu⟩,by intro k hk; simp [Value.ownBlock] at hk,Fr.refl _ _⟩
 case round =>
  obtain ⟨k,hk,rfl,va,vn,vc,rfl,HO⟩:=hrel;by_cases hlt : k < ll.length
  ·have hx : Hid (ll[k]? = some ll[k]):=List.getElem?_eq_getElem hlt;generalize ll[k] = x at hx;have hxl : x.length<=2 ^ 39:=HNn.out x (List.mem_of_getElem? hx.out);obtain ⟨g,b,d,rfl,c0,hP⟩:=(HR.out.calm HO.out.fr) k x hx.out;have HP:=(mkH (PairsAt wr b x) <|hP);have HN : Hid (ll.take (k + 1) = ll.take k ++ [x]):=by show _ = _; rw [List.take_add_one,hx.out]; rfl
   have HC:=(mkH (wr.cell? ⟨g,k,none⟩ = some (.slice b x.length d)) <|c0);clear hP;obtain ⟨wo,hwo⟩ : ∃ wo,wo = wr:=⟨_,rfl⟩;subst hwo;go_wp2
   go_loopw [5,17] (fun v j wi=>∃ q : Nat,q<=x.length/\j = .int .i64 q/\Hid (OwnPairs wo wi v (x.take q))) (fun _ j _=>x.length - (intOf j).toNat)
   case atStart=>exact ⟨0,Nat.zero_le _,rfl,⟨⟨by simp,.inl ⟨rfl,rfl⟩⟩,by intro k hk; simp [Value.ownBlock] at hk,Fr.refl _ _⟩⟩
   case round =>
    obtain ⟨q,hq,rfl,HQ⟩:=hrel;by_cases hqt : q < x.length
    ·have hy : Hid (x[q]? = some x[q]):=List.getElem?_eq_getElem hqt;generalize x[q] = y at hy;obtain ⟨g2,rfl,d0,d1⟩:=(HP.out.calm HQ.out.fr) q y hy.out;have c0:=HQ.out.fr.keepCell HC.out;have HM : Hid (x.take (q + 1) = x.take q ++ [y]):=by show _ = _; rw [List.take_add_one,hy.out]; rfl
     have hql : (x.take q).length = q:=by rw [List.length_take]; omega
     have hrow:=HQ.out.row;rw [hql] at hrow;have Hrow:=(mkH (World.ownsRow _ 0 _ _ _ _ _) <|hrow);clear hrow;go_wp2_with (at_builtin; refine wpList_push _ rfl _ _ 47 rfl 0 95 iP _ 2 16 Tryz.underlying47 hiP hzP hsP hbP rfl (by decide) _ _ _ rfl (ownsRow_alloc Hrow.out _) wr.heap.size [.int .i64 y.1,.int .i64 y.2] rfl rfl 95 (At.newAt (by simp) _ _) (by simp [Value.oneCell']) (by unfold maxLen; omega) (by omega) (by simp) ?_);intro g' cap w3 hown hgr hge;have HO3 : Hid (OwnPairs wo w3 (.slice (some ⟨g',0,none⟩) (q + 1) cap) (x.take (q + 1))):=by
      show OwnPairs _ _ _ _;rw [HM.out];refine ⟨by rw [List.length_append,hql]; simpa [pairCells] using hown,?_,Fr.grown (HQ.out.fr.alloc _) hgr (fun k hk=>.inr (HQ.out.new k hk))⟩;intro j hj;simp [Value.ownBlock] at hj;subst hj;rcases hge with h | h
      ·exact HQ.out.new _ h
      ·have:=HQ.out.fr.size; first | omega | (simp at h; omega)
     clear hown hgr hge HQ;go_wp2
     go_roundw
     case rel=>exact ⟨q + 1,by omega,by go_num,HO3⟩
     case measure=>simp [intOf]; omega
    ·have hke : q = x.length:=by omega
     subst hke;rw [List.take_length] at HQ;have hkl : (ll.take k).length = k:=by rw [List.length_take]; omega
     obtain ⟨ua,uc,hu⟩:=ownsShape HQ.out.row;subst hu;have HO1:=(mkH (OwnLists w wr _ _) <|HO.out.calm HQ.out.fr);have HSW:=(mkH (w.heap.size<=wo.heap.size) <|HO.out.fr.size);obtain ⟨ins,hi1,hi2,hi3⟩:=HO1.out.top;have HT:=(mkH (wr.ownsRow 0 47 1 (.slice va vn vc) (ll.take k).length ins) <|hi2);have HI:=(mkH (ins.length = (ll.take k).length/\_) <|⟨hi1,hi3⟩);clear hi1 hi2 hi3 c0 HO;go_wp2_with (at_builtin; refine wpList_push _ rfl _ _ 67 rfl 0 47 iL _ 1 24 Tryz.underlying67 hiL hzL hsL hbL rfl (by decide) _ _ _ rfl (ownsRow_alloc HT.out _) wr.heap.size [.slice ua x.length uc] rfl rfl 47 (At.newAt (by simp) _ _) (by simp [Value.oneCell']) (by unfold maxLen; omega) (by omega) (by simp) ?_);intro g' cap w3 hown hgr hge;have HO3:=(mkH (OwnLists w w3 (.slice (some ⟨g',0,none⟩) ((ll.take k).length + 1) cap) (ll.take k ++ [x])) <|HO1.out.push HI.out.1 HT.out HI.out.2 HQ.out.row (fun q hq=>Nat.le_trans HSW.out (HQ.out.new q hq)) rfl (by rw [hkl]; exact hown) hgr (by rcases hge with h | h; exact .inl h; exact .inr (by simpa using h)));rw [hkl] at HO3;clear hown hgr hge HO1 HT HI;go_wp2
     go_roundw
     case rel=>exact ⟨k + 1,by omega,by go_num,some ⟨g',0,none⟩,_,cap,rfl,by show OwnLists _ _ _ _; rw [HN.out]; exact HO3.out⟩
     case measure=>simp [intOf]; omega
  ·have hke : k = ll.length:=by omega
   subst hke;rw [List.take_length] at HO;go_wp2;go_ret;exact ⟨va,vn,vc,rfl,HO.out⟩
section
variable {own : Own} {z : Nat} {w : World} {L : ZLay} {P : PSt}
def PSt.answer (P : PSt) (i : Int) : BAns × Int :=
 if isIn i 0 (P.ts.length - 1) then (if (P.th i.toNat).hasEnded then ((P.th i.toNat).last,0) else ({},4)) else ({},2)
theorem ZAnswer_calls (h : ZAt own z w L P) (i : Int) (hn : (P.answer i).1.spans.length<=2 ^ 39/\∀ l ∈ (P.answer i).1.spans,l.length<=2 ^ 39) :
  Calls Tryz.prog 55 #[.pointer (some ⟨L.s,0,none⟩),.int .i64 i] w fun e w'=>∃ va vn vc,e = .returned (.tuple #[ansV (P.answer i).1 (.slice va vn vc),.int .i64 (P.answer i).2])/\OwnLists w w' (.slice va vn vc) (P.answer i).1.spans:=by
 have hF0 : Fr (fun _=>False) w (w.alloc (.cells #[.int .i64 0,.bool false,.int .i64 0,.int .i64 0,.slice none 0 0] 69)):=(Fr.refl _ _).alloc _;have H:=(mkH (ZAt own z _ L P) <|h.calm hF0);have HF0:=(mkH (Fr (fun _=>False) w _) <|hF0);have hsl0:=h.hd.lt;have H00:=(mkH (ZAt own z w L P) <|h);clear h hF0;cases hI : isIn i 0 (P.ts.length - 1)
 ·have hE : Hid (P.answer i = ({},2)):=by show _ = _; simp [PSt.answer,hI]
  rw [hE.out]
  go_enter Tryz.func55,Tryz.ntmps55
  go_wp2_with fail;refine (ZhasThread_calls H.out i).mono ?_;rintro e w' ⟨rfl,rfl⟩;rw [hI];go_wp2;exact bodyPost_ret (v:=.tuple #[ansV {} (.slice none 0 0),.int .i64 2]) (by simp [results,Tryz.results55,go_sem,ansV]) rfl ⟨none,0,0,rfl,fun _=>rfl,⟨[],rfl,⟨by simp,.inl ⟨rfl,rfl⟩⟩,by intro i u l hu; simp at hu⟩,by intro k hk; simp [Value.ownBlock] at hk,(Fr.refl _ _).alloc _⟩
 ·obtain ⟨h0,h1⟩:=isIn_iff.1 hI;obtain ⟨j,rfl⟩:=Int.eq_ofNat_of_zero_le h0;have hlt : j < P.ts.length:=by omega
  have ht : P.ts[j]? = some P.ts[j]:=List.getElem?_eq_getElem hlt;generalize P.ts[j] = t at ht;have hth : P.th j = t:=by simp [PSt.th,ht]
  obtain ⟨l,tb,cap,hl,htv,hptr⟩:=H.out.wkPtr ht;obtain ⟨ha,haz,hal,hs,hsz,hsl,n1,n2⟩:=H.out.view hl ht;have hfew:=H.out.few;have hal0:=(H00.out.wk j l t hl ht).at_.lt;have hla:=(H.out.wk j l t hl ht).llists;simp only [PThread.cells,PSt.head,htv] at ha hs;clear hl ht h0 h1 hsz haz;cases hb : t.hasEnded
  ·have hE : Hid (P.answer j = ({},4)):=by show _ = _; unfold PSt.answer; rw [hI,Int.toNat_natCast,hth,hb]; simp
   rw [hE.out];rw [hb] at ha;clear hla
   go_enter Tryz.func55,Tryz.ntmps55
   go_wp2_with fail;refine (ZhasThread_calls H.out j).mono ?_;rintro e w' ⟨rfl,rfl⟩;rw [hI];go_wp2;exact bodyPost_ret (v:=.tuple #[ansV {} (.slice none 0 0),.int .i64 4]) (by simp [results,Tryz.results55,go_sem,ansV]) rfl ⟨none,0,0,rfl,fun _=>rfl,⟨[],rfl,⟨by simp,.inl ⟨rfl,rfl⟩⟩,by intro i u l hu; simp at hu⟩,by intro k hk; simp [Value.ownBlock] at hk,(Fr.refl _ _).alloc _⟩
  ·have hE : Hid (P.answer j = (t.last,0)):=by show _ = _; unfold PSt.answer; rw [hI,Int.toNat_natCast,hth,hb]; simp
   rw [hE.out] at hn ⊢;obtain ⟨ins,q1,q2,q3⟩:=hla.top;obtain ⟨xa,xc,hlv⟩:=ownsShape q2.row;rw [hlv] at hla;have HRL:=(mkH (ReadLists _ xa t.last.spans) <|hla.read.2);have HNn:=(mkH (_/\_) <|hn);rw [hb,hlv] at ha;clear hla q1 q2 q3 hn
   go_enter Tryz.func55,Tryz.ntmps55
   go_wp2_with fail;refine (ZhasThread_calls H.out j).mono ?_;rintro e w' ⟨rfl,rfl⟩;rw [hI];go_wp2_with fail;generalize hw1 : World.alloc (World.alloc w _) _ = w1;have hF1 : Fr (fun _=>False) (w.alloc (.cells #[.int .i64 0,.bool false,.int .i64 0,.int .i64 0,.slice none 0 0] 69)) w1:=by subst hw1; exact (Fr.refl _ _).alloc _
   have hX1 : At w1 (w.heap.size + 1) [.int .i64 t.last.err,.bool t.last.did,.int .i64 t.last.value,.int .i64 t.last.stamp,.slice xa t.last.spans.length xc] 69:=by subst hw1; exact At.newAt (by simp) _ _
   have hY1 : At w1 w.heap.size [.int .i64 0,.bool false,.int .i64 0,.int .i64 0,.slice none 0 0] 69:=by subst hw1; exact (At.new w [.int .i64 0,.bool false,.int .i64 0,.int .i64 0,.slice none 0 0] 69).alloc _
   clear hw1;refine (copyLists_calls w1 xa xc t.last.spans HNn.out.1 HNn.out.2 (HRL.out.calm hF1)).mono ?_;rintro e w2 ⟨va,vn,vc,rfl,hO⟩;have HX:=(mkH (At w2 (w.heap.size + 1) _ _) <|hO.fr.at hX1 (fun h=>h));have HY:=(mkH (At w2 w.heap.size _ _) <|hO.fr.at hY1 (fun h=>h));have HFF:=(mkH (Fr (fun _=>False) w w1) <|HF0.out.trans hF1);have HO:=(mkH (OwnLists w1 w2 _ _) <|hO);clear hO hX1 hY1 hF1 ha hs;have hxc:=HX.out.cell;have hxz:=HX.out.frozen;have hyc:=HY.out.cell;have hyz:=HY.out.frozen;have hO0:=HO.out.below HFF.out;have hO1:=hO0.setOther HX.out (by decide) (by decide) (by omega) 4 (.slice va vn vc);have hB:=HY.out.setOther ⟨w.heap.size + 1,4,none⟩ (by show w.heap.size≠w.heap.size + 1; omega) (.slice va vn vc);have hA0:=hB.set 0 (.int .i64 t.last.err);have hA1:=hA0.set 1 (.bool t.last.did);have hA2:=hA1.set 2 (.int .i64 t.last.value);have hA3:=hA2.set 3 (.int .i64 t.last.stamp);have f0:=(hA3.set 4 (.slice va vn vc)).cell;have HZ:=(mkH (OwnLists w _ _ _) <|((((hO1.setOther hB (by decide) (by decide) (Nat.le_refl _) 0 (.int .i64 t.last.err)).setOther hA0 (by decide) (by decide) (Nat.le_refl _) 1 (.bool t.last.did)).setOther hA1 (by decide) (by decide) (Nat.le_refl _) 2 (.int .i64 t.last.value)).setOther hA2 (by decide) (by decide) (Nat.le_refl _) 3 (.int .i64 t.last.stamp)).setOther hA3 (by decide) (by decide) (Nat.le_refl _) 4 (.slice va vn vc));clear hO0 hO1 hB hA0 hA1 hA2 hA3;go_wp2;exact bodyPost_ret (v:=.tuple #[ansV t.last (.slice va vn vc),.int .i64 0]) (by simp [results,Tryz.results55,go_sem,ansV,f0]) rfl ⟨va,vn,vc,rfl,HZ.out⟩
theorem ZClock_calls (h : ZAt own z w L P) :
  Calls Tryz.prog 46 #[.pointer (some ⟨L.s,0,none⟩)] w fun e w'=>e = .returned (.int .i64 P.clock)/\w' = w:=by
 have hc:=h.hd.cell;simp only [PSt.head] at hc;clear h
 go_enter Tryz.func46,Tryz.ntmps46
 go_wp2;go_ret;exact ⟨rfl,rfl⟩
end
end
section
open Go.RowKit
def freshP (k t n e l : Int) : PSt:={ kind:=k,limit:=l,clock:=0,mem:=freshMem n.toNat e.toNat,ts:=List.replicate t.toNat PThread.zero,sweep:=PSweep.zero }
def ownWk (own : Own) (z : Nat) : List Nat->Nat->Own
 | [],_=>own
 | b :: r,i=>(ownWk own z r (i + 1)).put b z (.thread i)
theorem ownWk_out (own : Own) (z : Nat) : ∀ (l : List Nat) (i k : Nat),k ∉ l->ownWk own z l i k = own k
 | [],_,_,_=>rfl
 | b :: r,i,k,h=>by
  simp only [List.mem_cons,not_or] at h;rw [ownWk,Own.put_ne _ _ _ h.1,ownWk_out own z r (i + 1) k h.2]
theorem ownWk_in (own : Own) (z : Nat) : ∀ (l : List Nat) (i j b : Nat),l.Nodup->l[j]? = some b->ownWk own z l i b = ⟨z,.thread (i + j)⟩
 | [],_,_,_,_,h=>by simp at h
 | c :: r,i,0,b,hn,h=>by simp at h; subst h; rw [ownWk,Own.put_same]; rfl
 | c :: r,i,j + 1,b,hn,h=>by
  simp only [List.getElem?_cons_succ] at h;rw [List.nodup_cons] at hn;have hne : b≠c:=by rintro rfl; exact hn.1 (List.mem_of_getElem? h)
  rw [ownWk,Own.put_ne _ _ _ hne,ownWk_in own z r (i + 1) j b hn.2 h]
  congr 2; omega
def blankWk (b : Nat) : WLay:=⟨b,.slice none 0 0,.slice none 0 0,.slice none 0 0,.slice none 0 0,.slice none 0 0,.slice none 0 0⟩
theorem ZAt.ofNew {own : Own} {z : Nat} {w w' : World} {L : XLay} {k t n e l : Int} (h : XAt w' L (freshX k t n e l)) (hnew : ∀ b,L.own b->w.heap.size<=b) (ht8 : t<=8) :
  ∃ own' L',ZAt own' z w' L' (freshP k t n e l)/\Ext own own' w/\L'.s = L.s:=by
 have n1 : L.s≠L.l.m:=h.hd.ne h.mem.hd (by decide);have n2 : L.l.nb≠L.s:=by have:=h.hd.ne_row h.mem.nodes (by decide); simpa [Value.ownBlock] using this
 have n3 : L.l.eb≠L.s:=by have:=h.hd.ne_row h.mem.ents (by decide); simpa [Value.ownBlock] using this
 have n4 : L.tb≠L.s:=by have:=h.hd.ne_row h.thr (by decide); simpa [Value.ownBlock] using this
 have n5 : L.l.nb≠L.l.m:=by have:=h.mem.hd.ne_row h.mem.nodes (by decide); simpa [Value.ownBlock] using this
 have n6 : L.l.eb≠L.l.m:=by have:=h.mem.hd.ne_row h.mem.ents (by decide); simpa [Value.ownBlock] using this
 have n7 : L.tb≠L.l.m:=by have:=h.mem.hd.ne_row h.thr (by decide); simpa [Value.ownBlock] using this
 have n8 : L.l.nb≠L.l.eb:=by have:=ownsRow_ne h.mem.nodes h.mem.ents (by decide); simpa [Value.ownBlock] using this
 have n9 : L.tb≠L.l.nb:=by have:=ownsRow_ne h.thr h.mem.nodes (by decide); simpa [Value.ownBlock] using this
 have n10 : L.tb≠L.l.eb:=by have:=ownsRow_ne h.thr h.mem.ents (by decide); simpa [Value.ownBlock] using this
 have hlen : (freshX k t n e l).ts.length = t.toNat:=by simp [freshX,freshTs_len]
 have hwt : ∀ (i : Nat) b,L.wks[i]? = some b->At w' b (VWorker.new i).cells 118:=by
  intro i b hb;have hi : i < t.toNat:=by
   have:=(List.getElem?_eq_some_iff.1 hb).1
   rw [h.len,hlen] at this; exact this
  exact h.wk i b _ hb (by simp [freshX,freshTs,hi])
 have hwk : ∀ b,b ∈ L.wks->b≠L.s/\b≠L.l.m/\b≠L.l.nb/\b≠L.l.eb/\b≠L.tb:=by
  intro b hb;obtain ⟨i,hi⟩:=List.getElem?_of_mem hb;have hA:=hwt i b hi;refine ⟨hA.ne h.hd (by decide),hA.ne h.mem.hd (by decide),?_,?_,?_⟩
  ·have:=hA.ne_row h.mem.nodes (by decide); simp [Value.ownBlock] at this; exact fun e=>this e.symm
  ·have:=hA.ne_row h.mem.ents (by decide); simp [Value.ownBlock] at this; exact fun e=>this e.symm
  ·have:=hA.ne_row h.thr (by decide); simp [Value.ownBlock] at this; exact fun e=>this e.symm
 let own' : Own:=(((((ownWk own z L.wks 0).put L.tb z .thl).put L.l.eb z (.oth 2)).put L.l.nb z (.oth 1)).put L.l.m z (.oth 0)).put L.s z .store
 have o1 : own' L.s = ⟨z,.store⟩:=Own.put_same _ _ _ _;have o2 : own' L.l.m = ⟨z,.oth 0⟩:=by show (Own.put _ _ _ _) _ = _; rw [Own.put_ne _ _ _ n1.symm,Own.put_same]
 have o3 : own' L.l.nb = ⟨z,.oth 1⟩:=by show (Own.put _ _ _ _) _ = _; rw [Own.put_ne _ _ _ n2,Own.put_ne _ _ _ n5,Own.put_same]
 have o4 : own' L.l.eb = ⟨z,.oth 2⟩:=by show (Own.put _ _ _ _) _ = _; rw [Own.put_ne _ _ _ n3,Own.put_ne _ _ _ n6,Own.put_ne _ _ _ n8.symm,Own.put_same]
 have o5 : own' L.tb = ⟨z,.thl⟩:=by show (Own.put _ _ _ _) _ = _; rw [Own.put_ne _ _ _ n4,Own.put_ne _ _ _ n7,Own.put_ne _ _ _ n9,Own.put_ne _ _ _ n10,Own.put_same]
 have o6 : ∀ (i : Nat) b,L.wks[i]? = some b->own' b = ⟨z,.thread i⟩:=by
  intro i b hb;obtain ⟨h1,h2,h3,h4,h5⟩:=hwk b (List.mem_of_getElem? hb);show (Own.put _ _ _ _) _ = _;rw [Own.put_ne _ _ _ h1,Own.put_ne _ _ _ h2,Own.put_ne _ _ _ h3,Own.put_ne _ _ _ h4,Own.put_ne _ _ _ h5,ownWk_in own z L.wks 0 i b h.apart hb,Nat.zero_add]
 have hE : Ext own own' w:=by
  intro j hj;have hno : ¬ L.own j:=fun hh=>by have:=hnew j hh; omega
  simp only [XLay.own,not_or] at hno;obtain ⟨h1,h2,h3,h4,h5,h6⟩:=hno;show (Own.put _ _ _ _) _ = _;rw [Own.put_ne _ _ _ h1,Own.put_ne _ _ _ h2,Own.put_ne _ _ _ h3,Own.put_ne _ _ _ h4,Own.put_ne _ _ _ h5,ownWk_out own z L.wks 0 j h6]
 have hpl : (freshP k t n e l).ts.length = t.toNat:=by simp [freshP]
 refine ⟨own',⟨L.s,L.l,.slice (some ⟨L.tb,0,none⟩) t.toNat L.tcap,L.wks.map blankWk,.slice none 0 0⟩,⟨?_,o1,h.mem,o2,o3,o4,?_,?_,?_,Row.nil _ _ _ _ _ _,?_⟩,hE,rfl⟩
 ·have:=h.hd
  rw [hlen] at this;exact this
 ·refine ⟨?_,?_⟩
  ·have:=h.thr
   rw [hlen] at this;rw [hpl];have e : wptrs (L.wks.map blankWk) = ptrs L.wks:=by unfold wptrs ptrs; rw [List.map_map]; rfl
   rw [e]; exact this
  ·intro j hj; simp [Value.ownBlock] at hj; subst hj; exact o5
 ·rw [List.length_map,h.len,hlen,hpl]
 ·intro i lw tw hl ht;rw [List.getElem?_map] at hl;cases hb : L.wks[i]? with
  | none=>rw [hb] at hl; simp at hl
  | some b =>
   rw [hb] at hl; simp at hl; subst hl;have htw : tw = PThread.zero:=by
    have : tw ∈ List.replicate t.toNat PThread.zero:=List.mem_of_getElem? ht;exact (List.mem_replicate.1 this).2
   subst htw;exact ⟨hwt i b hb,o6 i b hb,Row.nil _ _ _ _ _ _,Row.nil _ _ _ _ _ _,Row.nil _ _ _ _ _ _,Row.nil _ _ _ _ _ _,ListsAt.none _ _ _,ListsAt.none _ _ _⟩
 ·rw [hpl]; omega
end
end Go.Proofs.YtfccelbmacjifabGreat
